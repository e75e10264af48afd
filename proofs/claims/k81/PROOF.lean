import PyProof.Rows.All
import Wide.All
import OpenK.AllK
import Wide.FinOn
import Lean
import PyProof.EqAt
import PyProof.EqKinds
import PyProof.TupleCall
import KE.KRevIter
import PyProof.AutoListH
import KE.KDictOf
import PyProof.AttrMissHeap
import PyProof.ListRange
import PyProof.Rows.SortWalk
import KE.KNestM
import KE.KLam
import PyProof.MinMaxWalk
import PyProof.Rows.CallKwBuiltin
import PyProof.Rows.SetFrom
import PyProof.CollectWalk
import PyProof.SetRoads
import PyProof.Rows.SortStr
import KE.KEqDict
import PyProof.DictUpdate
import KE.KItemsList
import KE.KDictList
import PyProof.StrWalks
import KE.KUnpack
import PySem.Challenge.RW_evenyoke_k81_whole_same_by_any_road
def w_T:Lean.NameMap String:=("Χ=List Qi;Φ=List D;ζ=rV 0;Υ=se o;ϣ=s.heap.get? b;ε=rV 1;ϖ=List Value;υ=List α;'&'=H'.get? b;PM=.ref s.heap.objs.size;'#'=Qj c;ϝ=ds.zip us;'*'=Qj c';ϋ=.str x;ό=.mr ns;Ϛ=List QK;ύ=.ref a;'W'=cs.map RU;θ=rV 2;μ=rV 4;BT=ts.lookup b;ZY=aa.map .int;ZH=Option Value;χ=rV 3;ZZ=s.heap.get? c;TT=Array Value;ϒ=g.G a;OE=aC.map Qu;gV=.inl rfl;lP=aO.mp hd;Z5=s.heap.get? a;Tm=List NAP.Cr;Ty=Option Int;ϐ=rV 5;LQ=bH rfl;ο=se p;σ=se x;ϛ=g.G b;τ=se r;'5'=ks.zip us;tA=.ref f;lS=se .loc;ZI=.ref it;Of=ss.map .int;ZP=h'.get? c;'K'=l.map g;H9=j.tl.tl.gbl q;VK=Option D;LG=Rn ws;KH=ws.map .int;'D'=H.get? b;ϓ=se c;Pb=sc.names.lookup x;Ϡ=se d;rv=.ref C;Z6=se .local;ZQ=aT.mp hd;ϙ=rN 0;tv=RX.R D;'0'=Qq c;Ou=SU gone;ϭ=bG _;'2'=g.less fp;XK=List γ;LH=Option Bool;Ϝ=se q;Hf=X.env.cells.lookup x;K2=X.env.cells.lookup y;Cx=P8 rfl;'E'=l.zip R;Z7=se .cell;'^'=s₁.heap.get? b;ϡ=nh h;Ϣ=Cl h;'%'=Ss l;Oc=Gs.upd_ne n;J6=Y.comp S.nd;N7=cell.fdiv 18;'?'=X.B.C.nm c;Fr=Y.no _;Ϥ=se y;MG=Rx x.cps.toList;NY=SU hs;NA=H'.get? a;TA=se (.own i);TE=.bl tj;ta=QN st;'.'=Qq c';Ϩ=se s;N2=List υ;Iu=Builtin.Tuple.tupleExact _;OA=.lst OE;ϩ=QY x;Np=Option Zt;'s'=I.ok.mod.glob.keeps I.bk;ZR=se ρ1;ZS=se NY;ZT=se (.dat o);Pq=env.cells.lookup x;NM=K.lookup f;OP=T.B.C.cl c;NK=List Bool;Jw=Option Qi;ND=ps.zip us;Ia=List QD;HX=env.kindOf x;Ms=b.fdiv g;'/'=R8 aa;Z0=.lst l;Z1=SB ε;'J'=L.zip bD;'i'=p.zip qs;Nh=Xn hs;'Z'=cs.map Nh;Ie=j.tl.tl.gint q;ϳ=cQ _;Z8=.int x;Z9=dL ϭ;'R'=T.B.C.lm k;'r'=N.ends.zip ac;Hr=se .free;ϸ=rV 6;Nv=ac.map .int;'b'=Qq t;Mf=List V;lT=se a;oO=P7 c;MW=.seq vs.toArray;KQ=AllBare s'.gens;te=se l;'~'=l.map f;'O'=Qq l;HM=Option α;JK=h'.get? b;IX=Option Nat;JO=se Ou;'8'=h.get? a;Lx=.fields vs;LV=.int k;It=.bool tj;LI=Heap.lt_size e;Nq=.bl ff;NC=.nx ρ;':'=L.zip ps;'_'=K w.params;'U'=H.get? a;JY=X.env.scope.names.lookup x;Pw=X.env.scope.names.lookup y;'>'=P8 c;tE=rV 8;Lh=List Qh;'y'=l.map D.int;'9'=D.flow.load_le he;G5=.ml 'W';Ik=.str ch;IF=ah.map .int;Ix=.head _;Mr=ds'.zip us';KY=.ref c;Og=fI rfl;ME=List Env;Mi=.inr rfl;Pa=se ds;G8=h.get? c;'S'=aH.mp h1;'l'=aH.mp hi;PY=.ref h.objs.size;Pl=Sc st;Jy=bF.mp hk;NW=L.map Xu;NX=.lst KH;'a'=g.back g';Na=List β;Hw=se (se (tA));'h'=aM aC.length;'<'=aH.mp e;HN=.ref l;NJ=.int n;'z'=l.filter p;NB=cT.mp z;Gl=hn h;Hb=rV 9;Hc=xA h;HT=xB h;Hu=t.Perm 'Z';Hg=g'.G b;'3'=aM ae;La=aG hq;TG=se u;'C'=aM E;TO=pl h;Jh=se ff;O7=se ϋ;Nd=se Ϡ;Jb=K.In s.heap;'c'=aH.mp hp;'g'=eA.mp nd;KD=ns.map .int;MA=.int i;Ih=.int y;Nz=SL st;Oe=cl.lookup x;Jg=dF.mp hx;Nw=aG hx;Im=l.map D.str;'T'=dr x;XL=wk c;Kb=d.fdiv g;Yr=WZ p;NU=Rx ds;Nm=.lst (ed.map WP);WM=aj.map .int;Jn=g'.G a;'k'=X.B.C.lm k1;O8=.lst ds;'V'=r.zip s;'!'=ks.zip vs;ZJ=se v;ZK=P7 z;ZL=P8 z;ZM=Sd p;Ng=s.heap.get? l;Md=.int l.length;MQ=aG hc;'I'=I.hk.hid I.nf;Jr=.int d;JQ=pyNext ZI;Mp=pyIter ZI;Pf=NAG.gl13 h2;Wp=SB θ;JW=SB χ;Oh=NAG.gl6 h12;JA=.pin o;Lf=.slo o;OH=X.B.C.cl c;'j'=X.B.C.lm k;Po=List Np;'G'=aM ag.length;PG=aM ws.length;'+'=aH.mp hx;'-'=aH.mp hj;'w'=aH.mp hq;Io=P.zip vs;Hq=bf hq;JR=l.map nD;'7'=bY.mp hx;L9=.ml Of;Jl=.lst 'W';Jt=.lst (gs.map .int);PX=.lst (ts.map .int);MD=.lst (ai.map WP);Kk=rC .non;JS=Xd ff;IT=NAP.Rt h1;IS=R.take i;'N'=ks.map D.str;'A'=iL.map _;HK=c.fdiv 7;Pc=cell.fdiv 30;'4'=B.C.lm k;MF=X.B.C.K.In s.heap;Px=.inr k;L3=Option β;M5=K.In base;X5=.int 1;JV=.int 0;He=.int w;OF=w.path c7;L8=ag.map Wt;MB=F.args_tuple_iterator_next_1 _;MJ=p.idxOf x;Kn=tk.take i;I8=Iρ ρ;KP=K.nd.length_le_of_subset K.inn;JM=se tj;Oa=se ng;'H'=cx hx;Hj=ns.map .str;K3=Builtin.SmallTypes.nextOf ZI;O9=xss i;Hn=Rz aC;Js=SO tj;NN=Xd tj;Me=jH H.ct.ndc;Ml=s.subset hq;Os=cell.fdiv 6;Mq=base.get? b;KG=.seq us.toArray;Hm=Heap.lt_size ho;'o'=rest.eraseIdx m;'M'=aH.mp h;O3=.int ae;NH=aO.mp h;Mo=bR.mp z;HU=.nx ρ';'6'=seen ks;Pd=Option Φ;Lj=se ob;MU=se ό;'@'=aH.mp e1;'f'=aH.mp h2;'F'=aH.mp eh;IJ=.ref e;K6=pure ND;KJ=.int e;Ig=aG z1;Kf=b.fdiv j;Kq=d.fdiv e;O0=aO.mp this;Pi=.rt v;LP=.lst ZY;LS=.lst Of;JN=Vs ff;HJ=wB (f i);Hl=Fl.nx ρ;Hs=bs.map .bl;Ho=Qu way;NI=row.take i;Li=way.map nD;'L'=Qq cs;Kj=z.at_ il;Jj=nd.length_le_of_subset inn;NQ=H'.get? it;JC=X.env.kindOf x;'B'=VL.mp hc;OK=False.elim hq;LR=Option UV;KC=pure none;Oz=.int cell;Py=NAP.unr aa;'1'=xs.take i;IQ=eE.mpr hl;Ls=es.map nD;Wm=ks.take i;'Q'=r.zip row;L6=p.idxOf y;KF=t.Perm t';Ky=il.push _;KM=R.sat.i q;Ks=Lean.MacroM Lean.Syntax;Pg=se (.own h.length);HZ=se (.dat oc);X4=env.kindOf n;GZ=.ref c2;Ij=pure ff;G0=acc.lookup x;JX=aT.mp h;'x'=aT.mp z;LN=cE this;HP=Heap.DictOf.new s.heap;Pz=.tup ds;G9=SB ζ;Ob=Ss 'i';Iw=ks.map V.str;JH=cell.fdiv 15;Kx=gr.le.held W;΢=rC (.int $0);Ψ=aD $0 rfl $1;Ω=aE $0 rfl;Ϲ=SeqAt $0 s.heap $1 $2;π=se (.lst $0);HH=Calls.spliced_cons (Rj $0 $1);tx=RH gs.length $0 $1;Lr=g.hid $0 X.env.locals;Id=Ts items.size $0 $1;ω=se (.int $0);ZU=NAH.Ts ds.length $0 $1;ν=.ok $0 h';ϔ=Qt prog $0;Nu=envOfC $0 $1 s.heap.objs.size $2 $3;ξ=aZ rfl $0 $1;wr=ha.h $0 q.bnd;Ϭ=RQ $0 X.env;ϫ=VW $0 scope $1 $2;K9=Heap.SameBut $0 s.heap $1;CC=ar.getD $0 ng;ψ=aK rfl $0;M1=.ListComp $0 $1 scope $2;ϧ=h.set i $0;ώ=zcg rfl $0;ϊ=bh rfl $0 $1 $2;Ji=be ag.length $0;Ϻ=NAP.Ub LG $0;ϴ=QM $0 X.env;ς=Ql $0 (Ql $1 $2);ϑ=QP $0 $1 ζ;Ϗ=Qo $0 $1 ζ $2;Zy=takesIn ws $0 $1;CX=ab.getD $0 0;KK=ws.getD $0 0;η=Qz $0 (rN $1);OW=s.heap.IsList $0 us.toArray;Ϙ=aE rfl $0;TS=aC.getD i $0;Ot=.Attribute o $0 $1;ϰ=rC (.str $0);ϱ=.ok (.nx $0) $1;K7=cf $0 16777216;Zz=ns.getD $0 0;ZA=aX.getD e $0;PF=cI (Heap.lt_size $0);Nk=Rw gs.length $0;Ϟ=se (.mi $0 $1);ϵ=se (.pin $0);ϟ=Qr (SO ff) $0 $1;϶=R.bnd $0 _;OT=I.hk.st $0 $1 (.inl $2);ϥ=se (.ml $0);Ϧ=Qc ε $0;ZC=Ra X.B.P $0;ZD=NAP.Lv aa $0;ZE=NAP.nr aa $0;Z2=.Call $0 $1 $2 pos;Ja=s.heap.push (so $0);I9=aD $0 $1 add_int;NP=base.BuiltinsAt mg $0;Il=V3 ad.length $0 $1 $2;Yv=trunc h.length $0 $1;Mv=.BoolOp $0 $1 pos;yk=W1 $0 gone $1;N0=Kept $0 aF.length $1 $2;Jc=.lst (l.map $0);Ϯ=Q5 ε $0;ZV=Qt X.B.P $0;H8=pure (ForInStep.yield $0);ZW=.ok .non $0;ϯ=Qc ζ $0;O4=R.sat.unb (q.bnd.mono $0);G2=se (.builtin $0);PE=.int (.ofNat $0);Iz=Walks.list $0 s.heap.objs.size $1 $2 $3;J4=absurd rfl $0;ϲ=.ok $0 h1;L2=.Name x $0;Jp=I.hk.th $0 $1 $2 $3 e0;Hd=Calls.callWith_builtin $0 (gi $1 $2);O5=h.set $0 (.ml $1);Z3=t.map (Sm $0 $1);H7=D.int (.ofNat $0);Ϸ=sR $0 LQ;NZ=.Name $0 py;NO=bs.getD $0 ff;IH=load N.ends $0 $1;JD=placeOf ag $0;Ic=NAP.load $0 $1 e;oR=upTo $0 n;ϻ=Qr (S8 ff) $0 $1;N6=RK (aC.take $0) $1;ZN=se (.ref $0);ZX=upTo $0 ae;Pn=.bl (decide $0);J9=RX.R.bnd $0 _;IZ=I.hk.al $0 _ $1;PU=strKind prog $0;ϗ=Qy (Qr $0 $1 $2);LM=RX.R.ok $0 _;Oy=Builtin.Slice.slicePlaces $0 $1 1;PH=QX $0 $1 $2 us.length;J8=RX.R.ok $0 (hp $1 $2);Jm=.Name $0 p2;N5=h.push (RN $0 $1);Hx=ee (Ne.symm $0);HI=h'.DictOf $0 s.heap.objs.size $1;Pp=ac.getD k $0;KI=l.getD $0 0;Pr=NAP.upTo $0 n;MI=fz $0 h.length $1;IV=trunc $0 .non $1;ZF=Qc θ $0;ZG=Qc ϐ $0;My=Qo $0 $1 μ $2;PR=NAP.Zi N.bB $0;HQ=I.hk.st $0 $1 (.inr $2);Jv=aG (bF.mpr $0);bx=ag.getD $0 0;Hh=bq $0 h.length;MY=g.trunc H $0;Ov=A.under (.builtin $0 $1);Mg=typeLookup (.type $0) $1;ZO=Q5 ζ $0;PW=Calls.spliced_cons (Qp $0);NR=R.ok (D.bl $0) $1;Kg=s.heap.IsCell c $0;Jz=cellsFrom $0 scope.names $1;J5=R.map (XA $0);HV=Y.room.mono (nK $0);JF=se (.type $0);PL=.lst (hs.map $0);VC=Qd (wpAny_rule $0);IC=Builtin.SmallTypes.nextOf (.ref $0);No=Q5 χ $0".splitOn ";").foldl (fun m l=>let p:=l.splitOn "=";m.insert (.mkSimple p.head!) (p.getD 1 "")) {}
def w_A (P:Array Lean.Term) (w:String):Lean.Term:=if w.front=='$' then P.getD (w.drop 1).toNat! ⟨.missing⟩ else if w=="_" then ⟨Lean.mkHole .missing⟩ else if w.front=='.' then ⟨.node .none ``Lean.Parser.Term.dotIdent #[.atom .none ".",Lean.mkIdent (w.drop 1).toString.toName]⟩ else if w.front=='\'' then ⟨Lean.Syntax.mkCharLit (w.toList.getD 1 ' ')⟩ else if w.front.isDigit then ⟨Lean.Syntax.mkNumLit w⟩ else ⟨Lean.mkIdent w.toName⟩
def w_R (P:Array Lean.Term):Nat→List Char→String→Array Lean.Term→Lean.Term×List Char
 |n+1,c::l,w,a=>let a:=if w==""||!(c==' '||c=='('||c==')') then a else a.push (w_A P w);if c=='(' then let (x,l):=w_R P n l "" #[];w_R P n l "" (a.push x) else if c==')' then (⟨Lean.Syntax.mkApp a[0]! a[1:]⟩,l) else w_R P n l (if c==' ' then "" else w.push c) a
 |_,l,_,_=>(⟨.missing⟩,l)
def w_D (i:Lean.Name) (x:Array Lean.Term):Lean.MacroM Lean.Syntax:=match w_T.find? i with
 |some s=>if s.contains '$'!=(0<x.size) then Lean.Macro.throwUnsupported else pure (w_R x 999 (s.toList++[')']) "" #[]).1
 |none=>Lean.Macro.throwUnsupported
local macro_rules (kind:=ident)|`($i:ident)=>w_D i.getId #[]
local macro_rules|`([$i:ident,$x,*])=>w_D i.getId x
def w_C (c:Lean.CharLit):=Lean.Name.mkSimple s!"'{c.getChar}'"
local macro_rules (kind:=char)|`($c:char)=>w_D (w_C c) #[]
local macro_rules|`([$c:char,$x,*])=>w_D (w_C c) x
set_option hygiene false
local macro_rules
 | `(Τ)=>`(by simp_all)
local macro_rules
 | `([Ϫ,$a,$b])=>`(decide ($a∉$b))
 | `([ϕ,$a])=>`(RD '#' $a)
local macro_rules
 | `([KO,$a])=>`(! decide $a)
local macro_rules
 | `([Z4,$a])=>`(RD '*' $a)
local macro_rules | `(tactic| lia)=>`(tactic| first | assumption | exact Nat.le_refl _ | exact Nat.zero_le _ | exact Nat.le_of_lt (by assumption) | exact Nat.succ_le_of_lt (by assumption) | exact Nat.lt_of_not_le (by assumption) | exact Nat.le_of_not_lt (by assumption) | exact Nat.ne_of_lt (by assumption) | exact Nat.ne_of_gt (by assumption) | exact Nat.le_of_lt_succ (by assumption) | exact Nat.lt_succ_of_le (by assumption) | exact Nat.lt_succ_of_lt (by assumption) | exact Nat.le_of_eq (by assumption) | exact Nat.le_of_eq (Eq.symm (by assumption)) | exact Int.le_of_lt (by assumption) | exact Int.not_lt.mp (by assumption) | (simp (maxSteps:=500) only [*,true_and,and_true,and_self,Nat.le_refl,Nat.zero_le,not_false_eq_true];done) | lia (verbose:=false))
set_option hygiene false
local macro_rules | `(#[$a,*])=>`(⟨$a,*⟩)
open PyProof.Rows renaming assignInOrder_cons→Rh,assignInOrder_nil→Vc,tail_any→Vp
open PySem renaming wpAny_bind→Qd,Shared→Qe,Addr→Qh,Str→Qi,wpAny_pure→Qk,wpAny→Qn,wpAny_Call_Name_kw→Qp,Around→Qs,model→Qt,Program→Qv,mainGlobals→Qw,Expr→QD,Heap→QF,starEach→QM,bootBuiltins→QR,sliceBounds→QX,World→Q0,FuncData→Q8,wpAny_pyIter_list→Rd,wpAny_field→Ri,wpAny_truthy_bool→Rq,wpAny_newObj_type→Rr,Obj→RB,wpAny_setField_rec→RF,eval→RQ,Stmt→RV,wpAny_passesOwn→RW,letOwnedTupleGo→RY,wpAny_mono→Se,wpAny_holding→Sf,wpAny_callSpecial?_slot→Sk,sizeLine_eq→Sn,codeAny_mono→Sz,wpAny_seqItems→SP,sysModules→SS,call_meets→S6,wpAny_call_entry→S7,codeAny_builtin→Ti,getattributeRaised→Tk,Pos→Tx,wpAny_pyNext_list_item→TJ,wpAny_pyNext_list_end→TY,stored→T5,assignEach→T8,wpAny_execs_nil→Uj,codeAny→UA,swapsWith→UC,wpAny_newFunctionEnv_cells→UF,compEnvC→UT,Scope→UU,NameKind→UV,wpAny_getItem_list_slice→Vf,rawInt→Vg,slicePick→Vq,codeAmong→Vw
open Bool renaming true→tj,false→ff
open Option renaming some→se,none→ng
open Array renaming mem_toList_iff→zH
open Bool renaming and_eq_true→bW,eq_iff_iff→fG,eq_false_iff→gj,not_eq_true'→jr,eq_false_or_eq_true→qo,false_xor→kB,and_eq_true_iff→qq,or_eq_true→mX,false_ne_true→qr,false_eq_true→vL,or_false→vM,true_xor→vO,not_eq_true→zI,and_false→zJ,and_true→zK
open Int renaming le_of_lt→cE,le_refl→cQ,eq_of_mul_eq_mul_right→ka,ne_of_gt→d9,gcd→bP,mul_lt_mul_of_pos_right→mY,mul_fdiv_cancel_left→lD,mul_right_comm→jt,mul_le_mul_of_nonneg_right→oZ,lt_or_le→gm,le_trans→gq,mul_comm→gu,emod_lt_of_pos→kb,mul_assoc→iC,mul_nonneg→i6,eq_ofNat_of_zero_le→o0,emod_nonneg→kc,dvd_refl→iK,natAbs_mul→ke,natAbs_dvd_natAbs→o3,mul_le_mul_of_nonneg_left→tH,lt_of_mul_lt_mul_right→tI,lt_of_lt_of_le→o4,zero_add→lF,le_of_eq→lG,mul_pos→kC,le_of_mul_le_mul_right→vP,add_zero→mZ,gcd_comm→m9,zero_mul→ni,natCast_nonneg→tJ,dvd_trans→o5,toNat_natCast→tK,mul_left_comm→tL,lt_irrefl→qu,add_mul→o6,ofNat→lH,eq_of_mul_eq_mul_left→zL,mul_add→qv,ediv_mul_cancel→zM,toNat→vQ,lt_of_le_of_lt→zN,natAbs_natCast→zO,natAbs_add_le→zP,ofNat_lt→vR,neg_mul_neg→zQ,ediv_nonneg→zR,one_mul→vS,le_antisymm→zS,sub→qy,add→tM
open List renaming getElem?_eq_some_iff→aH,getElem?_eq_getElem→aJ,mem_of_getElem?→aG,mem_cons_self→aI,mem_cons_of_mem→aY,getD_eq_getElem?_getD→bC,getElem?_zip_eq_some→bF,getElem?_of_mem→bf,mem_map→aO,mem_cons→aT,getElem?_map→bo,length_map→a8,range→aM,replicate→be,map_congr_left→cq,map_cons→bA,mem_filter→bY,take_of_length_le→dL,mem_append_left→c9,idxOf_lt_length_of_mem→fH,mem_singleton→cT,of_mem_zip→cx,getElem?_eq_none→eG,mem_append_right→eI,getElem?_set_ne→ee,map_append→cP,getElem?_append_right→gw,sum_cons→cy,map_map→cj,mem_append→dE,length_pos_iff→eY,length_append→eU,not_mem_nil→dQ,length_filter_le→gy,getElem?_set_self→gT,mem_range→dF,nodup_cons→eA,length_set→eD,size_toArray→fR,getElem?_append_left→i7,append_assoc→gb,length_cons→fS,rec→bZ,filter_sublist→iL,length_take→h8,any_eq_true→ia,zip_cons_cons→iM,contains_iff_mem→kf,getElem?_range→ju,lookup_cons→iN,ext_getElem?→i8,getElem?_replicate→lI,all_eq_true→i9,length_range→jv,length_eq_zero_iff→nj,getElem?_zipIdx→lJ,getElem?_dropLast→nq,pairwise_iff_getElem→o7,getLast?_eq_getElem?→o8,filter_cons→kg,getElem_mem→kh,mem_flatMap→kj,length_replicate→nu,nodup_append→kD,pairwise_cons→lK,length_zipIdx→lM,take_length→kE,replicate_succ→nz,drop_eq_getElem_cons→qz,sum_append→kF,set_set→ja,set_append_right→o9,length_zip→kG,getElem?_take_of_lt→qB,getElem?_take→nH,append_nil→lN,getD→gU,range'→jw,zip_append→lO,range_succ_eq_map→qC,length_pos_of_mem→qD,exists_cons_of_ne_nil→tO,set_cons_succ→pb,getElem?_set→ph,eraseIdx_eq_take_drop_succ→vT,getElem?_cons_succ→tP,cons_append→pi,filter_append→qE,foldl_cons→pj,getElem?_concat_length→vU,getElem?_eq_none_iff→vV,take_succ→pq,filterMap_cons→tQ,filter_eq_self→tR,mem_map_of_mem→tS,idxOf_lt_length_iff→vW,set_cons_zero→tU,range_succ→qF,getElem?_drop→tV,pairwise_mergeSort→vX,getElem_idxOf→tW,length_eq_one_iff→vY,any_eq_false→tX,map_id→nJ,take_sublist→tY,eraseIdxIfInBounds_toArray→zU,length_singleton→vZ,getElem?_zipWith→v3,map_set→pr,pairwise_flatMap→v5,countP_cons→tZ,nodup_range→ua,map_fst_zip→ub,nodup_iff_count→v6,getElem?_append→v7,range_eq_range'→v8,dropLast_concat→v9,dropLast_concat_getLast→zV,mergeSort_perm→wa,flatMap_append→wc,mem_filterMap→we,filterMap_map→wg,map_nil→qG,count_flatMap→wh,count_pos_iff→wj,exists_mem_of_ne_nil→zW,mem_or_eq_of_mem_set→zX,take_append_getElem→zY,foldl_append→wo,eq_of_mem_replicate→zZ,zip_map_left→wq,pairwise_map→wt,length→qH,filter_cons_of_neg→z8,filter_cons_of_pos→z9,range'_succ→wu,ext_getElem→wv,map_snd_zip→ww,pairwise_lt_range→Aa,drop_eq_nil_of_le→Ab,count_cons→wx,idxOf_cons→wy,filter_map→wz,getLast?_concat→Ac,toList_toArray→Ae,perm_iff_count→Af,reverse_append→Ag,length_reverse→Ah,zipIdx_map_fst→Ai,any_cons→wC,map_take→wD,map_drop→wE,filter_congr→Aj,sum_nil→wF,any_map→wG,map_id'→wH,length_drop→Ak,count_range→Al,take_append→Am,forIn_cons→An,take_left'→Ao,any_append→Ap,map_const'→Aq,find?_cons→Ar,nil_append→As,forIn_nil→Au,all_cons→Av,le_total→Aw
open List.Pairwise renaming imp_of_mem→Ax
open List.Perm renaming refl→lQ
open Nat renaming le_refl→bG,le_trans→b9,ne_of_lt→cI,blt_eq→bR,lt_succ_of_lt→e9,lt_of_lt_of_le→gz,blt→bq,ne_of_gt→eV,beq→bJ,lt_succ_self→iO,ble→cf,ble_eq→eE,le_of_lt→gD,beq_refl→gE,eq_of_beq_eq_true→lR,lt_of_le_of_lt→kH,le_add_right→kn,le_of_ble_eq_true→nK,pow_le_pow_right→nM,lt_trichotomy→lU,not_lt_zero→kI,le_mul_of_pos_right→qI,le_succ_of_le→nO,zero_le→jb,eq_zero_or_pos→pA,lt_irrefl→nQ,mul_le_mul_right→uc,succ→iP,le_succ→lV,le_of_lt_succ→ud,lt_succ_of_le→ue,le_of_not_lt→uf,zero_add→qJ,lt_trans→qK,add_comm→qL,sub_self→qM,rec→jx,add_assoc→ug,add_sub_cancel_left→Ay,le_of_eq→uh,add_right_comm→Az,lt_of_le_of_ne→AA,lt_or_eq_of_le→AB,add_left_comm→AC,min_eq_right→AD,one_mul→wI,log2_lt→wJ,add_mul→wK,min_eq_left→AE,mul_le_mul→AF,beq_eq→wL,le_of_dvd→AG,gcd→ui
open Nat.succ renaming inj→jy
open Option renaming map_eq_some_iff→jc,isSome_iff_exists→uj,map_some→pB,getD_none→AH,getD_some→AI
open Option.some renaming inj→c8
open Or renaming inr→qN
open PyProof.Rows renaming slot_tuple_getitem→wM,lt_int→AJ
open PySem renaming callWith_type→jd,mem_of_lookup→lW
open PySem.F renaming plainAttrs_list→qO,plainAttrs_dict→wN,slot_dict_update→AK,slot_str_getitem→AL,slot_list_pop→AM,type_list_pop→AN,slot_dict_get→AO,slot_dict_pop→AP
open PySem.SeqAt renaming shaped→AQ
open PySem.W renaming Frag→bj,keepIn→gW,findIn→ic,fnOf→gX,codeIn→ko,kia_one→kJ,nsIn→kq,emptyDict→pC,makesIn→pD,mg_of→nR,plainGet→qP,isFn→nU,cellsFrom_some→wO,hasDictIn→uk,instObj→um,plainGet_of→wP,lookIn→uo,tabObj→uq,plainOver→wQ,kitx_list→wR,codeHdIn→wS,takerIn→wT,callWith_of→AS,codeHd_of_K→AT,handedIn→AU,kla_obj→AV,noTabs→AW
abbrev Zx:=Int×Int
abbrev Zw:=List Nat
abbrev Zv:=List Int
abbrev Zu:=List (Nat×Nat)
abbrev Zt:=List (Int×Int)
abbrev Zs:=List (List Nat)
abbrev Zr:=List (List (Int×Int))
theorem P7.{u} {c:Prop}{h:Decidable c}(k:¬c){α:Sort u}{t e:α}:ite c t e=e:=if_neg k
theorem P8.{u} {c:Prop}{h:Decidable c}(k:c){α:Sort u}{t e:α}:ite c t e=t:=if_pos k
theorem P9 {p:Prop}[h:Decidable p](k:p):decide p=true:=decide_eq_true k
theorem Qa {p:Prop}[h:Decidable p](k:decide p=true):p:=of_decide_eq_true k
theorem Qb {p:Prop}[h:Decidable p](k:¬p):decide p=false:=decide_eq_false k
set_option compiler.extract_closed false
set_option linter.all false
set_option Elab.async false
noncomputable section
namespace NAG
section
variable {a b c d e:Nat}{i j k l m n:Int}
theorem gl0(h1:a<b)(h2:b<=a):False:=by lia
theorem gl1(h1:b<a):a≠b:=by lia
theorem gl2(h1:a<=d)(h2:c+1<=b+1):a+(b+2-(c+1))+1<d+(b+2-c)+1:=by lia
theorem gl3(h1:a<=b)(h2:¬(a<b)):a=b:=by lia
theorem gl4(h1:a<=900):a<16777216:=by lia
theorem gl5(h1:a+1*(b+3)<=d):a+(b+2-c)+1<d+(b+2-(c+1))+1:=Nat.succ_lt_succ (gz (gz (Nat.add_lt_add_left (kH (Nat.sub_le _ _) (iO _)) a) (by rw[wI] at h1;exact h1)) (kn _ _))
theorem gl6(h1:a<=12):a<=20:=by lia
theorem gl7(h1:a<=30):a<=64:=by lia
theorem gl9(h1:a<=b)(h2:b<=c)(h3:c<=900):a<1000:=by lia
theorem gl10(h1:a<=900):a<=1000:=by lia
theorem gl11(h1:a<c/\0<i)(h2:b=d)(h3:c<=d):a<b:=by lia
theorem gl12(h1:a<=900):a<1000:=by lia
theorem gl13(h1:a<b+(c+1)):a<b+1+c:=by lia
theorem gl14(h1:b<a):a-b=a-(b+1)+1:=by lia
theorem gl15(h1:a<=20):a<=1000:=by lia
theorem gl17(h1:a<=20):min a b<1000:=by lia
theorem gl18(h1:a<=20):a<0+1000:=by lia
theorem gl23(h1:0<=i)(h2:¬(0<i)):i=0:=by lia
theorem gl24(h1:0<j)(h2:i<j):Int.toNat i<vQ j:=by lia
theorem gl25(h1:a=b)(h2:b<=30):a<1000:=by lia
theorem gl26(h1:a<=b)(h2:b<=20):a<=900:=by lia
theorem gl27(h1:0<a)(h2:0<b)(h3:b+a=c):2*a-1+(2*b-1)<2*c-1:=by lia
theorem gl28(h1:0<a):(a:Int)≠0:=by lia
theorem gl29(h1:0<=i):i=(Int.toNat i:Int):=by lia
theorem gl30(h1:a<b):a<=b-1:=by lia
theorem gl31(h1:a<=40):a<=1000:=by lia
theorem gl32(h1:a<=40):a<1000:=by lia
theorem gl33(h1:a<=12):a<1000:=by lia
theorem gl34(h1:a<b)(h2:a<c):min a b=min a c:=by lia
theorem gl36(h1:0<a):max 0 (min 1 (a:Int))=1:=by lia
theorem gl37(h1:a<c)(h2:b=d)(h3:c<=d):a<b:=by lia
theorem gl38(h1:a<=16777216):(a:Int)<9223372036854775808:=by lia
theorem gl40(h1:i<=k)(h2:j<=l):i+j<=k+l:=by lia
theorem gl41(h1:0<=j)(h2:i<=k):i<=j+k:=by lia
theorem gl43(h1:a<b+1)(h2:¬(b=a)):a<b:=by lia
theorem gl44:i+(j-k)+l=i+l+(j-k):=by lia
theorem gl50:(i*j+k*l)*m*n=i*n*j*m+k*n*l*m:=by lia
theorem gl51(h1:a<b+c)(h2:¬(a<b)):a-b<c:=by lia
theorem gl52:(a+1+1)/2=a/2+1:=by lia
theorem gl56(h1:a<c)(h2:c<=b):a<b:=by lia
theorem gl59(h1:a<=20):a<1000:=by lia
theorem gl60:0<=(a:Int)+1:=by lia
theorem gl61(h1:0<=i)(h2:i<=0):i=0:=by lia
theorem gl62(h1:i=(a+1:Int)):1<=i:=by lia
theorem gl63(h1:a<=1000):a<16777216:=by lia
theorem gl65(h1:k+i<=l+j)(h2:l<=k):i<=j:=by lia
theorem gl66(h1:i<=k)(h2:k<=j):i<=j:=by lia
theorem gl67(h1:a<b+1)(h2:¬(a=b)):a<b:=by lia
theorem gl69(h1:b<=40):min a (min b c)<=1000:=by lia
theorem gl70(h1:0<i)(h2:i<=j)(h3:j<=0):False:=by lia
theorem gl71(h1:b<a):¬(a+1=b+1):=by lia
theorem gl72(h1:b<a):¬(a<b):=by lia
theorem gl73(h1:b+c=e):a+(b+(c+d))=a+(e+d):=by lia
theorem gl74(h1:0<=j):i<=i+j:=by lia
theorem gl75:a-1-b-1=a-b-2:=by lia
theorem gl76(h1:a<b)(h2:c=b)(h3:c<=a):False:=by lia
theorem gl77(h1:b<a):¬(a-1<b):=by lia
theorem gl78(h1:b<a)(h2:¬(a=b+1)):¬(a-1=b):=by lia
theorem gl79(h1:b<a):¬(a+1<b):=by lia
theorem gl82:¬(a+b<a):=by lia
theorem gl87(h1:(a:Int)=(b:Int)):a=b:=by lia
theorem gl91(h1:a<b):a<b+c:=by lia
theorem gl94(h1:0<=j):i-j<=i:=by lia
theorem gl97(h1:0<j)(h2:j<=i):0<i:=by lia
theorem gl98(h1:(a:Int)<=j)(h2:j<(a+1:Int))(h3:j=i):i=(a:Int):=by lia
theorem gl99(h1:i=(a:Int)+1):0<=i:=by lia
theorem gl100(h1:0<i)(h2:j+i<=k)(h3:k<=l)(h4:l<=j):False:=by lia
theorem gl101(h1:a=b)(h2:b<=900):a<1000:=by lia
theorem gl104(h1:a<d/\d<=b/\b<c):a≠b/\a<c/\b<c:=by lia
theorem gl105(h1:a<c)(h2:c<=b):a≠b:=by lia
theorem gl106(h1:a<=b)(h2:b<c)(h3:c=d)(h4:d<=900):a<=900:=by lia
theorem gl107(h1:a<c)(h2:b=c+1):a<b:=by lia
theorem gl112(h1:b<a):1<=a-b:=by lia
theorem gl113(h1:0<a):a-1<a:=by lia
theorem gl114:a+3+b-a=3+b:=by lia
theorem gl115(h1:a<=b)(h2:b<=900):a<1000:=by lia
theorem gl116(h1:0<=i)(h2:0<=j)(h3:¬(0<i))(h4:¬(0<j)):i=j:=by lia
theorem gl120(h1:k<l)(h2:l<=k):i<=j:=by lia
end
end NAG
set_option maxRecDepth 100000
namespace NAL
open PySem PySem.Spec PyProof.Rows
abbrev QK:=Sum Int Qi
noncomputable def Yf:QK->Value->Bool| .inl k,v=>Value.isInt k v| .inr x,v=>Value.isStrOf x v
noncomputable def keyH (w:Q0):QK->Int| .inl k=>hashInt k| .inr x=>hashStr w x
theorem kr:∀{k:QK} {v:Value},Yf k v=tj->(∃i t,k=Sum.inl i/\v=Value.int i t)\/(∃x t,k=Sum.inr x/\v=Value.str x t)| .inl i,v,h=>by obtain⟨t,e⟩:=Value.isInt_shape (k:=i) (v:=v) h;exact .inl #[i,t,rfl,e]| .inr x,v,h=>by obtain⟨t,e⟩:=Value.isStrOf_shape (x:=x) (v:=v) h;exact .inr #[x,t,rfl,e]
theorem zdz (i:Int)(t:Tok):Yf (.inl i) (.int i t)=tj:=by simp[Yf,Value.isInt]
theorem zep (x:Qi)(t:Tok):Yf (.inr x) (.str x t)=tj:=by simp[Yf,Value.isStrOf]
theorem G1 (a b:Int):decide ((Sum.inl a:QK)=Sum.inl b)=(a==b):=by by_cases e:a=b;subst e;simp;have h:¬(Sum.inl a:QK)=Sum.inl b:=λq=>e (Sum.inl.inj q);rw[Qb h];exact(beq_eq_false_iff_ne.mpr e).symm
theorem zbm (a b:Qi):decide ((Sum.inr a:QK)=Sum.inr b)=decide (a=b):=by by_cases e:a=b;subst e;simp;have h:¬(Sum.inr a:QK)=Sum.inr b:=λq=>e (Sum.inr.inj q);rw[Qb h,Qb e]
theorem G3 (a:Int)(b:Qi):decide ((Sum.inl a:QK)=Sum.inr b)=ff:=Qb (λq=>nomatch q)
theorem G4 (a:Qi)(b:Int):decide ((Sum.inr a:QK)=Sum.inl b)=ff:=Qb (λq=>nomatch q)
noncomputable def Ra (prog:Qv) (w:Q0):PySem.KeyKind prog w QK where
 is:=Yf
 hash:=keyH w
 inj:=λv a b ha hb=>by
  rcases kr ha with ⟨i,t,rfl,rfl⟩ | ⟨x,t,rfl,rfl⟩
  .rcases kr hb with ⟨j,u,rfl,e⟩ | ⟨y,u,rfl,e⟩
   .injection e with e1 _;rw[e1]
   .exact nomatch e
  .rcases kr hb with ⟨j,u,rfl,e⟩ | ⟨y,u,rfl,e⟩
   .exact nomatch e
   .injection e with e1 _;rw[e1]
 byValue:=λk v h=>by rcases kr h with ⟨i,t,rfl,rfl⟩ | ⟨x,t,rfl,rfl⟩<;>rfl
 pyHash:=λhv h=>by
  rcases kr hv with ⟨i,t,rfl,rfl⟩ | ⟨x,t,rfl,rfl⟩
  .exact wpAny_pyHash_int h
  .exact wpAny_pyHash_str h
 eqBool:=λhu hv h=>by
  rcases kr hu with ⟨i,t,rfl,rfl⟩ | ⟨x,t,rfl,rfl⟩
  .rcases kr hv with ⟨j,u,rfl,rfl⟩ | ⟨y,u,rfl,rfl⟩
   .rw[G1] at h;exact wpAny_eqBool_int h
   .rw[G3] at h;exact SeqAt.EqAt.int_str i t y u _ _ _ _ h
  .rcases kr hv with ⟨j,u,rfl,rfl⟩ | ⟨y,u,rfl,rfl⟩
   .rw[G4] at h;exact SeqAt.EqAt.str_int x t j u _ _ _ _ h
   .rw[zbm] at h;exact wpAny_eqBool_str h
 «strs»:=λk x t v h=>by
  rcases kr h with ⟨i,u,rfl,e⟩ | ⟨y,u,rfl,e⟩
  .exact nomatch e
  .injection e with e1 _
   subst e1;cases v<;>rfl
theorem za6 (prog:Qv)(w:Q0)(i:Int)(t:Tok):(Ra prog w).is (.inl i) (.int i t)=tj:=zdz i t
theorem G6 (prog:Qv)(w:Q0)(x:Qi)(t:Tok):(Ra prog w).is (.inr x) (.str x t)=tj:=zep x t
inductive V where
 | non | bl (b:Bool) | int (i:Int) | str (x:Qi) | byt (b:Array UInt8) | flt (b:UInt64) | ref (a:Qh) | ty (n:String)
 deriving DecidableEq
inductive HO where
 /-- a list -/
 | lst (xs:Mf)
 /-- a tuple (never changes) -/
 | tup (xs:Mf)
 /-- a dict whose keys are ints and texts;one whose keys are tuples of ints and texts (the empty one is both) -/
 | dK (dJ:List (QK×V)) | dT (dJ:List (Ϛ×V))
 /-- a set of ints: cD members,cD size -/
 | set (S:Int->Bool) (n:Nat)
 /-- an instance of the class at C,cD dict at dx,cD attributes -/
 | ins (C dx:Qh) (fs:List (Qi×V))
 /-- the dict of the instance at x -/
 | own (x:Qh)
 /-- the dict of an exception -/
 | xd (fs:List (Qi×V))
 /-- a bound method,f of x -/
 | met (f x:Qh)
 /-- a range object lo,lo+1,.. below hi -/
 | rng (lo hi:Int)
 /-- a thing that is known to the object (the script;a dict while a loop walks it): read,never written while it is so -/
 | frz (o:RB) (u:HO)
 /-- a code object's table -/
 | tbl (ps:TT)
 /-- any other thing,by what is tj of cD one object (a def of one's own: SetO a S n:=HO.ext λh=>..) -/
 | ext (φ:QF->Prop)
abbrev Hp:=Qh->Option HO
noncomputable def upd (H:Hp) (a:Qh) (o:HO):Hp:=λb=>if b=a then Υ else H b
section
end
section
end
section
end
section
end
noncomputable def allNews (g h:QF) (L:Qh):List (Qh×RB):=(aM h.objs.size).filterMap λa=>if a=L\/(g.get? a).isSome=tj then ng else '8'.map λo=>(a,o)
noncomputable def rest (g h:QF) (L d:Qh):List (Qh×RB):=(allNews g h L).filter λp=>decide (p.1≠d)
structure Mod (K:bj)(mg:Qi->ZH)(base:QF):Prop where
 kin:M5
 glob:base.Ns Qw mg
 blt:∃mb,base.Ns builtinsNs mb/\∀x:Qi,x≠"__name__"->mb x=QR x
 nolimit:base.NoLimit
def Vis (sc:UU)(x:Qi):Prop:=Pb=Z6\/Pb=Z7\/Pb=Hr
def Loc (sc:UU)(x:Qi):Prop:=Pb=Z6\/Pb=Z7
def Look (env:Env)(h:QF)(m:Qi->ZH)(x:Qi)(u:Value):Prop :=(HX=Z6/\m x=TG)\/((HX=Z7\/HX=Hr)/\∃c,Pq=ϓ/\h.IsCell c TG)
section
theorem UL {N:Χ}(hN:N.Nodup){i j:Nat}{x:Qi}(a:N[i]?=σ)(b:N[j]?=σ):i=j:=by obtain⟨h1,e1⟩:=aH.mp a;obtain⟨h2,e2⟩:=aH.mp b;exact(List.getElem_inj hN).mp (e1.trans e2.symm)
end
theorem Rj {α:Type}{t:Sem α}{Q Q':α->Qe->Prop}{M:Model}{A:Qs}{E:Value->Qe->Prop}{s:Qe}(h:Qn M A t Q E s)(hQ:∀a s,Q a s->Q' a s):Qn M A t Q' E s:=Se h hQ λ_ _ x=>x
section
end
section
end
section
end
section
end
section
end
section
end
theorem G7 {M:Model}{A:Qs}{E:Value->Qe->Prop}{s:Qe}{tg:QD}{it:Qh}{u:Value}{o:RB}{n:String}{vs:TT}{Q:Unit->Qe->Prop}(ho:s.heap.get? it=Υ)(hc:o.cls=.type n)(hd:o.data=Lx) (hn:["enumerate","zip","dict_itemiterator","dict_reverseitemiterator","odict_iterator","itertools.zip_longest","itertools.pairwise"].contains n=ff) (hQ:Q () s):Qn M A (RY tg ZI u) Q E s:=by unfold RY;cases tg<;>first|exact Qk hQ|((cases u<;>first|exact Qk hQ|(refine Qd (wpAny_load ho ?_);rw[hc,hd];show Qn M A (if(["enumerate","zip","dict_itemiterator","dict_reverseitemiterator","odict_iterator","itertools.zip_longest","itertools.pairwise"].contains n&&vs[0]?==se (Vg _))=tj then _ else _) Q E s;rw[P7 (by intro h;rw[hn,Bool.false_and] at h;cases h)];exact Qk hQ)))
section
noncomputable def VD (fp:Lh) (h:QF):List (Qh×RB):=fp.filterMap λb=>(h.get? b).map λo=>(b,o)
theorem AX {fp:Lh}{h:QF}{b:Qh}{o:RB}(hb:b∈fp)(e:h.get? b=Υ):(b,o)∈VD fp h:=we.mpr #[b,hb,by rw[e];rfl]
theorem AY {fp:Lh}{h:QF}{p:Qh×RB}(hp:p∈VD fp h):p.1∈fp/\h.get? p.1=se p.2:=by obtain⟨b,hb,e⟩:=we.mp hp;cases q:h.get? b with| none=>rw[q] at e;cases e| some o =>rw[q] at e;have e':(b,o)=p:=c8 e;subst e';exact#[hb,q]
end
section
end
section
theorem qQ:(sizeLine:Nat)<2^63:=by rw[Sn];decide
end
structure Yc (h:QF)(x dx C:Qh)(mA:Qi->ZH):Prop where
 obj:h.get? x=se (um C dx)
 ns:h.Ns1 dx mA
 ne:dx≠x
theorem zbZ {h:QF}{dx:Qh}{mA:Qi->ZH}(n:h.Ns1 dx mA):∃od,h.get? dx=se od/\∀name,uo name od=se (mA name):=by obtain⟨o,es,ep,ho,hd,hk,_,hm⟩:=n;refine#[o,ho,λname=>?_];have e:=hm name;unfold nsFind findBy at e;rw[<-Array.find?_toList] at e;unfold uo;rw[hd];dsimp only;split;rename_i y q;rw[q] at e;exact congrArg se e;rename_i q;rw[q] at e;(have a:es.toList.any (·.refKey)=ff:=by rw[tX];intro y hy;obtain⟨z,t,hkey⟩:=hk y (zH.mp hy);simp[DictEntry.refKey,hkey]);(have a':¬es.toList.any (·.refKey)=tj:=by rw[a];exact qr);rw[P7 a'];exact congrArg se e
theorem Yc.look {h:QF}{x dx C:Qh}{mA:Qi->ZH}(I:Yc h x dx C mA):∃od,PySem.W.InstAt h x (um C dx) C (se od)/\∀name,uo name od=se (mA name) :=let #[od,ho,hl]:=zbZ I.ns;#[od,#[I.obj,rfl,rfl,ho],hl]
section
variable {prog:Qv}{w:Q0}{A:Qs}{E:Value->Qe->Prop}{s:Qe}{K:bj}{x dx C f:Qh}{mA:Qi->ZH}{name:Qi}{v:Value}
theorem zc2 {expr:Bool}{Q:Value->Qe->Prop}(X:Jb)(I:Yc s.heap x dx C mA)(hg:qP K C name=tj)(hh:uk K C=tj) (ha:ic K (rv) name=Oa) (hv:mA name=ZJ) (hv':AU v=tj) (h:Q v { s with toks:=s.toks+1}) :Qn [ϔ,w] A (getAttr (.ref x) name expr) Q E s:=by obtain⟨od,J,hl⟩:=I.look;exact PySem.W.get_value X J (wP hg).1 (PySem.W.findObj_own hh ha rfl (by rw[hl,hv])) hv' h
theorem Ha {pl:Sem Bool}{Q:Value× ϖ->Qe->Prop}(X:Jb)(I:Yc s.heap x dx C mA)(hg:qP K C name=tj) (hf:ic K (rv) name=Hw) (ht:nU K tA=tj) (hv:mA name=ng) (h:Q (tA,[.ref x]) s) :Qn [ϔ,w] A (getMethod (.ref x) name pl) Q E s:=by obtain⟨od,J,hl⟩:=I.look;exact PySem.W.method_fn X J (wP hg).1 (wP hg).2 hf (beq_iff_eq.mp ht) (by show(uo name od).map (·.isSome)=se ff;rw[hl,hv];rfl) h
theorem zeb {ns:Χ}{Q:Unit->Qe->Prop}(X:Jb)(I:Yc s.heap x dx C mA) (hs:ic K (rv) "__setattr__"=se [G2,"object.__setattr__"]) (hp:wQ K C=tj) (ht:wT K C name=Oa) (hh:uk K C=tj) (hw:PySem.Within mA ns) (i0:ns.length<=sizeLine) (h:∀h',Yc h' x dx C (λy=>if y=name then ZJ else mA y)->[K9,dx,h']->Q () { s with heap:=h',toks:=s.toks+2}) :Qn [ϔ,w] A (setAttr (.ref x) name v) Q E s:=by obtain⟨od,J,hl⟩:=I.look;refine PySem.W.set_plain X J hs (PySem.W.osa_open (s:={ s with toks:=s.toks+1}) (r:=ng) X J hp ht λb=>?_);obtain⟨cd,hc,jY⟩:=PySem.W.any_some hh;have hx:s.heap.get? x=se #[rv,se dx,.plain,([].toArray)]:=I.obj;refine Qd (Qk (Qd (Qd (wpAny_loadPart hx (Qd (PySem.W.Looks.here (s:={ s with toks:=s.toks+1}) (PySem.W.looks_clsIn X hc) ?_))))));rw[jY];refine Qk (a:=se dx) (Qd (Qk (Qd ?_)));refine wpAny_nsSet1 (s:={ s with toks:=s.toks+1}) I.ns λh' hn2 mM=>?_;obtain⟨oD,esD,epD,hoD,hdD,hcD⟩:=hn2.count (PySem.Within.cons name v hw);refine Qd (wpAny_lookBehind hoD (by rw[hdD];exact pastItsLine_dict (b9 hcD (by rw[fS];lia))) ?_);exact Qk (h _ #[(mM.2 _ (Ne.symm I.ne)).trans I.obj,hn2,I.ne] mM)
theorem zb7 {R:Result->Qe->Prop}{vs:ϖ}{kw:List (Qi×Value)}(X:Jb)(hm:pD K C=tj) (hi:ic K (rv) "__init__"=Hw) (hf:PySem.W.typeIn K tA=[JF,"function"]) (h:UA [ϔ,w] [Ov,"type.__call__",#[rv::vs,kw]] (.call tA #[.ref (s.heap.objs.size+1)::vs,kw]) (PySem.W.InitBack (s.heap.objs.size+1) R) { s with heap:=(s.heap.push pC).push (um C s.heap.objs.size)}) :UA [ϔ,w] A (.call rv #[vs,kw]) R s:=by obtain⟨hh,g,d,t,os⟩:=s;exact PySem.W.make_core (PySem.W.makes_of X hm) (PySem.W.looks_findIn X hi) (λself=>PySem.W.bind_fn X self hf) gV h
end
section
end
structure Cls (K:bj)(C:Qh):Prop where
 pg:qP K C Str.empty=tj
 hd:uk K C=tj
 po:wQ K C=tj
 sa:ic K (rv) "__setattr__"=se [G2,"object.__setattr__"]
theorem Cls.get {K:bj}{C:Qh}(c:Cls K C)(f:Qi):qP K C f=tj:=c.pg
def YX (K:bj)(C:Qh)(f:Qi):Prop:=ic K (rv) f=Oa
theorem YX.taker {K:bj}{C:Qh}{f:Qi}(n:YX K C f):wT K C f=se none:=by unfold wT;rw[show ic K (rv) f=Oa from n];rfl
structure Meth (K:bj)(C:Qh)(m:Qi)(f:Qh):Prop where
 at_:ic K (rv) m=Hw
 fn:nU K tA=tj
 kp:gW K tA=tj
section
variable {s:Qe}{f:Qi}{A:Qs}{E:Value->Qe->Prop}
theorem zcE {prog:Qv}{w:Q0}{env:Env}{e:QD}{f:Qi}{pos:Tx}{s:Qe}{Q:Value->Qe->Prop}(hb:attributeBase e f env (RQ e env)=RQ e env) (h:Qn [ϔ,w] A (RQ e env) (λo s₁=>Qn [ϔ,w] A (getAttr o f tj) Q E s₁) E s):Qn [ϔ,w] A (RQ (.Attribute e f pos) env) Q E s :=Attribute_any_ h (by rw[arm_eval_Attribute,hb])
end
section
end
section
end
structure RC (k:Nat)(A:Qs):Prop where
 hd:A.handled=ng
 dp:A.depth+3*k+5<recursionLimit
 un:A.units+16*k+200<cLine
theorem RC.mono {j k:Nat}{A:Qs}(r:RC k A)(h:j<=k):RC j A:=#[r.hd,by have:=r.dp;lia,by have:=r.un;lia]
theorem RC.deeper {k:Nat}{A:Qs}(r:RC (k+1) A)(env:Env):RC k (A.deeper env) :=#[r.hd,by have:=r.dp;show A.depth+1+3*k+5<_;lia,by have:=r.un;show A.units+3+16*k+200<_;lia]
theorem zaS {A:Qs}{C:Qh}{us:ϖ}{kw:List (Qi×Value)}:[Ov,"type.__call__",#[rv::us,kw]].depth=A.depth+1:=by first |rfl|simp[Around.under,Code.weight,Code.isCreation,Code.isGuard,Code.isCaller,Code.frames,Code.isFrame,guardIds]
theorem zc7 {A:Qs}{C:Qh}{us:ϖ}{kw:List (Qi×Value)}:[Ov,"type.__call__",#[rv::us,kw]].units=A.units+1:=by first |rfl|simp[Around.under,Code.cUnits,Code.frames,Code.isFrame]
theorem RC.make {k:Nat}{A:Qs}(r:RC (k+1) A)(C:Qh)(us:ϖ)(kw:List (Qi×Value)):RC k [Ov,"type.__call__",#[rv::us,kw]] :=#[r.hd,by have:=r.dp;rw[zaS];lia,by have:=r.un;rw[zc7];lia]
theorem RC.depth {k:Nat}{A:Qs}(r:RC k A):A.depth<recursionLimit:=by have:=r.dp;lia
section
end
section
end
def Binds (K:bj)(fd:Q8)(ps:Χ)(ds:ϖ):Prop :=∀(s:Qe) (us:List Value),Jb->(us++ds).length=ps.length->BindsTo s fd #[us,[]] (ps.zip (us++ds))
theorem Binds.all {K:bj}{fd:Q8}{ps:Χ}(h:∀us:ϖ,us.length=ps.length->bindArgs fd #[us,[]]=K6):Binds K fd ps []:=λs us _ hl=>by rw[lN] at hl ⊢;exact .of_eq (h us hl)
section
variable {f C:Qh}
structure Mk (K:bj)(C f:Qh):Prop where
 makes:pD K C=tj
 init:ic K (rv) "__init__"=Hw
 fn:nU K tA=tj
 kp:gW K rv=tj
end
section
end
structure Ta (N P:Χ)(sc:UU):Prop where
 kind:sc.kind=.function
 co:sc.isCoroutine=ff
 gen:sc.isGenerator=ff
 nd:N.Nodup
 pre:N.take P.length=P
 par:∀x∈P,Pb=Z6\/Pb=Z7
 nofree:∀y∈sc.names,y.2≠.free
theorem AZ {kindOf:Qi->LR}{x:Qi}:∀{binds:List (Qi×Value)} {m:Qi->Option Value},(∀v,(x,v)∉binds)->bindL kindOf binds m x=m x| [],_,_=>rfl| (n,v)::r,m,h=>by unfold bindL;rw[AZ λw hw=>h w (aY _ hw)];split;(have:x≠n:=by rintro rfl;exact h v aI);simp[this];rfl
theorem A0 {kindOf:Qi->LR}{x:Qi}:∀{binds:List (Qi×Value)} {m:Qi->Option Value},(∀v,(x,v)∉binds)->bindC kindOf binds m x=m x| [],_,_=>rfl| (n,v)::r,m,h=>by unfold bindC;rw[A0 λw hw=>h w (aY _ hw)];split;rfl;(have:x≠n:=by rintro rfl;exact h v aI);simp[this]
theorem A1 {kindOf:Qi->LR}{x:Qi}{v:Value}:∀{P:List Qi} {vs:List Value} {i:Nat} {m:Qi->Option Value},P.Nodup->P[i]?=σ->vs[i]?=ZJ->kindOf x=Z6->bindL kindOf Io m x=ZJ| [],_,_,_,_,h,_,_=>by simp at h| _::_,[],_,_,_,_,h,_=>by simp at h| p::P,w::vs,0,m,nd,h1,h2,hk=>by simp at h1 h2;subst h1;subst h2;show bindL kindOf ((p,w)::Io) m p=_;unfold bindL;rw[AZ λv hv=>'g'.1 (cx hv).1,P8 hk];simp| p::P,w::vs,i+1,m,nd,h1,h2,hk=>by show bindL kindOf ((p,w)::Io) m x=_;unfold bindL;exact A1 (i:=i) 'g'.2 (by simpa using h1) (by simpa using h2) hk
theorem A4 {kindOf:Qi->LR}{x:Qi}{v:Value}:∀{P:List Qi} {vs:List Value} {i:Nat} {m:Qi->Option Value},P.Nodup->P[i]?=σ->vs[i]?=ZJ->kindOf x≠Z6->bindC kindOf Io m x=ZJ| [],_,_,_,_,h,_,_=>by simp at h| _::_,[],_,_,_,_,h,_=>by simp at h| p::P,w::vs,0,m,nd,h1,h2,hk=>by simp at h1 h2;subst h1;subst h2;show bindC kindOf ((p,w)::Io) m p=_;unfold bindC;rw[A0 λv hv=>'g'.1 (cx hv).1,P7 hk];simp| p::P,w::vs,i+1,m,nd,h1,h2,hk=>by show bindC kindOf ((p,w)::Io) m x=_;unfold bindC;exact A4 (i:=i) 'g'.2 (by simpa using h1) (by simpa using h2) hk
theorem A5 {sc:UU}{n:Nat}{x:Qi}(h:Pb=Z7):∃c,(cellsFrom n sc.names []).lookup x=ϓ:=by have q:=wO sc.names n [] (.inl h);exact uj.mp q
section
end
end NAL
namespace NAH
open PySem PyProof.Rows
section
open PySem.SeqAt
open PySem.AutoSeq1 (wpAny_loadPart')
open PySem.MeetsSeq PySem.MeetsSeq2 PySem.MeetsSeq3
end
section
variable {prog:Qv}{w:Q0}{A:Qs}{E:Value->Qe->Prop}{s:Qe}
noncomputable def Ts (n d:Nat):Ty->Nat| none=>d| some v=>if v<0 then(v+(n:Int)).toNat else min v.toNat n
theorem zdO (n d:Nat)(hd:d<=n)(o:Ty):Ts n d o<=n:=by cases o with| none=>exact hd| some v =>show(if v<0 then(v+(n:Int)).toNat else min v.toNat n)<=n;by_cases hv:v<0;rw[P8 hv];lia;rw[P7 hv];exact Nat.min_le_right _ _
theorem A6 (v:Int)(n d:Nat):(if v<0 then max (v+(n:Int)) 0 else min v (n:Int))=((Ts n d ZJ:Nat):Int):=by show(if v<0 then max (v+(n:Int)) 0 else min v (n:Int))=(((if v<0 then(v+(n:Int)).toNat else min v.toNat n):Nat):Int);by_cases hv:v<0;simp only[P8 hv];lia;simp only[P7 hv];lia
theorem zdx (lo hi:Ty)(n:Nat):Builtin.Slice.sliceAdjust lo hi 1 (n:Int)=(((Ts n 0 lo:Nat):Int),((Ts n n hi:Nat):Int)):=by(have h1:¬((1:Int)<0):=by lia);unfold Builtin.Slice.sliceAdjust;simp only[h1,if_false];refine Prod.ext ?_ ?_;(cases lo with| none=>rfl| some v=>exact A6 v n 0);cases hi with| none=>rfl| some v=>exact A6 v n n
theorem zel (i j:Nat):[Oy,(i:Int),(j:Int)]=j-i:=by unfold Builtin.Slice.slicePlaces;(have h1:(1:Int)>0:=by lia);simp only[h1,if_true,Int.ediv_one];split<;>lia
theorem A7 {v:Value}{o:Ty}{Q:Ty->Qe->Prop}(p:IsPart v o)(h:Q o s):Qn [ϔ,w] A (Builtin.Slice.slicePartIndex v) Q E s:=by cases p with| none=>exact slicePart_none h| int i t=>exact slicePart_int h
theorem zbh {sl:Qh}{vl vu:Value}{lo hi:Ty}{n:Nat}{Q:Int×Int×Nat->Qe->Prop}(hs:s.heap.IsSliceOf sl vl vu .none)(pl:IsPart vl lo)(pu:IsPart vu hi) (h:Q (((Ts n 0 lo:Nat):Int),1,Ts n n hi-Ts n 0 lo) s):Qn [ϔ,w] A (Builtin.Slice.sliceApplied (.ref sl) (pure (n:Int))) Q E s:=by obtain⟨os,hos,hcs,hds⟩:=id hs;unfold Builtin.Slice.sliceApplied Builtin.Slice.sliceFields;refine Qd (Qd (Ri hos hds (x:=vl) rfl (Qd (Ri hos hds (x:=vu) rfl (Qd (Ri hos hds (x:=.none) rfl (Qk ?_)))))));refine Qd (slicePart_none ?_);show Qn _ _ (if((1:Int)==0)=tj then _ else _) _ _ s;rw[P7 (by decide)];refine Qd (A7 pl (Qd (A7 pu (Qd (Qk ?_)))));show Qn _ _ (match Builtin.Slice.sliceAdjust lo hi 1 (n:Int)with | (lo,hi)=>pure (lo,(1:Int),[Oy,lo,hi])) _ _ s;rw[zdx lo hi n];show Qn _ _ (pure (((Ts n 0 lo:Nat):Int),(1:Int),[Oy,((Ts n 0 lo:Nat):Int),((Ts n n hi:Nat):Int)])) _ _ s;rw[zel];exact Qk h
theorem zcy (xs:TT)(i k:Nat):((aM k).filterMap λ(m:Nat)=>xs[((i:Int)+(m:Int)*1).toNat]?).toArray=((xs.toList.drop i).take k).toArray:=by(have e:(λ(m:Nat)=>xs[((i:Int)+(m:Int)*1).toNat]?)=λm=>xs[i+m]?:=by funext m;(have:((i:Int)+(m:Int)*1).toNat=i+m:=by lia);rw[this]);rw[e];have:=pick_run xs i k;rw[wg] at this;have e2:((λx=>xs[x]?)∘λx=>i+x)=λm=>xs[i+m]?:=rfl;rw[e2] at this;rw[this]
theorem WS {t sl:Qh}{items:TT}{vl vu:Value}{lo hi:Ty}{Q:Value->Qe->Prop}(ht:IsTup s.heap t items)(hs:s.heap.IsSliceOf sl vl vu .none)(pl:IsPart vl lo)(pu:IsPart vu hi) (hw:¬([Id,0,lo]=0/\[Id,items.size,hi]=items.size)) (h:Q PM { s with heap:=s.heap.push { cls:=.type "tuple",data:=.seq ((items.toList.drop [Id,0,lo]).take ([Id,items.size,hi]-[Id,0,lo])).toArray}}) (i0:items.size<=sizeLine):Qn [ϔ,w] A (getItem (.ref t) (.ref sl)) Q E s:=by(have iJ:sizeOk (.seq ((items.toList.drop [Id,0,lo]).take ([Id,items.size,hi]-[Id,0,lo])).toArray):=by show((items.toList.drop [Id,0,lo]).take ([Id,items.size,hi]-[Id,0,lo])).toArray.size<=sizeLine;rw[fR,h8,Ak,Array.length_toList];lia);have hj:[Id,items.size,hi]<=items.size:=zdO _ _ ϭ hi;obtain⟨os,hos,hcs,hds⟩:=id hs;have hTs:s.TypeIs (.ref sl) "slice":=#[os,hos,hcs];unfold getItem;(try with_reducible refine Sf ?_);(first |refine Qd (Qk ?_)|skip);refine Qd (wpAny_sequenceKey ht.typeIs (by decide) ?_);refine Qd (Sk (name:=Str.ofString "__getitem__") ht.typeIs wM (S7 wM ht.typeIs entry_tuple_getitem ?_ (args_tuple_getitem _ _)));show Qn _ _ (Builtin.Tuple.tupleItemsOf (.ref t)>>=_) _ _ s;refine Qd (tupleItemsOf_ ht ?_);refine Qd (wpAny_typeOf hTs ?_);rw[P8 (by decide)];refine Qd (zbh hs pl pu ?_);(have hno:¬(((([Id,0,lo]:Nat):Int)==0&&(1:Int)==1&&([Id,items.size,hi]-[Id,0,lo])==items.size)=tj):=by intro q;rw[bW,bW] at q;have q1:(([Id,0,lo]:Nat):Int)=0:=eq_of_beq q.1.1;have q2:[Id,items.size,hi]-[Id,0,lo]=items.size:=eq_of_beq q.2;exact hw #[by lia,by lia]);show Qn _ _ (if((([Id,0,lo]:Nat):Int)==0&&(1:Int)==1&&([Id,items.size,hi]-[Id,0,lo])==items.size)=tj then _ else _) _ _ s;rw[P7 hno,zcy];first|exact Qd (m:=Iu) (Rr (Qk #[_,rfl,Qk h]) iJ)|exact Qd (m:=Iu) (Rr (Qd (Qk (Qk #[_,rfl,Qk h]))) iJ)|exact Qd (Qd (m:=Iu) (Rr (Qk (Qk #[_,rfl,Qk h])) iJ))|exact Qd (Qd (m:=Iu) (Rr (Qk #[_,rfl,Qk h]) iJ))
end
end NAH
namespace NAL
open PySem PySem.Spec PyProof.Rows
section
end
noncomputable def ixN (n:Nat) (i:Int):IX:=if 0<=i then(if i<n then se i.toNat else ng)else if-(n:Int)<=i then se (i+n).toNat else ng
theorem A8 {n:Nat}{i:Int}{j:Nat}(h:ixN n i=se j):seqIndex? i n=se j/\j<n/\-(n:Int)<=i/\i<n:=by unfold ixN at h;by_cases h0:0<=i;rw[P8 h0] at h;by_cases h1:i<n;rw[P8 h1] at h;have e:i.toNat=j:=c8 h;exact#[by rw[seqIndex_of h0 h1,e],by lia,by lia,h1];rw[P7 h1] at h;cases h;rw[P7 h0] at h;by_cases h1:-(n:Int)<=i;rw[P8 h1] at h;have e:(i+n).toNat=j:=c8 h;exact#[by rw[seqIndex_neg (by lia) h1,e],by lia,h1,by lia];rw[P7 h1] at h;cases h
def zaT (b:QD):Prop:=∀o i,subscripted b ff o i=operate [o,i] (getItem o i)
section
theorem za4 (lo hi:Ty)(n:Nat):(QX lo hi ng n).1=((NAH.Ts n 0 lo:Nat):Int)/\(QX lo hi ng n).2.1=((NAH.Ts n n hi:Nat):Int)/\(QX lo hi ng n).2.2=1:=by refine#[?_,?_,rfl];(cases lo with| none=>simp[QX,NAH.Ts]| some i =>simp only[QX,NAH.Ts,AH,show(1:Int)>0 by decide,if_true];by_cases h:i<0;simp only[h,if_true]<;>lia;simp only[h,if_false]<;>lia);cases hi with| none=>simp[QX,NAH.Ts]| some i =>simp only[QX,NAH.Ts,AH,show(1:Int)>0 by decide,if_true];by_cases h:i<0;simp only[h,if_true]<;>lia;simp only[h,if_false]<;>lia
theorem zdV (cD:ϖ)(lo hi:Ty):Vq cD.toArray lo hi ng=((cD.drop (NAH.Ts cD.length 0 lo)).take (NAH.Ts cD.length cD.length hi-NAH.Ts cD.length 0 lo)).toArray:=by obtain⟨h1,h2,h3⟩:=za4 lo hi cD.toArray.size;unfold Vq;rw[h1,h2,h3];simp only[sliceRange_one,pick_run,fR]<;>rfl
end
theorem Ht {α:Type}(l:υ):l.eraseIdx (l.length-1)=l.dropLast:=by induction l with| nil=>rfl| cons a r ih =>cases r with| nil=>rfl| cons b r =>(have e:(a::b::r).length - 1=((b::r).length - 1)+1:=by have h1:(a::b::r).length=r.length+2:=rfl;have h2:(b::r).length=r.length+1:=rfl;lia);rw[e,List.eraseIdx_cons_succ,ih];all_goals rfl
theorem foldl_rep (cD:ϖ):∀(k:Nat) (acc:List Value),List.foldl (λx1 x2=>x1++x2) acc.toArray (be k cD.toArray)=(acc++(be k cD).flatten).toArray| 0,acc=>by simp| k+1,acc=>by(have e:acc.toArray++cD.toArray=(acc++cD).toArray:=by simp);(have e2:(acc++cD)++(be k cD).flatten=acc++(be (k+1) cD).flatten:=by rw[nz,List.flatten_cons,gb]);rw[<-e2,<-foldl_rep cD k (acc++cD),<-e,nz,pj]
section
theorem A9 {n:Nat}(h:n<=sizeLine):Builtin.List.listTooLong n=ff:=by unfold Builtin.List.listTooLong;exact Qb (by lia)
end
section
end
section
end
section
end
end NAL
namespace NAA
open PySem PySem.W PySem.Calls PyProof.Rows
theorem zcL {P:Params}{h:QF}:∀(ns:Zv) (vs:List Value),WellAll P h vs (ns.map WData.int)->IntsAre vs ns:=by intro ns;induction ns with| nil =>intro vs w;rw[qG] at w;cases w;exact .nil| cons n ns ih =>intro vs w;rw[bA] at w;cases w with| cons a b =>cases a;exact .cons _ _ (ih _ b)
theorem Hv {l:OpenLaw}{n:Nat}(hn:l.most=se n){P:Params}{h:QF}{args:List WData}{au:ϖ} (kY:l.row.toRowW.claim.pre args=tj) (jX:WellAll P h au args) :∃a vs ns,au=[Value.ref a]/\args=[WData.list (ns.map WData.int)]/\'8'=se { cls:=.type "list",data:=MW}/\IntsAre vs ns/\ns.length<=n:=by have hsh:WShape.hasAll [] args [.list .int]=tj:=(pre_splitW kY).1;have hc:l.pre.holds [] { args:=args}=tj:=(pre_splitW kY).2;obtain⟨d,r,rfl,h1,h2⟩:=hasAllW_cons hsh;obtain rfl:=hasAllW_nil h2;obtain⟨xs,rfl,h3⟩:=hasW_list h1;obtain⟨ns,rfl⟩:=items_int h3;(have dR:ns.length<=n:=by unfold OpenLaw.pre at hc;(have h4:(WTm.not (.lt (.lit (.int (n:Int))) (.len (.arg 0)))).holds [] { args:=[.list KD]}=tj:=by have h4:=(holds_andW hc).1;rw[hn] at h4;exact h4);have h5:=condW_of h4 (w_not (w_lt w_lit (w_len_list (w_arg rfl))));rw[a8] at h5;refine uf λq=>?_;(have q':(n:Int)<((ns.length:Nat):Int):=by lia);first|(rw[P9 q'] at h5;exact absurd h5 (by decide))|(simp at h5;lia));cases jX with| cons w1 w2 =>cases w2;cases w1 with| list ho jL=>exact#[_,_,ns,rfl,rfl,ho,zcL ns _ jL,dR]
theorem zaP (l:OpenLaw)(args:List WData):l.row.toRowW.claim.post args It args=tj :=postW_of (r:=l.row.toRowW) (X:=(tj==tj)) (show WShape.has [] It .bool=tj by first |rfl|decide|simp[WShape.has,WShape.arms,WShape.armsAll]) (show(WTm.eq .res (.lit It)).value [] { args:=args,res:=se It,after:=args}=se (.bool (tj==tj))from w_eq_bool (w_res rfl) w_lit) rfl
theorem attach_call {l:OpenLaw}{n:Nat}{q:Qv}{jU:Χ}{XP:(Qi->ZH)->QF->Prop}{YP:Q0->QF->Prop}{d:DefRec} (hn:l.most=se n) (hdf:d.params.defaults=[]) (call:∀(w:Q0) (s₀ s₁:Qe) (mg mb:Qi->Option Value) (fa:Qh) (o:RB) (pm cd bQ:Value) (a:Qh) (vs:List Value) (ns:Zv),Ground q jU [] XP w s₀ mg mb s₁.heap->YP w s₁.heap->s₁.heap.get? fa=Υ->o.data=.func (docDef d.name d.params d.body d.scope pm cd bQ)->s₁.heap.CodeRec cd d.name->mg d.name=[ZN,fa]->s₁.heap.get? a=se { cls:=.type "list",data:=MW}->IntsAre vs ns->ns.length<=n->s₁.gens=([].toArray)->UA (Qt l.prog w) callerA (.call (.ref fa) #[[ύ],[]]) (λr s'=>r=.ok (.ret It)/\OldK s₁.heap s'.heap/\s'.os=s₁.os/\KQ) s₁) :WalkO q jU XP YP l.row.toRowW d [] (λf vs=>PySem.call f vs):=by intro w s₀ s₁ mg mb G Y fa o pm cd bQ dV kV ho hd hcd hD hmg hg args au as kY hlay hrd jX sP;obtain rfl:dV=.none:=Dflts.none hD hdf;obtain rfl:kV=.none:=Dflts.noKw hD;obtain⟨a,vs,ns,rfl,rfl,hobj,hints,dR⟩:=Hv hn kY jX;refine enter_call (Sz (call w s₀ s₁ mg mb fa o pm cd bQ a vs ns G Y ho (fd_plain hd) hcd hmg hobj hints dR hg) λr s' hq=>?_);obtain⟨rfl,h2,h3,h4⟩:=hq;exact#[.inl #[It,It,[],rfl,λ_=>rfl,It,zaP l _,λ_=>#[List.Pairwise.nil,λ_ hm=>(nomatch hm)]],h2,h3,h4]
section
noncomputable def ledger (h:QF) (L d:Qh):List (Qh×RB):=(aM h.objs.size).filterMap λa=>if a=L\/a=d then ng else '8'.map λo=>(a,o)
end
end NAA
namespace NAL
open PySem PySem.Spec PyProof.Rows
noncomputable def WR (s:RV) (j:Nat):RV:=match s with| .ClassDef _ _ _ body _ _ _ _ _ _ _=>body.getD j (.Pass #[0,0,0,0])| _=>.Pass #[0,0,0,0]
noncomputable def SL (s:RV):Arguments:=match s with| .FunctionDef _ a _ _ _ _ _ _ _ _=>a| _=>{ posonlyargs:=[],args:=[],vararg:=ng,kwonlyargs:=[],kw_defaults:=[],kwarg:=ng,defaults:=[]}
noncomputable def Sc (s:RV):List RV:=match s with| .FunctionDef _ _ b _ _ _ _ _ _ _=>b| _=>[]
noncomputable def QN (s:RV):UU:=match s with| .FunctionDef _ _ _ _ _ _ sc _ _ _=>sc| _=>{ kind:=.function,names:=[],isGenerator:=ff,isCoroutine:=ff}
structure Fun (K:bj)(x qual:Qi)(st:RV)(f:Qh)(fd:Q8):Prop where
 ex:∃(oc:Value) (od:Option Qh) (kV bQ pm:Value) (an:Option Qh) (cdv ct:Value) (dI:Array (Option Value)),
  fd=gX x qual Nz Pl ta .none kV bQ pm an cdv ct/\NM=se #[oc,od,.func fd,dI]/\ko K cdv qual=tj
 kp:gW K tA=tj
section
variable {K:bj}
theorem Fun.binds {x qual:Qi}{st:RV}{f:Qh}{fd:Q8}{ps:Χ}(F:Fun K x qual st f fd) (h:∀(kV bQ pm:Value) (an:Option Qh) (cdv ct:Value) (us:List Value),us.length=ps.length->bindArgs (gX x qual Nz Pl ta .none kV bQ pm an cdv ct) #[us,[]]=K6):Binds K fd ps []:=by obtain⟨oc,od,kV,bQ,pm,an,cdv,ct,dI,rfl,lk,hcd⟩:=F.ex;exact .all (h kV bQ pm an cdv ct)
theorem lX {x qual:Qi}{st:RV}{f:Qh}{oc:Value}{od an:Option Qh}{dI:Array ZH}{kV bQ pm cdv ct:Value}(l:NM=se #[oc,od,.func (gX x qual Nz Pl ta .none kV bQ pm an cdv ct),dI]) (c:ko K cdv qual=tj) (k:gW K tA=tj):Fun K x qual st f (gX x qual Nz Pl ta .none kV bQ pm an cdv ct):=#[#[oc,od,kV,bQ,pm,an,cdv,ct,dI,rfl,l,c],k]
end
section
end
end NAL
namespace NAL.EX
open PySem PySem.Spec PyProof.Rows
section
def Bd (n:Nat)(i:Int):Prop:=i.natAbs<2^n
noncomputable def okC (c:String):Bool:=["int","bool","str","list","tuple","dict"].contains c
end
structure Top (K:bj)(mg:Qi->ZH)(x:Qi)(st:RV)(ps:Χ):Prop where
 is:∃(f:Qh) (fd:Q8),Fun K x x st f fd/\Binds K fd ps []/\mg x=se (tA)
section
end
section
end
section
end
section
end
theorem zcd:QR "abs"=[G2,"abs"]:=by decide +kernel
theorem Hy:QR "min"=[G2,"min"]:=by decide +kernel
theorem HB:QR "sum"=[G2,"sum"]:=by decide +kernel
theorem HC:QR "any"=[G2,"any"]:=by decide +kernel
theorem HD:QR "isinstance"=[G2,"isinstance"]:=by decide +kernel
theorem Ba:QR "list"=[JF,"list"]:=by decide +kernel
theorem Bc:QR "dict"=[JF,"dict"]:=by decide +kernel
theorem HE:QR "enumerate"=[JF,"enumerate"]:=by decide +kernel
theorem wU:QR "zip"=[JF,"zip"]:=by decide +kernel
theorem HF:QR "reversed"=[JF,"reversed"]:=by decide +kernel
section
end
theorem HG (hi:Bd m i)(hj:Bd n j)(h:m+n<=134217728):IntMulOk i j:=IntMulOk.of_le (intBits_le_iff.mpr hi) (intBits_le_iff.mpr hj) h
theorem zav (h:Bd n j)(hn:n<=9000)(h0:j≠0):j.natAbs.log2<9000:=by have h2:=(wJ Τ).mpr h;lia
theorem Bd.le (h:Bd m i)(k:m<=n):Bd n i:=gz h (nM (by decide) k)
theorem zeu {K:bj}{st:RV}{kV bQ pm cdv ct:Value}(X:K.In h)(G:h.Ns Qw mg) (a:kq K Qw x=Hw) (l:NM=se #[oc,od,.func (gX x x Nz Pl ta .none kV bQ pm an cdv ct),dI]) (c:ko K cdv x=tj) (k:gW K tA=tj) (b:∀kV bQ pm an cdv ct us,us.length=ps.length->bindArgs (gX x x Nz Pl ta .none kV bQ pm an cdv ct) #[us,[]]=K6):Top K mg x st ps :=#[f,_,lX l c k,(lX l c k).binds b,nR X G a]
theorem wV:∀(ns:List (Qi×UV)) acc,(∀y∈ns,y.2=.free->∃c,env.cells.lookup y.1=ϓ)->(∀x c,G0=ϓ->Pq=ϓ)->∃cl:List (Qi×Qh),(forIn ns acc (λx r=>match x with | (name,kind)=>if(kind==NameKind.free)=tj then do let c <-cellOf env name;pure (ForInStep.yield ((name,c)::r)) else[H8,r]):Sem (List (Qi×Qh)))=pure cl/\(∀x c,Oe=ϓ->Pq=ϓ)/\(∀x c,G0=ϓ->∃c',Oe=se c')/\∀y∈ns,y.2=.free->∃c,cl.lookup y.1=ϓ| [],acc,_,h2=>#[acc,rfl,h2,λx c e=>#[c,e],λy hy=>nomatch hy]| (n,k)::r,acc,h1,h2=>by have k6:=λy hy=>h1 y (aY _ hy);by_cases hk:k=.free;subst hk;obtain⟨c,hc⟩:=h1 (n,.free) aI rfl;(have jN:∀x d,((n,c)::acc).lookup x=Ϡ->Pq=Ϡ:=λx d e=>by grind);obtain⟨cl,e,a,b,d⟩:=wV r ((n,c)::acc) k6 jN;(have kp:∀x c',G0=se c'->∃c'',((n,c)::acc).lookup x=se c'':=λx c' q=>by grind);refine#[cl,?_,a,λx c' q=>let #[c'',q']:=kp x c' q;b x c'' q',λy hy hf=>?_];(have ec:cellOf env n=pure c:=by grind[cellOf]);simp_all;grind;obtain⟨cl,e,a,b,d⟩:=wV r acc k6 h2;grind
theorem zcx (h:∀y∈scope.names,y.2=.free->∃c,env.cells.lookup y.1=ϓ) :∃cl,closureFor scope env=pure cl/\(∀x c,Oe=ϓ->Pq=ϓ)/\∀y∈scope.names,y.2=.free->∃c,cl.lookup y.1=ϓ:=by obtain⟨cl,e,a,_,d⟩:=wV scope.names [] h (λx c e=>by trivial);refine#[cl,?_,a,d];exact(congrArg (· >>= pure) e).trans (pure_bind _ _)
section
variable {prog:Qv}{w:Q0}{A:Qs}{R:Result->Qe->Prop}{s:Qe}
abbrev NoE:Value->Qe->Prop:=λ_ _=>False
theorem zcV (J:Nat->Qe->Prop) (turn:∀n s,J n s->Qn [ϔ,w] A (pyNext it) (λr s₁=>match r with| none=>R (.ok .next) s₁| some v=>Qn [ϔ,w] A (RY target it v) (λ_ s₂=>Qn [ϔ,w] A (assign target env v) (λ_ s₃ =>Qn [ϔ,w] A (forIn jP tj λc r=>if r=tj then do let ok <-isTrue c env (RQ c env);pure (ForInStep.yield ok) else[H8,r]) (λok s₄ =>if ok=tj then Qn [ϔ,w] A (RQ fF env) (λx s₅=>Qn [ϔ,w] A (call (.builtin "list.append") [acc,x]) (λ_ s₆=>∃m,m<n/\J m s₆) NoE s₅) NoE s₄ else∃m,m<n/\J m s₄) NoE s₃) NoE s₂) NoE s₁) NoE s) (n:Nat) (h:J n s):UA [ϔ,w] A (.compLoop [M1,fF,[#[target,iter,jP,0]],pos] 0 it acc env) R s:=by refine codeAny_loop rfl J (λn s hJ=>?_) n h;refine wpAny_noted ?_;refine Qd (wpAny_standAt (Qd (Se (turn n s hJ) (λr s₁ h₁=>?_) λ_ _ z=>z.elim)));cases r with| none=>exact Qk h₁| some v =>refine Qd (Se h₁ (λ_ s₂ h₂=>?_) λ_ _ z=>z.elim);refine Qd (Se h₂ (λ_ s₃ h₃=>?_) λ_ _ z=>z.elim);refine Qd (Se h₃ (λok s₄ h₄=>?_) λ_ _ z=>z.elim);cases ok with| false=>exact Qk #[rfl,h₄]| true =>exact Qd (Qd (Se h₄ (λx s₅ h₅=>Qd (Se h₅ (λ_ s₆ h₆=>Qk (Qk #[rfl,h₆])) λ_ _ z=>z.elim)) λ_ _ z=>z.elim))
end
theorem wW {env:Env}{x:Qi}{k':UV}:∀{names:List (Qi×UV)},(names.map λ(n,k)=>if(k==NameKind.free&&env.scope.kind==.function&&X4==Z7)then(n,NameKind.cell)else(n,k)).lookup x=se k'->∃k,names.lookup x=se k/\(k'=k\/(k=.free/\k'=.cell))| [],h=>nomatch h| (n,k)::r,h=>by have ih:=@wW env x k' r;rw[iN];simp only[bA] at h;cases e:x==n with| true =>refine#[k,rfl,?_];split at h<;>rw[iN,e] at h<;>cases h;rename_i c;simp only[bW,beq_iff_eq] at c;exact .inr #[c.1.1,rfl];exact gV| false=>split at h<;>exact ih (by simpa only[iN,e] using h)
theorem HL {env:Env}{names:List (Qi×UV)}(h:names.lookup x=Hr) :(names.map λ(n,k)=>if(k==NameKind.free&&env.scope.kind==.function&&X4==Z7)then(n,NameKind.cell)else(n,k)).lookup x=Z7\/(names.map λ(n,k)=>if(k==NameKind.free&&env.scope.kind==.function&&X4==Z7)then(n,NameKind.cell)else(n,k)).lookup x=Hr:=by induction names with| nil=>exact nomatch h| cons p r ih =>obtain⟨n,k⟩:=p;rw[iN] at h;simp only[bA];cases e:x==n with| true =>rw[e] at h;cases h;split;left;rw[iN,e];right;rw[iN,e]| false =>rw[e] at h;have ih:=ih h;split<;>simpa only[iN,e] using ih
def XY (env:Env):Χ->Prop| []=>True| x::r=>(HX=Z7\/HX=Hr)/\XY env r
theorem XY.mem:∀{l:List Qi},XY env l->x∈l->HX=Z7\/HX=Hr| _::_,h,hx=>by rcases aT.mp hx with rfl | hx;exact h.1;exact XY.mem h.2 hx
section
end
section
end
section
end
section
end
structure ClsF (K:bj)(C:Qh)(f:Qi):Prop where
 cl:Cls K C
 no:YX K C f
structure MTop (K:bj)(C:Qh)(m qual:Qi)(st:RV)(ps:Χ):Prop where
 is:∃(f:Qh) (fd:Q8),Fun K m qual st f fd/\Binds K fd ps []/\Meth K C m f
 cl:Cls K C
section
end
section
end
def Sh (n:Nat)(d:PyData):Prop:=d.canLay0=tj/\d.depth<=n
theorem zbV (i:Int):Sh n MA:=#[by simp only[PyData.canLay0],by grind[PyData.depth]]
theorem zaQ (i:Bool):Sh n (.bool i):=#[by simp only[PyData.canLay0],by grind[PyData.depth]]
theorem ur (h:∀d∈ds,Sh n d):PyData.canLayAll0 ds=tj/\PyData.depthAll ds<=n:=by induction ds with| nil=>grind[PyData.canLayAll0,PyData.depthAll]| cons d ds ih =>obtain⟨h1,h2⟩:=h d aI;obtain⟨h3,h4⟩:=ih λx hx=>h x (aY _ hx);refine#[by simp only[PyData.canLayAll0,h1,h3,Bool.and_self],?_];simp only[PyData.depthAll];lia
theorem zeC (h:∀d∈ds,Sh n d):Sh (n+1) (.list ds):=#[(ur h).1,by simp only[PyData.depth];have:=(ur h).2;lia]
theorem zc6 (h:∀d∈ds,Sh n d):Sh (n+1) (.tuple ds):=#[(ur h).1,by simp only[PyData.depth];have:=(ur h).2;lia]
theorem Sh.shaped (h:Sh 60 d):AQ d=tj:=by unfold AQ;rw[h.1,P9 (b9 h.2 (by decide))];rfl
section
theorem Be (hr:RC k A):A.units+64<cLine:=by have:=hr.un;lia
end
section
theorem ut {A:Qs}(h:A.handled=ng):A.in1.handled=none:=h
theorem HR (bs:NK):((aM bs.length).any λi=>[NO,i])=bs.any id:=by rw[fG,ia,ia];constructor;rintro⟨i,hi,e⟩;have hl:=dF.mp hi;refine#[tj,?_,rfl];(have:bs[i]?=JM:=by rw[bC,aJ hl] at e;rw[aJ hl];exact congrArg se e);exact aG this;rintro⟨b,hb,e⟩;obtain⟨i,hi⟩:=bf hb;refine#[i,dF.mpr 'l'.1,?_];rwa [bC,hi]
theorem Bf (ns:Zv):∀n,n<=ns.length->preSum (λi=>[Zz,i]) n=(ns.take n).sum| 0,_=>by simp[preSum]| n+1,h=>by(have hn:n<ns.length:=by lia);rw[preSum,Bf ns n (by lia),bC,aJ hn,(zY hn).symm,kF];simp
theorem HS (ns:Zv):preSum (λi=>[Zz,i]) ns.length=ns.sum:=by rw[Bf ns _ ϭ,kE]
theorem argBest_lt (bt:Nat->Nat->Bool):∀k,argBest bt k<=k| 0=>ϭ| k+1=>by have:=argBest_lt bt k;unfold argBest;split<;>lia
theorem Bh (ns:Zv):∀k,∀j≤k,[Zz,argBest (λi j=>decide ([Zz,i]<[Zz,j])) k]<=[Zz,j]| 0,j,h=>by(have:j=0:=by lia);subst this;exact ϳ| k+1,j,h=>by have ih:=Bh ns k;unfold argBest;split;by_cases e:j=k+1;subst e;exact ϳ;have:=ih j (by lia);lia;by_cases e:j=k+1;lia;exact ih j (by lia)
end
end NAL.EX
namespace NAP
structure T9 where
 G:Nat
 nE:Nat
 ends:Zu
 bB:Zs
structure T9.WF (N:T9):Prop where
 gle:N.G<=N.nE
 len:N.bB.length=N.nE
 lo:∀(k:Nat) p,N.ends[k]?=ο->p.1<N.G/\N.G<=p.2/\p.2<N.nE
 mem:∀(e:Nat) l k,N.bB[e]?=te->(k∈l↔∃p,N.ends[k]?=ο/\(p.1=e\/p.2=e))
noncomputable def Xo (p:Nat×Nat) (e:Nat):Bool:=decide (p.1=e\/p.2=e)
noncomputable def load:Zu->Zv->Nat->Int| p::r,s::q,e=>(if Xo p e then s else 0)+load r q e| _,_,_=>0
theorem Bi:∀{ends:Zu} {ac:Zv} {k:Nat} {v s:Int} {p:Nat×Nat} {e:Nat},ends[k]?=ο->ac[k]?=Ϩ->load ends (ac.set k v) e=load ends ac e+(if Xo p e then v-s else 0)| [],_,_,_,_,_,_,h,_=>by trivial| _::_,[],_,_,_,_,_,_,h=>by trivial| p::r,s::q,0,v,s',p',e,h1,h2=>by simp at h1 h2;subst h1 h2;simp only[tU,load];split<;>lia| p::r,s::q,k+1,v,s',p',e,h1,h2=>by have ih:=Bi (ends:=r) (ac:=q) (k:=k) (v:=v) (s:=s') (p:=p') (e:=e) (by assumption) (by assumption);simp only[pb,load,ih];lia
noncomputable def SA (a:Int) (ac:Zv) (l:Zw):Zv:=l.foldl (λs k=>s.set k (s.getD k 0+a)) ac
theorem To (a:Int):∀l ac,(SA a ac l).length=ac.length:=by intro r;induction r with| nil =>rintro _;exact rfl| cons k r ih =>rintro ac;show(SA a (ac.set k _) r).length=_;rw[ih,eD]
noncomputable def TP (ends:Zu) (e:Nat):Zw->Int| []=>0| k::r=>(match ends[k]? with | some p=>if Xo p e then 1 else 0| none=>0)+TP ends e r
theorem wX {ends:Zu}{a:Int}{e:Nat}:∀{l:Zw} {ac:Zv},ac.length=ends.length->(∀k∈l,k<ends.length)->load ends (SA a ac l) e=load ends ac e+a*TP ends e l| [],ac,_,_=>by simp[SA,TP]| k::r,ac,hl,hk=>by have hk0:k<ends.length:=hk k aI;have hs:ac[k]?=se (ac[k]' Τ):=aJ Τ;have hp:ends[k]?=se ends[k]:=aJ hk0;have ih:=wX (ends:=ends) (a:=a) (e:=e) (l:=r) (ac:=ac.set k ([Pp,0]+a)) (by simpa using hl) (λj hj=>hk j (aY _ hj));show load ends (SA a (ac.set k ([Pp,0]+a)) r) e=_;rw[ih,Bi hp hs,TP,hp];(have hg:[Pp,0]=ac[k]' Τ:=by simp[gU,hs]);rw[hg];by_cases hc:Xo ends[k] e=tj;simp only[hc,if_true,qv,Int.mul_one];lia;simp only[hc,if_false,qv,Int.mul_zero];simp
theorem Bj {a:Int}:∀{l:Zw} {ac:Zv} {k:Nat} {s:Int},ac[k]?=Ϩ->(SA a ac l)[k]?=se (s+a*(l.count k:Int)):=by intro r;induction r with| nil =>rintro ac k s h;simp[SA,h]| cons j r ih =>rintro ac k s h;have hk:k<ac.length:=(aH.mp h).1;show(SA a (ac.set j (ac.getD j 0+a)) r)[k]?=_;by_cases e:j=k;subst e;(have h':(ac.set j (ac.getD j 0+a))[j]?=se (s+a):=by rw[gT hk];simp[gU,h]);rw[ih h',List.count_cons_self];push_cast;rw[qv];simp;lia;(have h':(ac.set j (ac.getD j 0+a))[k]?=se s:=by rw[ee e];exact h);rw[ih h',List.count_cons_of_ne (by assumption)]
noncomputable def Ux {α:Type}:Bool->υ->υ| _,[]=>[]| true,x::r=>x::Ux ff r| false,_::r=>Ux tj r
theorem WY {α:Type}{x:α}:∀{b:Bool} {l:List α},x∈Ux b l->x∈l| _,[],h=>by assumption| true,y::r,h=>(by rcases JX with rfl | h;exact aI;exact aY _ (WY h))| false,y::r,h=>aY _ (WY h)
theorem uu {α:Type}{x:α}:∀{b:Bool} {l:List α},x∈Ux b l->∃i,l[i]?=σ/\i%2=(if b then 0 else 1)| b,[],h=>by trivial| true,y::r,h=>(by rcases JX with rfl | h;exact#[0,rfl,rfl];obtain⟨i,h1,h2⟩:=uu h;exact#[i+1,by assumption,by lia])| false,y::r,h=>by obtain⟨i,h1,h2⟩:=uu (b:=tj) h;exact#[i+1,by assumption,by lia]
theorem zcZ {l:Zw}(hn:l.Nodup)(b:Bool)(k:Nat):(Ux b l).count k<=1:=by(have hs:∀(b:Bool) (l:Zw),(Ux b l).Sublist l:=by intro b l;induction l generalizing b with| nil=>cases b<;>simp[Ux]| cons x r ih =>cases b;exact List.Sublist.cons _ (ih tj);exact List.Sublist.cons_cons _ (ih ff));exact v6.mp (hn.sublist (hs b l)) k
def Wd (N:T9)(a k b:Nat):Prop:=∃p,N.ends[k]?=ο/\((p.1=a/\p.2=b)\/(p.2=a/\p.1=b))
def wY (N:T9):Nat->Zw->Nat->Prop| e,[],f=>e=f| e,k::r,f=>∃b,Wd N e k b/\wY N b r f
noncomputable def one (c:Prop) [Decidable c]:Int:=if c then 1 else 0
theorem zef (W:N.WF)(h:Wd N a k b):(match N.ends[k]? with | some p=>if Xo p x then 1 else 0| none=>0)=one (x=a)+one (x=b):=by obtain⟨p,e,h⟩:=h;have hw:=W.lo k p e;have ne:p.1≠p.2:=cI (gz hw.1 hw.2.1);(have bn:(if Xo p x then(1:Int)else 0)=one (x=p.1)+one (x=p.2):=by unfold Xo one;by_cases h1:x=p.1;subst h1;simp[ne];by_cases h2:x=p.2;subst h2;simp[Ne.symm ne];simp[h1,h2,Ne.symm h1,Ne.symm h2]);rw[e];rcases h with ⟨rfl,rfl⟩ | ⟨rfl,rfl⟩;exact bn;rw[Int.add_comm];exact bn
theorem chain_count {N:T9}(W:N.WF){f x:Nat}:∀{way:Zw} {e:Nat},wY N e way f->TP N.ends x (Ux tj way)-TP N.ends x (Ux ff way)=one (x=e)+(if way.length%2=0 then-one (x=f)else one (x=f))| [],e,h=>by have h':e=f:=h;grind[Ux,TP]| k::r,e,h=>by obtain⟨b,t,c⟩:=h;have ih:=chain_count W (x:=x) c;have hi:=zef W (x:=x) t;show((match N.ends[k]? with | some p=>if Xo p x then 1 else 0| none=>0)+TP N.ends x (Ux ff r))-TP N.ends x (Ux tj r)=_;(have o:(k::r).length%2=0↔¬r.length%2=0:=by rw[fS];lia);rw[hi];by_cases c:r.length%2=0;rw['>'] at ih;rw[P7 λz=>o.mp z c];lia;rw[oO] at ih;rw[P8 (o.mpr c)];lia
structure Flow (N:T9)(aX ac ab:Zv):Prop where
 ls:ac.length=N.ends.length
 lc:aX.length=N.nE
 lp:ab.length=N.nE
 nn:∀(k:Nat) s,ac[k]?=Ϩ->0<=s
 eq:∀(e:Nat) c s,aX[e]?=ϓ->ab[e]?=Ϩ->s=c-[IH,ac,e]
 sp:∀(e:Nat) s,ab[e]?=Ϩ->0<=s
def Go (N:T9)(ac:Zv)(a k:Nat):Prop:=a<N.G\/∃s,ac[k]?=Ϩ/\0<s
noncomputable def Lv (aa:Zv) (e:Nat):Int:=aa.getD e (-1)
inductive Lk (N:T9) (aa ac:Zv) (es:Zw) (i k:Nat):Prop
 | mk (a b:Nat) (ea:es[i]?=lT) (eb:es[i+1]?=se b) (t:Wd N a k b) (g:Go N ac a k) (l:Lv aa b=Lv aa a+1)
structure U0 (N:T9)(aa ac:Zv)(es way:Zw):Prop where
 len:es.length=way.length+1
 link:∀(i:Nat) k,way[i]?=se k->Lk N aa ac es i k
theorem Bk {N:T9}:∀{way es:Zw} {g f:Nat},es.length=way.length+1->es[0]?=se g->es[way.length]?=se f->(∀(i:Nat) k,way[i]?=se k->∃a b,es[i]?=lT/\es[i+1]?=se b/\Wd N a k b)->wY N g way f| [],es,g,f,_,h0,h1,_=>by have k6:es[0]?=se f:=h1;rw[h0] at k6;exact c8 k6| k::r,[],g,f,hl,_,_,_=>by trivial| k::r,e::es,g,f,hl,h0,h1,h=>by obtain⟨a,b,ea,eb,t⟩:=h 0 k rfl;(have e1:=by simpa using h0);(have e2:=by simpa using ea);subst e1 e2;refine#[b,t,Bk (by exact jy hl) (by assumption) (by assumption) λi k' hk=>?_];obtain⟨a',b',ea',eb',t'⟩:=h (i+1) k' (by assumption);exact#[a',b',by assumption,by assumption,t']
theorem U0.lev (P:U0 N aa ac es way)(h0:es[0]?=se g):∀{i e:Nat},es[i]?=se e->Lv aa e=Lv aa g+i| 0,e,h=>Τ| i+1,e,h=>by have hi:='M'.1;(have hw:i<way.length:=by have:=P.len;simp_all);obtain⟨a,b,ea,eb,_,_,hl⟩:=P.link i way[i] (aJ hw);have:=P.lev h0 ea;lia
theorem Wd.side (W:N.WF)(t:Wd N a k b):(a<N.G↔¬b<N.G):=by obtain⟨p,e,h⟩:=t;have:=W.lo k p e;lia
theorem U0.side (W:N.WF)(P:U0 N aa ac es way)(h0:es[0]?=se g)(hg:g<N.G):∀{i e:Nat},es[i]?=se e->(e<N.G↔i%2=0)| 0,e,h=>Τ| i+1,e,h=>by have hi:='M'.1;(have hw:i<way.length:=by have:=P.len;simp_all);obtain⟨a,b,ea,eb,t,_,_⟩:=P.link i way[i] (aJ hw);have h1:=P.side W h0 hg ea;have h2:=t.side W;lia
theorem U0.nodup {N:T9}{aa ac:Zv}{es way:Zw}(P:U0 N aa ac es way):way.Nodup:=by cases h0:es[0]? with| none =>have:=P.len;rw[vV] at h0;simp_all| some g =>rw[List.Nodup,o7];intro i j hi hj hij e;obtain⟨a,b,ea,eb,⟨p,ep,hp⟩,_,l1⟩:=P.link i way[i] (aJ hi);obtain⟨c,d,ec,ed,⟨q,eq,hq⟩,_,l2⟩:=P.link j way[j] (aJ hj);rw[<-e,ep] at eq;cases eq;have v1:=P.lev h0 ea;have v2:=P.lev h0 ec;rcases hp with ⟨rfl,rfl⟩ | ⟨rfl,rfl⟩<;>rcases hq with ⟨rfl,rfl⟩ | ⟨rfl,rfl⟩<;>lia
theorem U0.lt (P:U0 N aa ac es way)(h:k∈way):k<N.ends.length:=by obtain⟨i,hi⟩:=bf h;obtain⟨a,b,_,_,⟨p,ep,_⟩,_,_⟩:=P.link i k hi;grind
noncomputable def T6 (a:Int) (ac:Zv) (way:Zw):Zv:=SA (-a) (SA a ac (Ux tj way)) (Ux ff way)
theorem wZ (a:Int)(ac:Zv)(way:Zw):(T6 a ac way).length=ac.length:=by unfold T6;rw[To,To]
theorem HW (W:N.WF)(P:U0 N aa ac es way)(h0:es[0]?=se g)(h1:es[way.length]?=se f)(hg:g<N.G)(hf:¬f<N.G)(hl:ac.length=N.ends.length)(x:Nat) :[IH,T6 a ac way,x]=[IH,ac,x]+a*(one (x=g)+one (x=f)):=by have d:=chain_count W (x:=x) (Bk P.len h0 h1 λi k hk=>let #[a,b,e1,e2,t,_,_]:=P.link i k hk;#[a,b,e1,e2,t]);(have hodd:=by have:=P.side W h0 hg h1;lia);unfold T6;rw[wX (by rwa [To]) (λk hk=>P.lt (WY hk)),wX hl (λk hk=>P.lt (WY hk))];grind
theorem Bl (h:ac[k]?=Ϩ):(T6 a ac way)[k]?=se (s+a*((Ux tj way).count k)-a*((Ux ff way).count k)):=by unfold T6;rw[Bj (Bj h),Int.neg_mul];rfl
theorem Flow.send (W:N.WF)(F:Flow N aX ac ab)(P:U0 N aa ac es way)(h0:es[0]?=se g)(h1:es[way.length]?=se f)(hg:g<N.G)(hf:¬f<N.G) (hx:ab[g]?=σ) (hy:ab[f]?=Ϥ) (ha:0<=a) (hax:a<=x) (hay:a<=y) (hb:∀k∈Ux ff way,∀s,ac[k]?=Ϩ->a<=s):Flow N aX (T6 a ac way) ((ab.set g (x-a)).set f (y-a)):=by(have c7:g≠f:=by lia);have lr:g<ab.length:='+'.1;have hfl:f<ab.length:=(aH.mp hy).1;refine#[by rw[wZ];exact F.ls,F.lc,by simpa using F.lp,λk s' h=>?_,λe c s' hc h=>?_,λe s' h=>?_];(have hk:k<ac.length:=by grind[wZ]);have hs:ac[k]?=se ac[k]:=aJ hk;rw[Bl hs] at h;cases h;have n0:=F.nn k _ hs;have c1:0<=a*((Ux tj way).count k):=i6 ha (tJ _);by_cases hm:k∈Ux ff way;have hq:=hb k hm _ hs;have h2:=zcZ P.nodup ff k;grind;grind;rw[HW W P h0 h1 hg hf F.ls];by_cases e1:e=f;subst e1;rw[gT Τ] at h;cases h;have:=F.eq e c y hc hy;simp[one,Ne.symm c7];lia;rw[[Hx,e1]] at h;by_cases e2:e=g;subst e2;rw[gT lr] at h;cases h;have:=F.eq e c x hc hx;grind[one];rw[[Hx,e2]] at h;have:=F.eq e c s' hc h;grind[one];by_cases e1:e=f;grind;rw[[Hx,e1]] at h;by_cases e2:e=g;grind;rw[[Hx,e2]] at h;exact F.sp e s' h
structure XW (N:T9)(ac ab aa:Zv):Prop where
 len:aa.length=N.nE
 zero:∀e,Lv aa e=0->e<N.G/\∃x,ab[e]?=σ/\0<x
 aF:∀(g:Nat) x,g<N.G->ab[g]?=σ->0<x->Lv aa g=0
 pred:∀e,1<=Lv aa e->∃a k,Wd N a k e/\Go N ac a k/\Lv aa a+1=Lv aa e
def RC (N:T9)(ab:Zv)(e:Nat):Prop:=N.G<=e/\∃x,ab[e]?=σ/\0<x
def zcl (N:T9)(ac aa:Zv):Prop:=∀a k b,Wd N a k b->Go N ac a k->0<=Lv aa a->0<=Lv aa b
def Wf (N:T9)(ac aa:Zv)(a k b:Nat):Prop:=Wd N a k b/\Go N ac a k/\Lv aa b=Lv aa a+1
def W4 (N:T9)(ab ah:Zv)(e:Nat):Prop:=¬RC N ab e/\∃l,N.bB[e]?=te/\ah[e]?=se (l.length:Int)
def VX (N:T9)(ac ab aa ah:Zv):Prop:=∀(e:Nat) l (j:Nat) k t,N.bB[e]?=te->l[j]?=se k->ah[e]?=se t->(j:Int)<t->∀b,Wf N ac aa e k b->W4 N ab ah b
theorem Wd.mem (W:N.WF)(t:Wd N a k b)(h:N.bB[a]?=te):k∈l:=by obtain⟨p,e,q⟩:=t;refine(W.mem a l k h).mpr #[p,e,?_];lia
theorem VX.next (W:N.WF)(D:VX N ac ab aa ah)(x:W4 N ab ah a)(h:Wf N ac aa a k b):W4 N ab ah b:=by obtain⟨_,l,h1,h2⟩:=x;obtain⟨j,hj⟩:=bf (h.1.mem W h1);have jS:='-'.1;exact D a l j k _ h1 hj h2 Τ b h
theorem VX.all (W:N.WF)(S:XW N ac ab aa)(D:VX N ac ab aa ah)(h:∀g,Lv aa g=0->W4 N ab ah g):∀(d:Nat) e,Lv aa e=d->W4 N ab ah e:=by intro d;induction d with| zero =>rintro e he;exact h e (by assumption)| succ d ih =>rintro e he;obtain⟨a,k,t,g,l⟩:=S.pred e (NAG.gl62 he);exact D.next W (ih a (by simp_all)) #[t,g,by exact l.symm]
theorem XW.least (S:XW N ac ab aa)(T:Nat->Prop)(h1:∀g x,g<N.G->ab[g]?=σ->0<x->T g)(h2:∀a k b,Wd N a k b->Go N ac a k->T a->T b):∀(d:Nat) e,Lv aa e=d->T e:=by intro d;induction d with| zero =>rintro e he;obtain⟨hg,x,hx,h0⟩:=S.zero e (by assumption);simp_all| succ d ih =>rintro e he;obtain⟨a,k,t,g,l⟩:=S.pred e (NAG.gl62 he);exact h2 a k e t g (ih a (by simp_all))
theorem Wd.symm (t:Wd N a k b):Wd N b k a:=by obtain⟨p,e,h⟩:=t;exact#[p,e,h.symm.imp (λz=>#[z.2,z.1]) (λz=>#[z.2,z.1])]
structure Rows (N:T9)(ac ab:Zv)(d:Nat)(row:Zw)(aa:Zv):Prop where
 st:XW N ac ab aa
 row:∀e,e∈row↔Lv aa e=d
 top:∀e,Lv aa e<=d
 exp:∀a k b,Wd N a k b->Go N ac a k->0<=Lv aa a->Lv aa a<d->0<=Lv aa b
 dry:∀e,0<=Lv aa e->Lv aa e<d->¬RC N ab e
structure aV (N:T9)(ac:Zv)(d:Nat)(row:Zw)(aq:Zv)(done:Nat->Nat->Prop)(aa:Zv)(ap:Zw):Prop where
 len:aa.length=aq.length
 old:∀e,0<=Lv aq e->Lv aa e=Lv aq e
 new:∀e,Lv aq e<0->(Lv aa e=d+1/\e∈ap/\∃a k,a∈row/\Wd N a k e/\Go N ac a k)\/(Lv aa e<0/\e∉ap)
 beh:∀e∈ap,Lv aq e<0
 cl:∀a k b,done a k->Wd N a k b->Go N ac a k->0<=Lv aa b
theorem Yo (h:i<aa.length):Lv (aa.set i v) e=if e=i then v else Lv aa e:=by unfold Lv;grind
theorem aV.start:aV N ac d row aq (λ_ _=>False) aq [] :=#[rfl,λ_ _=>rfl,λe h=>.inr #[h,by simp],λe h=>Τ,λ_ _ _ h=>h.elim]
theorem aV.weak (B:aV N ac d row aq P aa ap)(h:∀a k,Q a k->P a k):aV N ac d row aq Q aa ap :=#[B.len,B.old,B.new,B.beh,λa k b q=>B.cl a k b (h a k q)]
theorem aV.skip (W:N.WF)(B:aV N ac d row aq P aa ap)(t:Wd N a k b)(h:0<=Lv aa b\/¬Go N ac a k) :aV N ac d row aq (λx y=>P x y\/(x=a/\y=k)) aa ap:=by refine#[B.len,B.old,B.new,B.beh,λx y z q t' g=>?_];rcases q with q | ⟨rfl,rfl⟩;exact B.cl x y z q t' g;(have e:z=b:=by obtain⟨p,e1,h1⟩:=t;obtain⟨p',e2,h2⟩:=t';lia);simp_all
theorem aV.mark (W:N.WF)(B:aV N ac d row aq P aa ap)(t:Wd N a k b)(g:Go N ac a k)(ha:a∈row)(hb:Lv aa b<0)(hl:b<aa.length) :aV N ac d row aq (λx y=>P x y\/(x=a/\y=k)) (aa.set b (d+1)) (ap++[b]):=by(have hb0:Lv aq b<0:=by rcases gm (Lv aq b) 0 with z | z;exact z;have:=B.old b z;simp_all);refine#[by simpa using B.len,λe he=>?_,λe he=>?_,λe he=>?_,λx y z q t' g'=>?_];rw[Yo hl,P7 (by lia)];exact B.old e he;(.rw[Yo hl];by_cases e1:e=b;grind;.rcases B.new e he with ⟨h1,h2,h3⟩ | ⟨h1,h2⟩;all_goals grind);rcases dE.mp he with he | he;exact B.beh e he;simp_all;rw[Yo hl];split;exact NAG.gl60;rcases q with q | ⟨rfl,rfl⟩;exact B.cl x y z q t' g';exfalso;obtain⟨p,e1,h1⟩:=t;obtain⟨p',e2,h2⟩:=t';lia
theorem Rows.next {row:Zw}(R:Rows N ac ab d row aq)(B:aV N ac d row aq (λa _=>a∈row) aa ap)(hd:∀e∈row,¬RC N ab e):Rows N ac ab (d+1) ap aa:=by(have up:∀e,0<=Lv aa e->0<=Lv aq e\/(Lv aa e=d+1/\e∈ap/\∃a k,a∈row/\Wd N a k e/\Go N ac a k):=λe he=>by rcases gm (Lv aq e) 0 with z | z;rcases B.new e z with h | ⟨h,_⟩;exact .inr h;lia;simp_all);refine#[#[by rw[B.len];exact R.st.len,λe he=>?_,λg x hg hx h0=>?_,λe he=>?_],λe=>#[λhe=>?_,λhe=>?_],λe=>?_,λa k b t g h0 h1=>?_,λe h0 h1=>?_];rcases up e Τ with z | ⟨z,_⟩;exact R.st.zero e (by rwa [<-B.old e z]);lia;have:=R.st.aF g x hg hx h0;rwa [B.old g Τ];rcases up e (by exact cE he)with z | ⟨z,_,a,k,ha,t,g⟩;obtain⟨a,k,t,g,l⟩:=R.st.pred e (by rwa [<-B.old e z]);have h1:=B.old e z;have h2:=B.old a (by lia);grind;have h1:=(R.row a).mp ha;have h2:=B.old a Τ;grind;(.rcases B.new e (B.beh e he)with ⟨h,_⟩ | ⟨_,h⟩;all_goals lia);push_cast at he;rcases up e (NAG.gl99 he)with z | ⟨_,z,_⟩;have:=B.old e z;have:=R.top e;lia;exact z;rcases gm (Lv aa e) 0 with z | z;lia;rcases up e z with z' | ⟨z',_⟩;have:=B.old e z';have:=R.top e;lia;simp_all;rcases up a h0 with z | ⟨z,_⟩;have h2:=B.old a z;rcases gm (Lv aa a) d with h3 | h3;have:=R.exp a k b t g z Τ;have:=B.old b this;simp_all;exact B.cl a k b ((R.row a).mpr (NAG.gl98 h3 h1 h2)) t g;simp_all;rcases up e h0 with z | ⟨z,_⟩;have h2:=B.old e z;rcases gm (Lv aa e) d with h3 | h3;exact R.dry e z Τ;exact hd e ((R.row e).mpr (NAG.gl98 h3 h1 h2));simp_all
noncomputable def unr (aa:Zv):Nat:=aa.countP λs=>decide (s<0)
structure Tr (N:T9)(ah:Zv):Prop where
 len:ah.length=N.nE
 ok:∀(e:Nat) l t,N.bB[e]?=te->ah[e]?=se t->0<=t/\t<=l.length
theorem UK {l:Zv}(h:b≠e):(l.set e v)[b]?=l[b]?:=[Hx,h]
theorem W4.keep (x:W4 N ab ah b)(h1:N.bB[e]?=te)(h2:ah[e]?=se t)(h3:t<l.length):W4 N ab (ah.set e v) b:=by obtain⟨n,l',h4,h5⟩:=x;refine#[n,l',h4,?_];(have ne:e≠b:=λq=>by subst q;cases h1.symm.trans h4;cases h2.symm.trans h5;exact absurd h3 (qu _));rw[ee ne];exact h5
theorem VX.step (D:VX N ac ab aa ah){t k:Nat}(h1:N.bB[e]?=te)(h2:ah[e]?=se (t:Int))(h3:l[t]?=se k) (h:∀b,Wf N ac aa e k b->W4 N ab ah b):VX N ac ab aa (ah.set e (t+1)):=by have hl:=(aH.mp h3).1;intro e' l' j k' t' g1 g2 g3 g4 b L;have kp:W4 N ab ah b->W4 N ab (ah.set e (t+1)) b:=λx=>x.keep h1 h2 Τ;by_cases q:e'=e;subst q;rw[h1] at g1;cases g1;rw[gT 'f'.1] at g3;cases g3;by_cases q:j=t;simp_all;exact kp (D e' l j k' t h1 g2 h2 (by lia) b L);rw[UK q] at g3;exact kp (D e' l' j k' t' g1 g2 g3 g4 b L)
theorem Tr.step (T:Tr N ah){t:Nat}(h1:N.bB[e]?=te)(h2:ah[e]?=se (t:Int))(h3:t<l.length):Tr N (ah.set e (t+1)):=by refine#[by simpa using T.len,λe' l' t' g1 g2=>?_];by_cases q:e'=e;grind;rw[UK q] at g2;exact T.ok e' l' t' g1 g2
noncomputable def Zi:Zs->Zv->Nat| l::r,t::q=>(l.length-t.toNat)+Zi r q| _,_=>0
theorem XJ:∀{bB:Zs} {ah:Zv} {e:Nat} {l:Zw} {t:Nat},bB[e]?=te->ah[e]?=se (t:Int)->t<l.length->Zi bB (ah.set e ((t:Int)+1))+1=Zi bB ah| [],_,_,_,_,h,_,_=>by trivial| _::_,[],_,_,_,_,h,_=>by trivial| l::r,x::q,0,l',t,h1,h2,h3=>by simp at h1 h2;subst h1 h2;simp only[tU,Zi];lia| l::r,x::q,e+1,l',t,h1,h2,h3=>by have ih:=XJ (bB:=r) (ah:=q) (e:=e) (l:=l') (t:=t) (by assumption) (by assumption) h3;simp only[pb,Zi];lia
theorem lv_top:∀aa,∃B:Nat,∀e,Lv aa e<=B:=by intro r;induction r with| nil =>exact#[0,λe=>by simp[Lv]]| cons x r ih =>obtain⟨B,h⟩:=ih;refine#[B+x.toNat,λe=>?_];cases e with| zero=>simp[Lv];lia| succ e =>have:=h e;grind[Lv]
structure Walk (N:T9)(ac ab aa:Zv)(g:Nat)(ah:Zv)(es way:Zw):Prop where
 tr:Tr N ah
 dead:VX N ac ab aa ah
 path:es≠[]->U0 N aa ac es way/\es[0]?=se g
 none:es=[]->way=[]/\W4 N ab ah g
 on:∀(i:Nat) k e,way[i]?=se k->es[i]?=se e->¬RC N ab e/\∃l t,N.bB[e]?=te/\ah[e]?=se ((t:Nat):Int)/\l[t]?=se k
theorem Wd.uniq (W:N.WF)(t:Wd N a k b)(t':Wd N a k c):b=c:=by obtain⟨p,e1,h1⟩:=t;obtain⟨p',e2,h2⟩:=t';lia
theorem U0.inj (P:U0 N aa ac es way)(h0:es[0]?=se g){i j e:Nat}(h1:es[i]?=se e)(h2:es[j]?=se e):i=j:=by have a:=P.lev h0 h1;have b:=P.lev h0 h2;lia
theorem Walk.skip (w:Walk N ac ab aa g ah es way){t k:Nat}(he:es.getLast?=se e)(h1:N.bB[e]?=te)(h2:ah[e]?=se (t:Int))(h3:l[t]?=se k) (h:∀b,¬Wf N ac aa e k b):Walk N ac ab aa g (ah.set e (t+1)) es way:=by(have c7:es≠[]:=by grind);obtain⟨P,h0⟩:=OF;refine#[w.tr.step h1 h2 (aH.mp h3).1,w.dead.step h1 h2 h3 λb L=>absurd L (h b),w.path,λq=>absurd q c7,λi k' e' hk hi=>?_];obtain⟨n,l',t',g1,g2,g3⟩:=w.on i k' e' hk hi;refine#[n,l',t',g1,?_,g3];(have di:=by rw[o8] at he;have:=P.len;rw[show es.length-1=way.length by simp_all] at he;exact he);rwa [UK (by rintro rfl;have:=P.inj h0 hi di;simp_all)]
theorem Walk.push (w:Walk N ac ab aa g ah es way){t k:Nat}(he:es.getLast?=se e)(h1:N.bB[e]?=te)(h2:ah[e]?=se (t:Int))(h3:l[t]?=se k) (h:Wf N ac aa e k b) (hr:¬RC N ab e):Walk N ac ab aa g ah (es++[b]) (way++[k]):=by(have c7:es≠[]:=by rintro rfl;trivial);obtain⟨P,h0⟩:=OF;(have di:=by rw[o8] at he;have:=P.len;rw[show es.length-1=way.length by simp_all] at he;exact he);refine#[w.tr,w.dead,λ_=>#[#[by simp[P.len],λi k' hk=>?_],?_],λq=>absurd q (by simp),λi k' e' hk hi=>?_];rcases lU i way.length with q | q | q;rw[i7 q] at hk;obtain⟨a,c,ea,ec,r1,r2,r3⟩:=P.link i k' hk;have:=P.len;exact#[a,c,by rwa [i7 (NAG.gl107 q this)],by rwa [i7 Τ],r1,r2,r3];subst q;simp at hk;subst hk;have:=P.len;refine#[e,b,by rwa [i7 Τ],?_,h.1,h.2.1,h.2.2];rw[gw Τ,show way.length+1-es.length=0 by simp_all];rfl;rw[gw (by exact gD q)] at hk;rw[eG (by exact NAG.gl112 q)] at hk;cases hk;rwa [i7 (eY.mpr c7)];rcases lU i way.length with q | q | q;rw[i7 q] at hk;have:=P.len;rw[i7 (NAG.gl107 q this)] at hi;exact w.on i k' e' hk hi;subst q;simp at hk;subst hk;have:=P.len;rw[i7 Τ,di] at hi;cases hi;exact#[hr,l,t,h1,h2,h3];rw[gw (by exact gD q)] at hk;rw[eG (by exact NAG.gl112 q)] at hk;cases hk
theorem Walk.pop (W:N.WF)(w:Walk N ac ab aa g ah es way)(qk:es.getLast?=se e)(he:es.dropLast.getLast?=se f)(h1:N.bB[e]?=te)(h2:ah[e]?=se (l.length:Int)) (hr:¬RC N ab e):∃(t:Nat) (l':Zw),N.bB[f]?=se l'/\ah[f]?=se (t:Int)/\t<l'.length/\Walk N ac ab aa g (ah.set f (t+1)) es.dropLast way.dropLast:=by(have c7:es≠[]:=by rintro rfl;trivial);obtain⟨P,h0⟩:=OF;have pl:=P.len;(have di:=by rw[o8] at qk;rw[show es.length-1=way.length by simp_all] at qk;exact qk);(have hd:es.dropLast.length=way.length:=by simp;simp_all);(have si:0<way.length:=by rcases pA way.length with z | z;rw[z] at hd;rw[nj.mp hd] at he;trivial;exact z);(have hf:=by rw[o8,hd] at he;rw[nq,P8 Τ] at he;exact he);obtain⟨k,hk⟩:∃k,way[way.length-1]?=se k:=#[_,aJ (NAG.gl113 si)];obtain⟨a,b,ea,eb,t,gg,lv⟩:=P.link _ k hk;rw[hf] at ea;cases ea;rw[show way.length-1+1=way.length by lia,di] at eb;cases eb;obtain⟨n,l',t',g1,g2,g3⟩:=w.on _ k f hk hf;have gQ:=(aH.mp g3).1;refine#[t',l',g1,g2,gQ,w.tr.step g1 g2 gQ,w.dead.step g1 g2 g3 λb L=>?_,λ_=>#[#[by simp;lia,λi k' cN=>?_],?_],λq=>?_,λi k' e' cN hi=>?_];have:=t.uniq W L.1;subst this;exact#[hr,l,h1,h2];rw[nq] at cN;split at cN;obtain⟨a,c,ea,ec,r1,r2,r3⟩:=P.link i k' cN;exact#[a,c,by rwa [nq,P8 (by lia)],by rwa [nq,P8 (by lia)],r1,r2,r3];cases cN;rwa [nq,P8 Τ];simp_all;rw[nq] at cN hi;split at cN;rw[P8 Τ] at hi;obtain⟨n',l2,t2,q1,q2,q3⟩:=w.on i k' e' cN hi;refine#[n',l2,t2,q1,?_,q3];rwa [UK (by rintro rfl;have:=P.inj h0 hi hf;simp_all)];cases cN
theorem Walk.fin (w:Walk N ac ab aa g ah es way)(qk:es.getLast?=se e)(he:es.dropLast=[])(h1:N.bB[e]?=te)(h2:ah[e]?=se (l.length:Int)) (hr:¬RC N ab e):way=[]/\Walk N ac ab aa g ah [] []:=by(have c7:es≠[]:=by grind);obtain⟨P,h0⟩:=OF;have pl:=P.len;(have hl:es.length=1:=by have:=congrArg qH he;grind);have hw:way=[]:=nj.mp Τ;(have hg:e=g:=by grind);subst hg;exact#[hw,w.tr,w.dead,λq=>[J4,q],λ_=>#[rfl,hr,l,h1,h2],λi k e' hk=>by trivial]
theorem Walk.short (w:Walk N ac ab aa g ah es way)(hg:Lv aa g=0){B:Nat}(hB:∀e,Lv aa e<=B):es.length<=B+1:=by by_cases c7:es=[];simp_all;obtain⟨P,h0⟩:=OF;have sX:=eY.mpr c7;have h:=P.lev h0 (aJ (NAG.gl113 sX));grind
noncomputable def wm (B:Nat) (bB:Zs) (ah:Zv) (es:Zw):Nat:=if es=[]then 0 else Zi bB ah*(B+3)+(B+2-es.length)+1
theorem HY {x:α}{way:υ}(h:x∈Ux ff way):∃i,way[i]?=σ/\i%2=1:=by obtain⟨i,h1,h2⟩:=uu h;exact#[i,h1,by assumption]
theorem zc1 {x:α}{way:υ}(h:x∈Ux tj way):∃i,way[i]?=σ/\i%2=0:=by obtain⟨i,h1,h2⟩:=uu h;exact#[i,h1,by assumption]
theorem U0.back (W:N.WF)(P:U0 N aa ac es way)(h0:es[0]?=se g)(hg:g<N.G)(h:k∈Ux ff way):∃s,ac[k]?=Ϩ/\0<s:=by obtain⟨i,hk,hi⟩:=HY h;obtain⟨a,b,ea,eb,t,go,_⟩:=P.link i k hk;have:=P.side W h0 hg ea;rcases go with go | go;simp_all;exact go
theorem Wf.before (W:N.WF)(P:U0 N aa ac es way)(h0:es[0]?=se g)(hg:g<N.G)(hx:0<=x)(hl:ac.length=N.ends.length)(L:Wf N (T6 x ac way) aa a k b):Wf N ac aa a k b:=by obtain⟨t,go,lv⟩:=L;refine#[t,?_,lv];rcases go with go | ⟨s',h1,h2⟩;exact .inl go;by_cases ha:a<N.G;exact .inl ha;(have hk:=by have:='S'.1;rwa [wZ] at this);have hs:=aJ hk;refine .inr #[_,hs,?_];rw[Bl hs] at h1;have c2:0<=x*((Ux ff way).count k):=i6 hx (tJ _);by_cases hm:k∈Ux tj way;exfalso;obtain⟨i,cN,hi⟩:=zc1 hm;obtain⟨c,d,ec,ed,t',_,lv'⟩:=P.link i k cN;have hc:=(P.side W h0 hg ec).mpr hi;obtain⟨p,e1,q1⟩:=t;obtain⟨p',e2,q2⟩:=t';lia;grind
theorem RC.le (h:∀(e:Nat) x y,ab[e]?=σ->ao[e]?=Ϥ->y<=x)(hl:ab.length=ao.length)(r:RC N ao e):RC N ab e:=by obtain⟨h1,y,h2,h3⟩:=r;(have he:e<ab.length:=by grind);have hx:=aJ he;have:=h e _ _ hx h2;exact#[h1,_,hx,by exact o4 h3 this]
theorem VX.send (W:N.WF)(P:U0 N aa ac es way)(h0:es[0]?=se g)(hg:g<N.G)(hx:0<=x)(hl:ac.length=N.ends.length) (h:∀(e:Nat) x y,ab[e]?=σ->ao[e]?=Ϥ->y<=x) (k7:ab.length=ao.length) (D:VX N ac ab aa ah):VX N (T6 x ac way) ao aa ah:=by intro e l j k t h1 h2 h3 h4 b L;obtain⟨n,r⟩:=D e l j k t h1 h2 h3 h4 b (L.before W P h0 hg hx hl);exact#[λq=>n (q.le h k7),r]
theorem sum_set:∀{l:Zv} {i:Nat} {x v:Int},l[i]?=σ->(l.set i v).sum=l.sum+v-x| [],_,_,_,h=>by trivial| y::r,0,x,v,h=>by simp at h;subst h;simp only[tU,cy];lia| y::r,i+1,x,v,h=>by have ih:=sum_set (l:=r) (i:=i) (x:=x) (v:=v) (by assumption);simp only[pb,cy,ih];lia
theorem Xz:∀{l:Zv},(∀(i:Nat) x,l[i]?=σ->0<=x)->0<=l.sum| [],_=>by simp| y::r,h=>by have h0:=h 0 y rfl;have ih:=Xz λi x hx=>h (i+1) x (by assumption);simp only[cy];lia
structure Sent (N:T9)(aX:Zv)(ac ab:Zv)(way:Zw)(g f:Nat)(a:Int)(ao:Zv):Prop where
 flow:Flow N aX (T6 a ac way) ao
 le:∀(e:Nat) x y,ab[e]?=σ->ao[e]?=Ϥ->y<=x
 sum:ao.sum=ab.sum-2*a
theorem Flow.ac (W:N.WF){aX aa ac ab:Zv}(F:Flow N aX ac ab)(P:U0 N aa ac es way)(h0:es[0]?=se g)(h1:es[way.length]?=se f)(hg:g<N.G)(hf:¬f<N.G) (hx:ab[g]?=σ) (hy:ab[f]?=Ϥ) (ha:0<=a) (hax:a<=x) (hay:a<=y) (hb:∀k∈Ux ff way,∀s,ac[k]?=Ϩ->a<=s):Sent N aX ac ab way g f a ((ab.set g (x-a)).set f (y-a)):=by refine#[F.send W P h0 h1 hg hf hx hy ha hax hay hb,λe u v hu hv=>?_,?_];by_cases e1:e=f;subst e1;rw[gT (by simpa using (aH.mp hy).1)] at hv;cases hv;rw[hy] at hu;cases hu;exact NAG.gl94 ha;rw[UK e1] at hv;by_cases e2:e=g;subst e2;rw[gT '+'.1] at hv;cases hv;rw[hx] at hu;cases hu;exact NAG.gl94 ha;rw[UK e2,hu] at hv;simp_all;rw[sum_set (by rwa [UK (by lia)]),sum_set hx];lia
structure VV (N:T9)(aX aa ax ak:Zv)(done:Zw)(ac ab ah:Zv):Prop where
 flow:Flow N aX ac ab
 tr:Tr N ah
 dead:VX N ac ab aa ah
 le:∀(e:Nat) x y,ak[e]?=σ->ab[e]?=Ϥ->y<=x
 prog:(ac=ax/\ab=ak/\∀g∈done,W4 N ab ah g)\/ab.sum<ak.sum
theorem VV.walked (p:VV N aX aa ax ak done ac ab ah)(T:Tr N aj)(D:VX N ac ab aa aj)(h:∀b,W4 N ab ah b->W4 N ab aj b) :VV N aX aa ax ak done ac ab aj :=#[p.flow,T,D,p.le,p.prog.imp (λ#[a,b,c]=>#[a,b,λg hg=>h g (c g hg)]) id]
theorem VV.ac (W:N.WF){aX aa ax ak ac ab ah ao:Zv}(p:VV N aX aa ax ak done ac ab ah)(P:U0 N aa ac es way)(h0:es[0]?=se g)(hg:g<N.G)(ha:0<a) (S:Sent N aX ac ab way g f a ao):VV N aX aa ax ak done (T6 a ac way) ao ah:=by(have hl:ab.length=ao.length:=by rw[p.flow.lp,S.flow.lp]);refine#[S.flow,p.tr,p.dead.send W P h0 hg (cE ha) p.flow.ls S.le hl,λe x y hx hy=>?_,.inr ?_];(have he:e<ab.length:=by grind);have hz:=aJ he;have h1:=p.le e _ _ hx hz;have h2:=S.le e _ _ hz hy;exact NAG.gl66 h2 h1;have:=S.sum;rcases p.prog with ⟨_,rfl,_⟩ | q;lia;lia
theorem VV.one {aX aa ax ak ac ab ah:Zv}(p:VV N aX aa ax ak done ac ab ah)(h:W4 N ab ah g\/ab.sum<ak.sum):VV N aX aa ax ak (done++[g]) ac ab ah:=by refine#[p.flow,p.tr,p.dead,p.le,?_];rcases p.prog with ⟨a,b,c⟩ | q;all_goals grind
theorem VV.less (W:N.WF){aX aa ax ak ac ab ah:Zv}(p:VV N aX aa ax ak done ac ab ah)(S:XW N ax ak aa)(hd:∀g,Lv aa g=0->g∈done)(he:0<=Lv aa e)(hr:RC N ak e):ab.sum<ak.sum:=by rcases p.prog with ⟨rfl,rfl,c⟩ | q;exact absurd hr (VX.all W S p.dead (λg hg=>c g (hd g hg)) (Lv aa e).toNat e (NAG.gl29 he)).1;exact q
structure TX (N:T9)(aX ac ab aa:Zv):Prop where
 flow:Flow N aX ac ab
 st:XW N ac ab aa
 cl:zcl N ac aa
 dry:∀e,0<=Lv aa e->¬RC N ab e
theorem Rows.done {row:Zw}(R:Rows N ac ab d row aa)(F:Flow N aX ac ab)(h:row=[]\/∃e∈row,RC N ab e)(hd:∀e,0<=Lv aa e->¬RC N ab e):TX N aX ac ab aa:=by(have hr:row=[]:=by rcases h with h | ⟨e,he,hr⟩;exact h;exact absurd hr (hd e (by rw[(R.row e).mp he];simp_all)));refine#[F,R.st,λa k b t g h0=>?_,hd];have h1:=R.top a;(have h2:Lv aa a≠d:=λq=>by have:=(R.row a).mpr q;simp_all);exact R.exp a k b t g h0 (by lia)
noncomputable def nr (aa:Zv) (e:Nat):Bool:=decide (0<=Lv aa e)
noncomputable def upTo (f:Nat->Int):Nat->Int| 0=>0| n+1=>[oR,f]+f n
theorem UI (f g:Nat->Int):∀n,[oR,λe=>f e+g e]=[oR,f]+[oR,g]:=by intro n;induction n with| zero =>exact rfl| succ n ih =>simp only[upTo,ih];lia
theorem Rs:∀n,[oR,λ_=>0]=0:=by intro n;induction n with| zero =>exact rfl| succ n ih =>simp[upTo,ih]
theorem UH (a:Nat)(v:Int):∀n,[oR,λe=>if e=a then v else 0]=if a<n then v else 0:=by intro n;induction n with| zero =>exact rfl| succ n ih =>simp only[upTo,ih];lia
theorem Qm:∀{n},(∀e<n,f e=g e)->[oR,f]=[oR,g]:=by intro n;induction n with| zero =>rintro _;exact rfl| succ n ih =>rintro h;simp only[upTo];rw[ih λe he=>h e (by exact e9 he),h n (by simp_all)]
theorem Wh {S:Nat->Bool}{n:Nat}:∀{ends:Zu} {ac:Zv},(∀p∈ends,p.1≠p.2/\p.1<n/\p.2<n)->ac.length=ends.length->[oR,λe=>if S e then load ends ac e else 0]=((ends.zip ac).map λq=>(if S q.1.1 then q.2 else 0)+(if S q.1.2 then q.2 else 0)).sum:=by intro ends;induction ends with| nil=>(intro ac _ hl;cases ac with| nil=>simp[load,Rs]| cons _ _=>cases hl)| cons p r ih=>intro ac h hl;cases ac with| nil=>cases hl| cons s q =>have ih:=ih (λx hx=>h x (aY _ hx)) (by exact jy hl);obtain⟨h1,h2,h3⟩:=h p aI;(have e:(λe=>if S e then load (p::r) (s::q) e else 0)=λe=>((if e=p.1 then (if S p.1 then s else 0) else 0)+(if e=p.2 then (if S p.2 then s else 0) else 0))+(if S e then load r q e else 0):=by funext e;simp only[load,Xo];by_cases a:e=p.1;subst a;by_cases c:S p.1=tj<;>simp[c,h1];by_cases b:e=p.2;subst b;by_cases c:S p.2=tj<;>simp[c,a];have a':¬p.1=e:=λz=>a z.symm;have b':¬p.2=e:=λz=>b z.symm;simp_all);rw[e,UI,UI,ih,UH,UH,P8 h2,P8 h3];rfl
theorem je {f g:α->Int}:∀{l:List α},(∀x∈l,f x=g x)->'~'.sum='K'.sum:=by intro r;induction r with| nil =>rintro _;exact rfl| cons x r ih =>rintro h;simp only[bA,cy];rw[h x aI,ih λy hy=>h y (aY _ hy)]
theorem WK:∀{α:Type} {xs:List α} {ys:Zv},ys.length=xs.length->((xs.zip ys).map λq=>q.2).sum=ys.sum| _,[],[],_=>rfl| _,[],_::_,h=>by simp at h| _,_::_,[],h=>by simp at h| _,x::r,y::q,h=>by have ih:=WK (by simpa using h);simp_all
theorem TX.bound (W:N.WF)(D:TX N aX ac ab aa) :ac.sum=upTo (λe=>if(if e<N.G then ! nr aa e else nr aa e)then[ZA,0]else 0) N.nE:=by(have hw:∀p∈N.ends,p.1≠p.2/\p.1<N.nE/\p.2<N.nE:=λp hp=>by obtain⟨k,hk⟩:=bf hp;have:=W.lo k p hk;exact NAG.gl104 this);(have h1:upTo (λe=>if(if e<N.G then ! nr aa e else nr aa e)then[ZA,0]else 0) N.nE=upTo (λe=>if(if e<N.G then ! nr aa e else nr aa e)then[IH,ac,e]else 0) N.nE:=by refine Qm λe he=>?_;by_cases c:(if e<N.G then ! nr aa e else nr aa e)=tj;rw['>','>'];have hc:aX[e]?=se (aX[e]'(by rwa [D.flow.lc])):=aJ _;have hs:ab[e]?=se (ab[e]'(by rwa [D.flow.lp])):=aJ _;have q:=D.flow.eq e _ _ hc hs;have n0:=D.flow.sp e _ hs;(have hz:(ab[e]'(by grind))=0:=by by_cases hg:e<N.G;rw[P8 hg] at c;(have c':=by simpa [nr] using c);rcases gm 0 (ab[e]'(by grind))with z | z;have:=D.st.aF e _ hg hs z;simp_all;exact NAG.gl61 n0 z;rw[P7 hg] at c;rcases gm 0 (ab[e]'(by grind))with z | z;exact absurd #[Τ,_,hs,z] (D.dry e (by simpa [nr] using c));exact NAG.gl61 n0 z);grind;simp[*]);rw[h1,Wh hw D.flow.ls,<-WK D.flow.ls];refine je λq hq=>?_;obtain⟨k,hk⟩:=Hq;obtain⟨p,s⟩:=q;obtain⟨hp,hs⟩:=Jy;have sP:=W.lo k p hp;have n0:=D.flow.nn k s hs;have t:Wd N p.1 k p.2:=#[p,hp,.inl #[rfl,rfl]];have c1:=D.cl p.1 k p.2 t (.inl sP.1);have c2:=λh z=>D.cl p.2 k p.1 t.symm (.inr #[s,hs,z]) h;simp only[sP.1,by lia,if_true,if_false,nr];lia
theorem qR {f g:α->Int}:∀{l:List α},(∀x∈l,f x<=g x)->'~'.sum<='K'.sum:=by intro r;induction r with| nil =>rintro _;simp| cons x r ih =>rintro h;have:=ih λy hy=>h y (aY _ hy);grind
theorem zcc {f g:α->Int}:∀{l:List α},(∀x∈l,f x<=g x)->'K'.sum<='~'.sum->∀x∈l,f x=g x:=by intro r;induction r with| nil =>rintro _ _;exact λ_ h=>by simp_all| cons x r ih =>rintro h e;have h0:=h x aI;have hr:=λy hy=>h y (aY _ hy);have h1:=qR hr;simp only[bA,cy] at e;have ih:=ih hr (NAG.gl65 e h0);grind
theorem iQ:∀{n},(∀e<n,f e<=g e)->[oR,f]<=[oR,g]| 0,_=>ϳ| n+1,h=>by have:=iQ λe he=>h e (by exact e9 he);have:=h n Τ;simp only[upTo];lia
theorem lY:∀{n},(∀e<n,f e<=g e)->[oR,g]<=[oR,f]->∀e<n,f e=g e:=by intro n;induction n with| zero =>rintro _ _;exact λe he=>by simp_all| succ n ih =>rintro h q;have h0:∀e<n,f e<=g e:=λe he=>h e (by exact e9 he);have h1:=iQ h0;have h2:=h n (by simp_all);simp only[upTo] at q;have ih:=ih h0 (by lia);grind
noncomputable def side (N:T9) (S:Nat->Bool) (e:Nat):Bool:=if e<N.G then ! S e else S e
noncomputable def bnd (N:T9) (aX:Zv) (S:Nat->Bool):Int:=upTo (λe=>if side N S e then[ZA,0]else 0) N.nE
theorem Flow.load_le {aX ac ab:Zv}(F:Flow N aX ac ab)(he:e<N.nE):[IH,ac,e]<=[ZA,0]/\([CX,e]=[ZA,0]-[IH,ac,e]):=by have hc:aX[e]?=se (aX[e]'(by rwa [F.lc])):=aJ _;have hs:ab[e]?=se (ab[e]'(by rwa [F.lp])):=aJ _;have q:=F.eq e _ _ hc hs;have n0:=F.sp e _ hs;grind
theorem T9.WF.two {N:T9}(W:N.WF):∀p∈N.ends,p.1≠p.2/\p.1<N.nE/\p.2<N.nE:=λp hp=>by obtain⟨k,hk⟩:=bf hp;have:=W.lo k p hk;exact NAG.gl104 this
theorem TX.bnd (W:N.WF)(D:TX N aX ac ab aa):ac.sum=bnd N aX (nr aa):=D.bound W
theorem TX.ai (D:TX N aX ac ab aa):∀a k b,Wd N a k b->a<N.G->nr aa a=tj->nr aa b=tj:=λa k b t hg h =>P9 (D.cl a k b t (.inl hg) (Qa h))
theorem TX.sub (D:TX N aX ac ab aa){S:Nat->Bool}(h1:∀g x,g<N.G->ab[g]?=σ->0<x->S g=tj)(h2:∀a k b,Wd N a k b->Go N ac a k->S a=tj->S b=tj)(h:nr aa e=tj):S e=tj:=by have h':=Qa h;exact D.st.least (λe=>S e=tj) h1 h2 (Lv aa e).toNat e (NAG.gl29 h')
noncomputable def SN (f:Nat->Int) (S:Nat->Bool) (n:Nat):Int:=[oR,λe=>if S e then f e else 0]
theorem zdE (h:∀e<n,S e=tj->f e<=g e):SN f S n<=SN g S n:=iQ λe he=>by grind
theorem w3 (h:∀e<n,S e=tj->f e=g e):SN f S n=SN g S n:=Qm λe he=>Τ
theorem w4 (W:N.WF)(F:Flow N aX ac ab)(S T:Nat->Bool)(hS:∀e,S e=tj->e<N.G)(hT:∀e,T e=tj->¬e<N.G) :SN (load N.ends ac) S N.nE=('r'.map λq=>if S q.1.1 then q.2 else 0).sum/\SN (load N.ends ac) T N.nE=('r'.map λq=>if T q.1.2 then q.2 else 0).sum:=by constructor;unfold SN;rw[Wh W.two F.ls];refine je λq hq=>?_;obtain⟨k,hk⟩:=Hq;obtain⟨p,s⟩:=q;obtain⟨hp,_⟩:=Jy;have:=W.lo k p hp;grind;unfold SN;rw[Wh W.two F.ls];refine je λq hq=>?_;obtain⟨k,hk⟩:=Hq;obtain⟨p,s⟩:=q;obtain⟨hp,_⟩:=Jy;have:=W.lo k p hp;grind
theorem TX.full (W:N.WF)(D:TX N aX ac ab aa)(he:e<N.nE)(h:(e<N.G/\nr aa e=ff)\/(¬e<N.G/\nr aa e=tj)):[IH,ac,e]=[ZA,0]:=by have q:='9'.2;have hs:ab[e]?=se (ab[e]'(by rwa [D.flow.lp])):=aJ _;have n0:=D.flow.sp e _ hs;(have hg:[CX,e]=ab[e]'(by grind):=by simp[*]);(have hz:¬0<(ab[e]'(by grind)):=λz=>by rcases h with ⟨h1,h2⟩ | ⟨h1,h2⟩;have:=D.st.aF e _ h1 hs z;have:=of_decide_eq_false h2;simp_all;exact D.dry e (Qa h2) #[Τ,_,hs,z]);lia
theorem TX.none_sent (W:N.WF)(D:TX N aX ac ab aa){k:Nat}(hp:N.ends[k]?=ο)(hs:ac[k]?=Ϩ)(h1:nr aa p.1=ff)(h2:nr aa p.2=tj):s=0:=by have n0:=D.flow.nn k s hs;rcases gm 0 s with z | z;have:=D.cl p.2 k p.1 #[p,hp,.inr #[rfl,rfl]] (.inr #[s,hs,z]) (Qa h2);have:=of_decide_eq_false h1;trivial;exact NAG.gl61 n0 z
theorem TX.hi (W:N.WF)(D:TX N aX ac ab aa)(S T:Nat->Bool)(hS:∀e,S e=tj->e<N.G/\nr aa e=ff)(hT:∀e,T e=tj->¬e<N.G) (h:∀(k:Nat) p,N.ends[k]?=ο->S p.1=tj->nr aa p.2=ff->T p.2=tj):SN (λe=>[ZA,0]) S N.nE<=SN (λe=>[ZA,0]) T N.nE:=by obtain⟨l1,l2⟩:=w4 W D.flow S T (λe he=>(hS e he).1) hT;rw[w3 λe he c=>(D.full W he (.inl (hS e c))).symm,l1];refine gq ?_ (zdE λe he _=>'9'.1);rw[l2];refine qR λq hq=>?_;obtain⟨k,hk⟩:=Hq;obtain⟨p,s⟩:=q;obtain⟨hp,hs⟩:=Jy;have n0:=D.flow.nn k s hs;by_cases a:S p.1=tj;rcases qo (nr aa p.2)with z | z;have:=D.none_sent W hp hs (hS _ a).2 z;simp_all;grind;lia
theorem TX.lo (W:N.WF)(D:TX N aX ac ab aa)(S T:Nat->Bool)(hS:∀e,S e=tj->e<N.G)(hT:∀e,T e=tj->¬e<N.G/\nr aa e=tj) (h:∀(k:Nat) p,N.ends[k]?=ο->nr aa p.1=tj->T p.2=tj->S p.1=tj) (c7:∃e,e<N.nE/\T e=tj):SN (λe=>[ZA,0]) T N.nE<SN (λe=>[ZA,0]) S N.nE:=by obtain⟨l1,l2⟩:=w4 W D.flow S T hS (λe he=>(hT e he).1);have e1:=w3 λe he c=>(D.full W he (.inr (hT e c))).symm;(have lh:∀e<N.nE,(if S e then[IH,ac,e]else 0)<=(if S e then[ZA,0]else 0):=λe he=>by by_cases c:S e=tj;simp only[c,if_true];exact '9'.1;simp[c]);have e2:SN (load N.ends ac) S N.nE<=SN (λe=>[ZA,0]) S N.nE:=iQ lh;(have tm:∀q∈'r',(if T q.1.2 then q.2 else 0)<=(if S q.1.1 then q.2 else 0):=λq hq=>by obtain⟨k,hk⟩:=Hq;obtain⟨p,s⟩:=q;obtain⟨hp,hs⟩:=Jy;have n0:=D.flow.nn k s hs;by_cases b:T p.2=tj;rcases qo (nr aa p.1)with z | z;have:=h k p hp z b;simp[b,this];have:=D.none_sent W hp hs z (hT _ b).2;subst this;simp;by_cases a:S p.1=tj<;>simp[a,b]<;>assumption);have e3:=qR tm;rw[<-l1,<-l2] at e3;rcases gm (SN (λe=>[ZA,0]) T N.nE) (SN (λe=>[ZA,0]) S N.nE)with z | z;exact z;exfalso;have q1:=lY lh (by show SN _ S _<=SN _ S _;lia);have q2:=zcc tm (by rw[<-l1,<-l2];lia);obtain⟨t,ht,hTt⟩:=c7;have sub:=D.sub (S:=λe=>nr aa e&&! S e&&! T e) (λg x hg hx h0=>?_) (λa k b tie go ha=>?_) (hT t hTt).2;simp[hTt] at sub;have n:nr aa g=tj:=P9 (by rw[D.st.aF g x hg hx h0];exact ϳ);(have lr:=by have:=W.gle;exact NAG.gl56 hg this);(have nT:T g=ff:=by rcases qo (T g)with z | z;exact absurd hg (hT g z).1;exact z);(have nS:S g=ff:=by rcases qo (S g)with z | z;have:=q1 g lr;simp only[z,if_true] at this;have w:=(D.flow.load_le lr).2;(have:[CX,g]=x:=by simp[gU,hx]);simp_all;exact z);simp[n,nT,nS];simp only[bW,jr] at ha ⊢;obtain⟨⟨a1,a2⟩,a3⟩:=ha;have nb:=P9 (D.cl a k b tie go (Qa a1));obtain⟨p,hp,q⟩:=tie;have sP:=W.lo k p hp;refine#[#[nb,?_],?_];rcases qo (S b)with z | z;exfalso;have hb:=hS b z;(have oT:p.2=a/\p.1=b:=by rcases q with ⟨q1,q2⟩ | q;lia;exact q);rcases go with go | ⟨s,hs,h0⟩;lia;have hm:(p,s)∈'r':=[Jv,#[hp,hs]];have:=q2 _ hm;simp_all;exact z;grind
theorem zaL (W:N.WF)(F:Flow N aX ac ab):SN (load N.ends ac) (λe=>decide (e<N.G)) N.nE=ac.sum/\SN (load N.ends ac) (λe=>[KO,e<N.G]) N.nE=ac.sum:=by obtain⟨l1,l2⟩:=w4 W F (λe=>decide (e<N.G)) (λe=>[KO,e<N.G]) (λe h=>Qa h) (λe h=>by simpa using h);(have c1:('r'.map λq=>if(decide (q.1.1<N.G))=tj then q.2 else 0).sum=ac.sum:=by rw[<-WK F.ls];refine je λq hq=>?_;obtain⟨k,hk⟩:=Hq;obtain⟨p,s⟩:=q;obtain⟨hp,hs⟩:=Jy;have:=W.lo k p hp;simp[this.1]);(have c2:('r'.map λq=>if[KO,q.1.2<N.G]=tj then q.2 else 0).sum=ac.sum:=by rw[<-WK F.ls];refine je λq hq=>?_;obtain⟨k,hk⟩:=Hq;obtain⟨p,s⟩:=q;obtain⟨hp,hs⟩:=Jy;have:=W.lo k p hp;simp_all);simp_all
theorem TX.far (W:N.WF)(D:TX N aX ac ab aa)(hs:SN (λe=>[ZA,0]) (λe=>decide (e<N.G)) N.nE<=SN (λe=>[ZA,0]) (λe=>[KO,e<N.G]) N.nE) (hn:∃e,nr aa e=tj):∃e,¬e<N.G/\e<N.nE/\nr aa e=ff:=by apply Classical.byContradiction;intro hc;(have jL:∀e,¬e<N.G->e<N.nE->nr aa e=tj:=λe h1 h2=>Τ);obtain⟨a1,a2⟩:=zaL W D.flow;(have e1:SN (λe=>[ZA,0]) (λe=>[KO,e<N.G]) N.nE=ac.sum:=by rw[<-a2];refine w3 λe he c=>(D.full W he (.inr #[?_,jL e ?_ he])).symm;all_goals lia);(have le:∀e<N.nE,(if(decide (e<N.G))=tj then[IH,ac,e]else 0)<=(if(decide (e<N.G))=tj then[ZA,0]else 0):=λe he=>by by_cases c:(decide (e<N.G))=tj;simp only[c,if_true];exact '9'.1;simp[c]);have q:=lY le (by grind[SN]);obtain⟨e,he⟩:=hn;have hl:=Qa he;(have:∀(d:Nat) e,Lv aa e=d->False:=by intro d;induction d with| zero =>intro e h;obtain⟨hg,x,hx,h0⟩:=D.st.zero e (by simpa using h);(have lr:=by have:=W.gle;exact NAG.gl56 hg this);have w:=(D.flow.load_le lr).2;grind| succ d ih =>intro e h;obtain⟨a,k,t,g,l⟩:=D.st.pred e (NAG.gl62 h);simp_all);exact this (Lv aa e).toNat e (NAG.gl29 hl)
theorem zam (f:Nat->Int):∀n,upTo f (n+1)=f 0+[oR,λe=>f (e+1)]:=by intro n;induction n with| zero =>simp[upTo]| succ n ih =>rw[upTo,ih];simp only[upTo];lia
theorem UG (f:Nat->Int)(a:Nat):∀b,upTo f (a+b)=upTo f a+upTo (λe=>f (a+e)) b:=by intro b;induction b with| zero =>simp[upTo]| succ b ih =>rw[<-ug,upTo,ih];simp only[upTo];lia
theorem UB:∀(l:Zw),upTo (λe=>φ [KI,e]) l.length=(l.map φ).sum| []=>rfl| x::r=>by rw[fS,zam];have ih:=UB (φ:=φ) r;simp_all
noncomputable def V3 (g t:Nat) (ai:Zu) (bB:Zs):T9:=#[g,g+t,ai.map λp=>(p.1,g+p.2),bB]
theorem w5 {A:Nat->Bool}{l:Zw}{φ:Nat->Int}(h:∀e<l.length,f e=φ [KI,e]):SN f (λe=>decide (e<l.length)&&A [KI,e]) (l.length+t)=(l.map λc=>if A c then φ c else 0).sum:=by unfold SN;rw[UG,<-UB];(have z:upTo (λe=>if(decide (l.length+e<l.length)&&A [KI,l.length+e])=tj then f (l.length+e)else 0) t=0:=by rw[Qm (g:=λ_=>0) λe he=>by simp[Nat.not_lt.mpr (kn l.length e)],Rs]);rw[z,mZ];exact Qm λe he=>by simp[he,h e he]
theorem w6 {A:Nat->Bool}{l:Zw}{φ:Nat->Int}(h:∀e<l.length,f (g+e)=φ [KI,e]):SN f (λe=>[KO,e<g]&&A [KI,e-g]) (g+l.length)=(l.map λc=>if A c then φ c else 0).sum:=by unfold SN;rw[UG,<-UB];(have z:upTo (λe=>if([KO,e<g]&&A [KI,e-g])=tj then f e else 0) g=0:=by refine(Qm λe he=>?_).trans (Rs g);simp_all);rw[z,lF];refine Qm λe he=>?_;simp[*]
section
variable {wk:Nat->Int}{dr:Nat->Zw}{ag ad:Zw}
def YV (dr:Nat->Zw)(ag ad:Zw)(ai:Zu):Prop:=∀g t:Nat,(g,t)∈ai↔∃c h,ad[g]?=ϓ/\ag[t]?=se h/\h∈dr c
structure Zb (wk:Nat->Int)(dr:Nat->Zw)(ag ad:Zw)(m W:Int)(nc nh:Nat->Bool):Prop where
 up:∀c∈ad,∀h∈ag,h∈dr c->nc c=tj->ϡ=tj
 hi:∀T:Nat->Bool,(ad.map λc=>if(! nc c&&ag.all λh=>(ϡ||!(dr c).contains h||T h))then XL*m else 0).sum<=(ag.map λh=>if(! ϡ&&T h)then W else 0).sum
 lo:∀T:Nat->Bool,(∃h∈ag,ϡ=tj/\T h=tj)->(ag.map λh=>if(ϡ&&T h)then W else 0).sum<(ad.map λc=>if(nc c&&ag.any λh=>((dr c).contains h&&T h))then XL*m else 0).sum
 far:(∃h∈ag,ϡ=tj)->∃h∈ag,ϡ=ff
theorem Rt {l:Zw}(h:l[i]?=σ):[KI,i]=x:=Τ
theorem Tu {l:Zw}(h:i<l.length):l[i]?=se [KI,i]:=Τ
theorem Ib:(∀e<ad.length,(ad.map (λc=>XL*m)++[Ji,W]).getD e 0=wk (ad.getD e 0)*m)/\∀e<ag.length,(ad.map (λc=>XL*m)++[Ji,W]).getD (ad.length+e) 0=W:=by constructor;intro e he;rw[bC,i7 Τ,bo,Tu he];rfl;intro e he;rw[bC,gw (by simp),a8,Ay,lI,P8 he];rfl
theorem cut_of (sN:YV dr ag ad ai)(WF:[Il,ag.length,ai,bB].WF) (D:TX [Il,ag.length,ai,bB] (ad.map (λc=>XL*m)++[Ji,W]) ac ab aa) (hc:∀i c,ad[i]?=ϓ->nc c=nr aa i) (hh:∀i h,ag[i]?=se h->ϡ=nr aa (ad.length+i)) (hsum:(ad.map λc=>XL*m).sum=(ag.map λ_=>W).sum):Zb wk dr ag ad m W nc nh:=by obtain⟨cp1,cp2⟩:=Ib;(have tie:∀(k:Nat) p,[Il,ag.length,ai,bB].ends[k]?=ο->∃t c h,p.2=ad.length+t/\ad[p.1]?=ϓ/\ag[t]?=se h/\h∈dr c:=λk p hp=>by have cH:(ai.map λp=>(p.1,ad.length+p.2))[k]?=ο:=hp;rw[bo] at cH;cases q:ai[k]? with| none=>rw[q] at cH;cases cH| some x =>rw[q] at cH;cases cH;obtain⟨c,h,h1,h2,h3⟩:=(sN x.1 x.2).mp (aG q);exact#[x.2,c,h,rfl,h1,h2,h3]);(have mk:∀g t c h,ad[g]?=ϓ->ag[t]?=se h->h∈dr c->∃k:Nat,[Il,ag.length,ai,bB].ends[k]?=se (g,ad.length+t):=λg t c h h1 h2 h3=>by obtain⟨k,hk⟩:=bf ((sN g t).mpr #[c,h,h1,h2,h3]);refine#[k,?_];show(ai.map λp=>(p.1,ad.length+p.2))[k]?=_;rw[bo,hk];rfl);refine#[λc oS h jZ hd hn=>?_,λT=>?_,λT hT=>?_,λhn=>?_];obtain⟨g,hg⟩:=bf oS;obtain⟨t,ht⟩:=bf jZ;obtain⟨k,hk⟩:=mk g t c h hg ht hd;rw[hh t h ht];refine D.ai g k (ad.length+t) #[_,hk,.inl #[rfl,rfl]] (aH.mp hg).1 ?_;rwa [<-hc g c hg];have q:=D.hi WF (λe=>decide (e<ad.length)&&(λc=>! nc c&&ag.all λh=>(ϡ||!(dr c).contains h||T h)) (ad.getD e 0)) (λe=>[KO,e<ad.length]&&(λh=>! ϡ&&T h) [bx,e-ad.length]) (λe he=>?_) (λe he=>?_) (λk p hp hS hn=>?_);exact gq (lG (w5 (f:=λe=>(ad.map (λc=>XL*m)++[Ji,W]).getD e 0) (t:=ag.length) (φ:=λc=>XL*m) cp1).symm) (gq q (lG (w6 (A:=λh=>! ϡ&&T h) (φ:=λ_=>W) cp2)));rw[bW] at he;have h1:=Qa he.1;refine#[h1,?_];have h2:=he.2;simp only[bW,jr] at h2;rw[<-hc e _ (Tu h1)];exact h2.1;rw[bW] at he;show¬e<ad.length;simpa using he.1;obtain⟨t,c,h,e2,h1,h2,h3⟩:=tie k p hp;rw[bW] at hS;have i3:=hS.2;rw[Rt h1] at i3;simp only[bW,i9,mX,jr] at i3;(have nn:ϡ=ff:=by rwa [hh t h h2,<-e2]);(have hT:T h=tj:=by rcases i3.2 h (aG h2)with (z | z) | z;rw[nn] at z;cases z;rw[kf.mpr h3] at z;cases z;exact z);(have jR:p.2-ad.length=t:=Τ);show([KO,p.2<ad.length]&&(! nh [bx,p.2-ad.length]&&T [bx,p.2-ad.length]))=tj;rw[jR,Rt h2,nn,hT,Qb Τ];rfl;have q:=D.lo WF (λe=>decide (e<ad.length)&&(λc=>nc c&&ag.any λh=>((dr c).contains h&&T h)) (ad.getD e 0)) (λe=>[KO,e<ad.length]&&decide (e<ad.length+ag.length)&&(λh=>ϡ&&T h) [bx,e-ad.length]) (λe he=>?_) (λe he=>?_) (λk p hp hn hS=>?_) ?_;(have e2:SN (λe=>(ad.map (λc=>XL*m)++[Ji,W]).getD e 0) (λe=>[KO,e<ad.length]&&decide (e<ad.length+ag.length)&&(λh=>ϡ&&T h) [bx,e-ad.length]) (ad.length+ag.length)=SN (λe=>(ad.map (λc=>XL*m)++[Ji,W]).getD e 0) (λe=>[KO,e<ad.length]&&(λh=>ϡ&&T h) [bx,e-ad.length]) (ad.length+ag.length):=by refine Qm λe he=>?_;simp[he]);exact zN (lG ((w6 (A:=λh=>ϡ&&T h) (φ:=λ_=>W) cp2).symm.trans e2.symm)) (o4 q (lG (w5 (f:=λe=>(ad.map (λc=>XL*m)++[Ji,W]).getD e 0) (A:=λc=>nc c&&ag.any λh=>((dr c).contains h&&T h)) (t:=ag.length) (φ:=λc=>XL*m) cp1)));rw[bW] at he;exact Qa he.1;rw[bW,bW] at he;(have h1:¬e<ad.length:=by simpa using he.1.1);have h0:e<ad.length+ag.length:=Qa he.1.2;refine#[h1,?_];have h2:=he.2;simp only[bW] at h2;have h3:=hh (e-ad.length) _ (Tu (NAG.gl51 h0 h1));rw[show ad.length+(e-ad.length)=e by simp_all] at h3;rw[<-h3];exact h2.1;obtain⟨t,c,h,e2,h1,h2,h3⟩:=tie k p hp;rw[bW] at hS;have i3:=hS.2;(have jR:p.2-ad.length=t:=by simp[*]);rw[jR,Rt h2] at i3;simp only[bW] at i3;(have nc1:nc c=tj:=by rwa [hc p.1 c h1]);have an:(ag.any λh=>((dr c).contains h&&T h))=tj:=ia.mpr #[h,aG h2,by rw[kf.mpr h3,i3.2];rfl];simp only[(aH.mp h1).1,decide_true,Bool.true_and,Rt h1,nc1,an];obtain⟨h,h1,h2,h3⟩:=hT;obtain⟨t,ht⟩:=bf h1;have gQ:=(aH.mp ht).1;refine#[ad.length+t,by show _<ad.length+ag.length;simp_all,?_];(have:¬ad.length+t<ad.length:=Τ);(have k2:ad.length+t-ad.length=t:=Τ);show([KO,ad.length+t<ad.length]&&decide (ad.length+t<ad.length+ag.length)&&(nh [bx,ad.length+t-ad.length]&&T [bx,ad.length+t-ad.length]))=tj;rw[k2,Rt ht,h2,h3,Qb this,P9 Τ];rfl;obtain⟨h,h1,h2⟩:=hn;obtain⟨t,ht⟩:=bf h1;(have su:SN (λe=>(ad.map (λc=>XL*m)++[Ji,W]).getD e 0) (λe=>decide (e<[Il,ag.length,ai,bB].G)) [Il,ag.length,ai,bB].nE<=SN (λe=>(ad.map (λc=>XL*m)++[Ji,W]).getD e 0) (λe=>[KO,e<[Il,ag.length,ai,bB].G]) [Il,ag.length,ai,bB].nE:=by show SN _ _ (ad.length+ag.length)<=SN _ _ (ad.length+ag.length);have g1:=w5 (f:=λe=>(ad.map (λc=>XL*m)++[Ji,W]).getD e 0) (A:=λ_=>tj) (t:=ag.length) (φ:=λc=>XL*m) cp1;have g2:=w6 (f:=λe=>(ad.map (λc=>XL*m)++[Ji,W]).getD e 0) (A:=λ_=>tj) (φ:=λ_=>W) cp2;simp only[zK,if_true] at g1 g2;have g1':SN (λe=>(ad.map (λc=>XL*m)++[Ji,W]).getD e 0) (λe=>decide (e<[Il,ag.length,ai,bB].G)) (ad.length+ag.length)=_:=g1;have g2':SN (λe=>(ad.map (λc=>XL*m)++[Ji,W]).getD e 0) (λe=>[KO,e<[Il,ag.length,ai,bB].G]) (ad.length+ag.length)=_:=g2;rw[g1',g2',hsum];exact ϳ);obtain⟨e,e1,e2,e3⟩:=D.far WF su #[ad.length+t,by rwa [<-hh t h ht]];have e1':¬e<ad.length:=e1;have e2':e<ad.length+ag.length:=e2;have hg:=Tu (i:=e-ad.length) (NAG.gl51 e2' e1');refine#[_,aG hg,?_];rwa [hh _ _ hg,show ad.length+(e-ad.length)=e by simp_all]
end
abbrev Cr:=List Nat×Zw
section
variable (wk:Nat->Int)(dr:Nat->Zw)
noncomputable def Yw (c:Cr) (T:Nat->Bool):Int:=(c.2.map λx=>if(c.1.any λh=>('T'.contains h&&T h))then wk x else 0).sum
noncomputable def VI (c:Cr) (T:Nat->Bool):Int:=(c.2.map λx=>if(c.1.all λh=>(! 'T'.contains h||T h))then wk x else 0).sum
noncomputable def cnt (c:Cr) (T:Nat->Bool):Int:=(c.1.map λh=>if T h then 1 else 0).sum
noncomputable def Ub (c:Cr):Int:=(c.2.map wk).sum
def Lo (c:Cr)(p q:Int):Prop:=∀T:Nat->Bool,(∃h∈c.1,T h=tj)->p*cnt c T<q*Yw wk dr c T
def Hi (c:Cr)(p q:Int):Prop:=∀T:Nat->Bool,q*VI wk dr c T<=p*cnt c T
def Above (x y:Cr):Prop:=∃p q:Int,0<q/\Lo wk dr x p q/\Hi wk dr y p q
end
noncomputable def Su (c:Cr) (nc nh:Nat->Bool):Cr:=(c.1.filter nh,c.2.filter nc)
noncomputable def aU (c:Cr) (nc nh:Nat->Bool):Cr:=(c.1.filter λh=>! ϡ,c.2.filter λx=>! nc x)
theorem pE {f:Nat->Int}:∀(l:Zw),('z'.map f).sum=(l.map λx=>if p x then f x else 0).sum:=by intro r;induction r with| nil =>exact rfl| cons x r ih =>by_cases h:p x=tj;simp[h,ih];simp[h,ih]
theorem VF (k:Int)(f:Nat->Int):∀(l:Zw),k*'~'.sum=(l.map λx=>k*f x).sum:=by intro r;induction r with| nil =>simp| cons x r ih =>simp only[bA,cy,qv,ih]
theorem any_filter (l:Zw):('z'.any q)=l.any λh=>(p h&&q h):=by rw[List.any_filter]
theorem all_filter (l:Zw):('z'.all q)=l.all λh=>(! p h||q h):=by rw[List.all_filter]
theorem any_congr {l:Zw}(h:∀x∈l,p x=q x):l.any p=l.any q:=by grind
theorem all_congr {l:Zw}(h:∀x∈l,p x=q x):l.all p=l.all q:=by grind
section
variable {wk:Nat->Int}{dr:Nat->Zw}{c:Cr}{m W:Int}{nc nh:Nat->Bool}
theorem Bm (T:Nat->Bool):cnt (Su c nc nh) T=cnt c (λh=>ϡ&&T h):=by unfold cnt Su;rw[pE];refine je λh _=>?_;by_cases a:ϡ=tj<;>simp[a]
theorem Bo (T:Nat->Bool):cnt (aU c nc nh) T=cnt c (λh=>! ϡ&&T h):=by unfold cnt aU;rw[pE];refine je λh _=>?_;by_cases a:ϡ=tj<;>simp[a]
theorem Bp:cnt c (λ_=>tj)=c.1.length:=by(have g:∀l:Zw,(l.map λ_=>(1:Int)).sum=l.length:=λl=>by induction l with| nil=>rfl| cons x r ih =>simp only[bA,cy,fS,ih];lia);exact g _
theorem Bq (T:Nat->Bool):W*cnt c T=(c.1.map λh=>if T h then W else 0).sum:=by unfold cnt;rw[VF];refine je λh _=>?_;by_cases a:T h=tj<;>simp[a]
theorem Zb.touch_near (C:Zb wk dr c.1 c.2 m W nc nh)(T:Nat->Bool):Yw wk dr (Su c nc nh) T=(c.2.map λx=>if(nc x&&c.1.any λh=>('T'.contains h&&T h))then wk x else 0).sum:=by unfold Yw Su;rw[pE];refine je λx hx=>?_;by_cases a:nc x=tj;(have e:(c.1.filter nh).any (λh=>('T'.contains h&&T h))=c.1.any (λh=>('T'.contains h&&T h)):=by rw[any_filter];refine any_congr λh hh=>?_;by_cases d:'T'.contains h=tj;rw[C.up x hx h hh (kf.mp d) a];rfl;(have d':'T'.contains h=ff:=by simpa using d);rw[d'];simp);rw[a,e];rfl;simp[a]
theorem Zb.lo_near (C:Zb wk dr c.1 c.2 m W nc nh):Lo wk dr (Su c nc nh) W m:=by intro T hT;obtain⟨h,h1,h2⟩:=hT;have k6:=h1;obtain⟨h3,h4⟩:=bY.mp k6;have q:=C.lo T #[h,h3,h4,h2];rw[Bm,Bq,C.touch_near,VF];refine o4 q (lG (je λx _=>?_));split<;>simp[gu]
theorem Zb.hi_rest (C:Zb wk dr c.1 c.2 m W nc nh):Hi wk dr (aU c nc nh) W m:=by intro T;have q:=C.hi T;rw[Bo,Bq];refine gq (lG ?_) q;unfold VI aU;rw[pE,VF];refine je λx hx=>?_;(have e:(c.1.filter λh=>! ϡ).all (λh=>(! 'T'.contains h||T h))=c.1.all (λh=>(ϡ||! 'T'.contains h||T h)):=by rw[all_filter];refine all_congr λh _=>?_;by_cases a:ϡ=tj<;>simp[a]);rw[e];by_cases a:nc x=tj;simp[a];(have a':=by simpa using a);by_cases b:c.1.all (λh=>(ϡ||! 'T'.contains h||T h))=tj;rw[b,a'];simp[gu];rw[eq_false_of_ne_true b,a'];simp
theorem zaJ (hw:∀x∈c.2,0<=wk x)(T:Nat->Bool):Yw wk dr c T<=Ub wk c:=by refine qR λx hx=>?_;have:=hw x hx;split<;>lia
theorem zcI:VI wk dr c (λ_=>tj)=Ub wk c:=by unfold VI Ub;simp_all
theorem Lo.avg (h:Lo wk dr c p q)(hq:0<q)(c7:c.1≠[])(hw:∀x∈c.2,0<=wk x):p*c.1.length<q*Ub wk c:=by obtain⟨x,hx⟩:=zW _ c7;have:=h (λ_=>tj) #[x,hx,rfl];rw[Bp] at this;exact o4 this (tH (zaJ hw _) (cE hq))
theorem Hi.avg (h:Hi wk dr c p q):q*Ub wk c<=p*c.1.length:=by have:=h (λ_=>tj);rw[Bp,zcI] at this;exact this
theorem Zb.lo_rest (C:Zb wk dr c.1 c.2 m W nc nh)(h:Lo wk dr c p q):Lo wk dr (aU c nc nh) p q:=by intro T hT;obtain⟨k,h1,h2⟩:=hT;obtain⟨h3,h4⟩:=bY.mp h1;rw[Bo];refine o4 (h (λh=>! ϡ&&T h) #[k,h3,by rwa [h4]]) (lG ?_);congr 1;unfold Yw aU;rw[pE];refine je λx hx=>?_;by_cases a:nc x=tj;(have e:c.1.any (λh=>('T'.contains h&&(! ϡ&&T h)))=ff:=by rw[tX];intro h hh;by_cases d:'T'.contains h=tj;rw[C.up x hx h hh (kf.mp d) a];simp;simp_all);lia;grind
theorem Zb.hi_near (C:Zb wk dr c.1 c.2 m W nc nh)(hq:0<q)(hw:∀x∈c.2,0<=wk x)(h:Hi wk dr c p q):Hi wk dr (Su c nc nh) p q:=by intro T;rw[Bm];refine gq (tH ?_ (cE hq)) (h (λh=>ϡ&&T h));unfold VI Su;rw[pE];refine qR λx hx=>?_;have w0:=hw x hx;by_cases a:nc x=tj;(have e:(c.1.filter nh).all (λh=>(! 'T'.contains h||T h))=c.1.all (λh=>(! 'T'.contains h||(ϡ&&T h))):=by rw[all_filter];refine all_congr λh hh=>?_;by_cases d:'T'.contains h=tj;rw[C.up x hx h hh (kf.mp d) a,d];rfl;simp_all);lia;lia
end
structure UX (wk:Nat->Int)(dr:Nat->Zw)(ae ad:Nat)(L:List Cr):Prop where
 ord:∀(i:Nat) x y,L[i]?=σ->L[i+1]?=Ϥ->Above wk dr x y
 ne:∀c∈L,c.1≠[]
 own:∀c∈L,∀x∈c.2,∃h∈c.1,h∈'T'
 up:∀(i:Nat) c,L[i]?=ϓ->∀x∈c.2,∀h∈'T',∃(j:Nat) (d:Cr),j<=i/\L[j]?=Ϡ/\h∈d.1
 hs:∀h:Nat,(L.map λc=>c.1.count h).sum=if h<ae then 1 else 0
 cs:∀x:Nat,(L.map λc=>c.2.count x).sum=if x<ad then 1 else 0
 hr:∀c∈L,c.1.Pairwise (· < ·)
 cr:∀c∈L,c.2.Pairwise (· < ·)
theorem Br {l:Zw}(h:Nat):'z'.count h+(l.filter λx=>! p x).count h=l.count h:=by induction l with| nil=>rfl| cons x r ih =>rw[kg,kg];by_cases a:p x=tj;simp only[a,if_true,Bool.not_true,vL,if_false,wx];lia;(have a':=by simpa using a);simp only[a',vL,if_false,Bool.not_false,if_true,wx];lia
theorem ie {A B:υ}{c:α}(i:Nat):(A++c::B)[i]?=if i<A.length then A[i]? else if i=A.length then ϓ else B[i-A.length-1]?:=by rw[v7];by_cases h:i<A.length;rw[P8 h,P8 h];rw[P7 h,P7 h];by_cases e:i=A.length;subst e;simp;obtain⟨k,rfl⟩:∃k,i=A.length+(k+1):=#[i-A.length-1,by lia];simp
theorem pF (i:Nat):(A++c::d::B)[i]?=if i<A.length then A[i]? else if i=A.length then ϓ else if i=A.length+1 then Ϡ else B[i-A.length-2]?:=by rw[ie];split;rfl;split;rfl;split;rename_i h3;subst h3;simp;rw[show i-A.length-1=(i-A.length-2)+1 by lia];simp
theorem UX.cut (hw:∀x,0<wk x)(K:UX wk dr ae ad (A++c::B))(C:Zb wk dr c.1 c.2 c.1.length (Ub wk c) nc nh)(hn:∃h∈c.1,ϡ=tj) :UX wk dr ae ad (A++Su c nc nh::aU c nc nh::B):=by(have hc:c∈A++c::B:=by simp);(have m0:(0:Int)<c.1.length:=by have:=eY.mpr (K.ne c hc);simp_all);(have mem:∀d,d∈A++Su c nc nh::aU c nc nh::B->d=Su c nc nh\/d=aU c nc nh\/d∈A++c::B:=λd hd=>by rcases dE.mp hd with h | h;exact .inr (.inr (dE.mpr (.inl h)));rcases JX with h | h;exact .inl h;rcases JX with h | h;exact .inr (.inl h);exact .inr (.inr (dE.mpr (.inr (aY _ h)))));obtain⟨hf,hf1,hf2⟩:=C.far hn;obtain⟨hh,hh1,hh2⟩:=hn;(have oW:∀x∈c.2,nc x=ff->∃h∈c.1,ϡ=ff/\h∈'T':=λx hx hnx=>by apply Classical.byContradiction;intro hno;have q:=C.hi (λ_=>ff);(have z:(c.1.map λh=>if(! ϡ&&ff)=tj then Ub wk c else 0).sum=0:=by(have:(c.1.map λh=>if(! ϡ&&ff)=tj then Ub wk c else 0)=c.1.map λ_=>0:=by refine cq λh _=>?_;simp);rw[this];clear this;induction c.1 with| nil=>rfl| cons a r ih=>simp_all);rw[z] at q;have pos:=kC (hw x) m0;(have one:wk x*c.1.length<=(c.2.map λy=>if(! nc y&&c.1.all λh=>(ϡ||!(dr y).contains h||ff))=tj then wk y*c.1.length else 0).sum:=by(have nn:∀y∈c.2,(0:Int)<=(if(! nc y&&c.1.all λh=>(ϡ||!(dr y).contains h||ff))=tj then wk y*c.1.length else 0):=λy _=>by split;exact i6 (cE (hw y)) (cE m0);exact ϳ);(have bB:(if(! nc x&&c.1.all λh=>(ϡ||! 'T'.contains h||ff))=tj then wk x*c.1.length else 0)=wk x*c.1.length:=by simp[*]);(have bn:∀(l:Zw) (f:Nat->Int),(∀y∈l,0<=f y)->x∈l->f x<='~'.sum:=by intro l f hl hm;induction l with| nil=>simp_all| cons a r ih =>simp only[bA,cy];have ha:=hl a aI;have hr:∀y∈r,0<=f y:=λy hy=>hl y (aY _ hy);(have hs:0<=(r.map f).sum:=Xz λi v hv=>by obtain⟨y,hy,rfl⟩:=aO.mp (aG hv);exact hr y hy);rcases aT.mp hm with rfl | hm;exact NAG.gl74 hs;have:=ih hr hm;exact NAG.gl41 ha this);exact gq (lG bB.symm) (bn c.2 (λy=>if(! nc y&&c.1.all λh=>(ϡ||!(dr y).contains h||ff))=tj then wk y*c.1.length else 0) nn hx));exact NAG.gl70 pos one q);refine#[λi x y hx hy=>?_,λd hd=>?_,λd hd=>?_,λi d hd x hx h jZ=>?_,λh=>?_,λx=>?_,λd hd=>?_,λd hd=>?_];rw[pF] at hx hy;have old:=λi (x y) h1 h2=>K.ord i x y h1 h2;rcases lU (i+1) A.length with h | h | h;rw[P8 (by exact gD h)] at hx;rw[P8 (by assumption)] at hy;exact old i x y (by rwa [ie,P8 (by exact gD h)]) (by rwa [ie,P8 (by assumption)]);rw[P8 (by exact uh h)] at hx;rw[P7 Τ,P8 (by assumption)] at hy;cases hy;obtain⟨p,q,q0,l,u⟩:=old i x c (by rwa [ie,P8 (by exact uh h)]) (by rw[ie,P7 Τ,P8 (by assumption)]);exact#[p,q,q0,l,C.hi_near q0 (λx _=>cE (hw x)) u];rcases lU i A.length with h' | h' | h';lia;rw[P7 Τ,P8 h'] at hx;rw[P7 Τ,P7 (by exact eV h),P8 (by rw[h'])] at hy;cases hx;cases hy;exact#[Ub wk c,c.1.length,m0,C.lo_near,C.hi_rest];rw[P7 (by exact Nat.not_le.mpr h),P7 (by exact eV h')] at hx;rw[P7 (NAG.gl79 h'),P7 (by exact eV h),P7 (NAG.gl71 h')] at hy;by_cases h2:i=A.length+1;rw[P8 h2] at hx;cases hx;obtain⟨p,q,q0,l,u⟩:=old A.length c y (by rw[ie,P7 Τ,Cx]) (by rw[ie,P7 Τ,P7 Τ];rwa [show i+1-A.length-2=A.length+1-A.length-1 by lia] at hy);exact#[p,q,q0,C.lo_rest l,u];rw[P7 h2] at hx;refine old (i-1) x y ?_ ?_;rwa [ie,P7 (NAG.gl77 h'),P7 (NAG.gl78 h' h2),show i-1-A.length-1=i-A.length-2 from NAG.gl75];rwa [ie,P7 (by lia),P7 (by lia),show i-1+1-A.length-1=i+1-A.length-2 by lia];rcases mem d hd with rfl | rfl | h;intro z;have:hh∈(Su c nc nh).1:=bY.mpr #[hh1,hh2];rw[z] at this;simp_all;intro z;have:hf∈(aU c nc nh).1:=bY.mpr #[hf1,by rw[hf2];rfl];rw[z] at this;simp_all;exact K.ne d h;rcases mem d hd with rfl | rfl | h;intro x hx;obtain⟨h1,h2⟩:='7';obtain⟨h,h3,h4⟩:=K.own c hc x h1;exact#[h,bY.mpr #[h3,C.up x h1 h h3 h4 h2],h4];intro x hx;obtain⟨h1,h2⟩:='7';obtain⟨h,h3,h4,h5⟩:=oW x h1 (by simpa using h2);exact#[h,bY.mpr #[h3,by rw[h4];rfl],h5];exact K.own d h;(have place:∀j d mT,(A++c::B)[j]?=Ϡ->h∈d.1->(j<A.length->j<=mT)->(j=A.length->A.length+1<=mT\/(ϡ=tj/\A.length<=mT))->(A.length<j->j+1<=mT)->∃(j:Nat) (d:Cr),j<=mT/\(A++Su c nc nh::aU c nc nh::B)[j]?=Ϡ/\h∈d.1:=by intro j d mT hj jY b1 b2 b3;rw[ie] at hj;rcases lU j A.length with q | q | q;rw[P8 q] at hj;exact#[j,d,b1 q,by rwa [pF,P8 q],jY];rw[P7 Τ,P8 q] at hj;cases hj;by_cases a:ϡ=tj;refine#[A.length,Su c nc nh,?_,by rw[pF,P7 Τ,Cx],bY.mpr #[jY,a]];rcases b2 q with z | z;exact gD z;exact z.2;rcases b2 q with z | z;exact#[A.length+1,aU c nc nh,z,by rw[pF,P7 Τ,P7 Τ,Cx],bY.mpr #[jY,Τ]];exact absurd z.1 a;rw[P7 (NAG.gl72 q),P7 (by exact eV q)] at hj;exact#[j+1,d,b3 q,by rwa [pF,P7 (NAG.gl79 q),P7 (by lia),P7 (NAG.gl71 q),show j+1-A.length-2=j-A.length-1 by lia],jY]);rw[pF] at hd;rcases lU i A.length with q | q | q;rw[P8 q] at hd;obtain⟨j,e,h1,h2,h3⟩:=K.up i d (by rwa [ie,P8 q]) x hx h jZ;exact place j e i h2 h3 (λ_=>h1) (λz=>(NAG.gl76 q z h1).elim) (λz=>by lia);rw[P7 Τ,P8 q] at hd;cases hd;obtain⟨g1,g2⟩:='7';obtain⟨j,e,h1,h2,h3⟩:=K.up i c (by rw[ie,P7 Τ,P8 q]) x g1 h jZ;refine place j e i h2 h3 (λ_=>h1) (λz=>.inr #[?_,Τ]) (λz=>by lia);rw[ie,P7 Τ,ZL] at h2;cases h2;exact C.up x g1 h h3 jZ g2;rw[P7 (NAG.gl72 q),P7 (by exact eV q)] at hd;by_cases h2:i=A.length+1;rw[P8 h2] at hd;cases hd;obtain⟨g1,g2⟩:='7';obtain⟨j,e,h1,jN,h3⟩:=K.up A.length c (by rw[ie,P7 Τ,Cx]) x g1 h jZ;exact place j e i jN h3 (λ_=>by exact gD (kH h1 q)) (λz=>.inl (by assumption)) (λz=>by exact kH h1 q);rw[P7 h2] at hd;obtain⟨j,e,h1,jN,h3⟩:=K.up (i-1) d (by rwa [ie,P7 (NAG.gl77 q),P7 (NAG.gl78 q h2),show i-1-A.length-1=i-A.length-2 from NAG.gl75]) x hx h jZ;exact place j e i jN h3 (λ_=>by lia) (λz=>.inl (by assumption)) (λz=>by lia);have:=K.hs h;rw[<-this];simp only[cP,bA,kF,cy];have:=Br (p:=nh) (l:=c.1) h;have e1:(Su c nc nh).1=c.1.filter nh:=rfl;have e2:(aU c nc nh).1=c.1.filter λx=>! nh x:=rfl;rw[e1,e2];exact NAG.gl73 this;have:=K.cs x;rw[<-this];simp only[cP,bA,kF,cy];have:=Br (p:=nc) (l:=c.2) x;have e1:(Su c nc nh).2=c.2.filter nc:=rfl;have e2:(aU c nc nh).2=c.2.filter λx=>! nc x:=rfl;rw[e1,e2];exact NAG.gl73 this;rcases mem d hd with rfl | rfl | h;exact(K.hr c hc).filter _;exact(K.hr c hc).filter _;exact K.hr d h;rcases mem d hd with rfl | rfl | h;exact(K.cr c hc).filter _;exact(K.cr c hc).filter _;exact K.cr d h
theorem UX.fall (hw:∀x,0<wk x)(K:UX wk dr ae ad L)(hx:L[i]?=σ)(hy:L[i+1]?=Ϥ):Ub wk y*x.1.length<Ub wk x*y.1.length:=by obtain⟨p,q,q0,l,u⟩:=K.ord i x y hx hy;(have x0:(0:Int)<x.1.length:=by have:=eY.mpr (K.ne x Nw);simp_all);(have y0:(0:Int)<y.1.length:=by have:=eY.mpr (K.ne y (aG hy));simp_all);have a1:=oZ u.avg (cE x0);have a2:=mY (l.avg q0 (K.ne x Nw) (λz _=>cE (hw z))) y0;(have a3:q*(Ub wk y*x.1.length)<q*(Ub wk x*y.1.length):=by lia);simp_all
end NAP
namespace NAL.EX
open PySem PySem.Spec PyProof.Rows
section
end
theorem Bs:∀c k,((aM c).map (λi=>k+2+2*i)).filterMap ((x::y::r)[·]?)=((aM c).map (λi=>k+2*i)).filterMap (r[·]?):=by intro c k;rw[wg,wg];congr 1;grind
theorem w7:∀(xs:List α),((aM ((xs.length+1)/2)).map (λi=>0+2*i)).filterMap (xs[·]?)=NAP.Ux tj xs/\((aM (xs.length/2)).map (λi=>1+2*i)).filterMap (xs[·]?)=NAP.Ux ff xs| []=>#[by simp[NAP.Ux],by simp[NAP.Ux]]| [x]=>#[by simp[NAP.Ux],by simp[NAP.Ux]]| x::y::r=>by obtain⟨h1,h2⟩:=w7 r;(have e1:((x::y::r).length+1)/2=(r.length+1)/2+1:=by simp only[fS];lia);(have e2:(x::y::r).length/2=r.length/2+1:=by simp only[fS];exact NAG.gl52);constructor;rw[e1,qC,bA,cj,tQ];(have e:((λi=>0+2*i)∘iP)=λi=>0+2+2*i:=by funext i;simp only[Function.comp];lia);rw[e,Bs,h1];rfl;rw[e2,qC,bA,cj,tQ];(have e:((λi=>1+2*i)∘iP)=λi=>1+2+2*i:=by funext i;simp only[Function.comp];lia);rw[e,Bs,h2];rfl
section
end
section
end
def U1 (t:Bool)(h:QF)(i a:Qh)(k:Nat):Prop:=if t then h.IsTupleIter i a k else h.IsListIter i a k
def SeqAt (t:Bool)(h:QF)(a:Qh)(xs:TT):Prop:=if t then h.IsTuple a xs else h.IsList a xs
theorem U1.at (x:U1 t h i a k)(e:∀o,h.get? i=Υ->h'.get? i=Υ):U1 t h' i a k:=by cases t;exact Heap.IsListIter.at x e;exact Heap.IsTupleIter.at x e
theorem SeqAt.at (x:SeqAt t h a xs)(e:∀o,'8'=Υ->h'.get? a=Υ):SeqAt t h' a xs:=by cases t;obtain⟨o,ho,r⟩:=x;exact#[o,e _ ho,r];obtain⟨o,ho,r⟩:=x;exact#[o,e _ ho,r]
section
variable {prog:Qv}{w:Q0}{A:Qs}{E:Value->Qe->Prop}{s:Qe}
theorem zbH (c4:s.heap.IsTupleIter it t i)(ht:s.heap.IsTuple t items)(hx:items[i]?=σ) (hQ:∀h',h'.IsTupleIter it t (i+1)->[K9,it,h']->Q x { s with heap:=h'}):Qn [ϔ,w] A K3 Q E s:=by obtain⟨o,ho,hc,hd⟩:=id c4;obtain⟨p,hp,_,n,hdp⟩:=ht;refine Qd (Sk c4.typeIs F.slot_tuple_iterator_next (S7 F.slot_tuple_iterator_next c4.typeIs F.entry_tuple_iterator_next ?_ MB));refine Qd (m:=field ZI 0) (Ri ho hd rfl ?_);refine Qd (Ri ho hd rfl ?_);refine Qd (SP hp hdp ?_);simp only[tK,hx];exact Qd (wpAny_setField ho hd (by simp) (Qk #[x,rfl,Qk (hQ _ #[_,Heap.get?_update_self _ ho (Obj.isFreed_of_fields (Obj.data_mapFields hd _)),(Obj.cls_mapFields ..).trans hc,by rw[Obj.data_mapFields hd];simp[Vg]] (Heap.SameBut.update ..))]))
theorem zbc (hh:A.handled=ng)(c4:s.heap.IsTupleIter it t i)(ht:s.heap.IsTuple t items)(hx:items[i]?=ng) (hE:∀h' e,Heap.ExtBut it s.heap h'->(∃o,h'.get? e=Υ/\o.cls=.type "StopIteration")->E IJ { s with heap:=h'}):Qn [ϔ,w] A K3 Q E s:=by obtain⟨o,ho,hc,hd⟩:=id c4;obtain⟨p,hp,_,n,hdp⟩:=ht;refine Qd (Sk c4.typeIs F.slot_tuple_iterator_next (S7 F.slot_tuple_iterator_next c4.typeIs F.entry_tuple_iterator_next ?_ MB));refine Qd (m:=field ZI 0) (Ri ho hd rfl ?_);refine Qd (Ri ho hd rfl ?_);refine Qd (SP hp hdp ?_);simp only[tK,hx];refine[VC,Qd (wpAny_setField ho hd (by simp) ?_)];refine Qd ?_;refine Qd (Rr ?_ (by size_fits));refine Qd (wpAny_of_eq (by first |rfl|(simp only[firstArgMember])) ?_);refine Rr ?_ (by size_fits);refine Qd (wpAny_handled ?_);(first |rw[show A.in1.handled=ng from hh]|rw[hh]);exact Qd (Qk (wpAny_throw (hE _ _ (((Heap.SameBut.update ..).extBut.push _).push _) #[_,Heap.get?_push_size _ rfl,rfl])))
theorem Bt (c4:U1 t s.heap i a k)(hs:[Ϲ,t,a,xs])(hx:xs[k]?=σ) (hQ:∀h',U1 t h' i a (k+1)->[K9,i,h']->Q x { s with heap:=h'}):Qn [ϔ,w] A [IC,i] Q E s:=by cases t;exact wpAny_nextOf_list_item c4 hs hx hQ;exact zbH c4 hs hx hQ
theorem Bu (hh:A.handled=ng)(c4:U1 t s.heap i a k)(hs:[Ϲ,t,a,xs])(hx:xs[k]?=ng) (hE:∀h' e,Heap.ExtBut i s.heap h'->(∃o,h'.get? e=Υ/\o.cls=.type "StopIteration")->E IJ { s with heap:=h'}):Qn [ϔ,w] A [IC,i] Q E s:=by cases t;exact wpAny_nextOf_list_end hh c4 hs hx hE;exact zbc hh c4 hs hx hE
end
abbrev jf (h:QF)(T:Qh)(vs:ϖ):Prop:=h.get? T=se { cls:=.type "tuple",data:=MW}
noncomputable abbrev YA (b:Nat) (m:Nat):ϖ:=(jw 0 m).map λj=>Value.ref (b+j)
abbrev qS (h:QF)(e:Qh):Prop:=∃o,h.get? e=Υ/\o.cls=.type "StopIteration"
def Kp (b:Nat)(m:Nat)(c:Nat):Prop:=c<b\/c=b+m\/b+m+2<c
def Kept (b:Nat)(m:Nat)(h h':QF):Prop:=∀(c:Nat) o,Kp b m c->G8=Υ->ZP=Υ
abbrev kK (h:QF)(z I O:Qh)(f0:Value)(f1:Bool):Prop:=h.get? z=se { cls:=.type "zip",dict:=ng,data:=.fields ([f0,.bool f1,.bool ff,.ref I,.ref O].toArray),slots:=([].toArray)}
structure Yu (b:Nat)(aF:List (Bool×Qh))(k:Nat)(h:QF):Prop where
 zip:∃f0 f1,(f0=.none\/∃t:Nat,f0=Vg t)/\kK h (b+aF.length+2) (b+aF.length) (b+aF.length+1) f0 f1
 cD:jf h (b+aF.length) (YA b aF.length)
 own:∃old,old.length=aF.length/\jf h (b+aF.length+1) old
 it:∀(j:Nat) p,aF[j]?=ο->U1 p.1 h (b+j) p.2 k
section
variable {prog:Qv}{w:Q0}{A:Qs}{E:Value->Qe->Prop}
theorem Ii (hT:jf s.heap T old)(hz:old.length<=sizeLine)(h:∀h',jf h' T (old.set j x)->[K9,T,h']->Q () { s with heap:=h'}) :Qn [ϔ,w] A (updateSeq T (·.setIfInBounds j x)) Q E s:=by refine wpAny_updateSeq hT rfl (h _ ?_ (Heap.SameBut.update ..)) (by assumption) (by simp;exact nO hz);show Heap.get? _ _=_;rw[Heap.get?_update_self _ hT rfl];simp[Obj.mapSeq]
abbrev zdA {β:Type}(prog:Qv)(w:Q0)(A:Qs)(f:Value×Nat->β->Sem (ForInStep β))(b0:β)(E:Value->Qe->Prop)(b:Nat)(aF:List (Bool×Qh))(xss:Nat->TT)(k:Nat)(f1:Bool):Prop :=∀(j:Nat) (p:Bool×Qh) (s:Qe) (old:List Value) (Qf:ForInStep β->Qe->Prop),aF[j]?=ο->U1 p.1 s.heap (b+j) p.2 k->[Ϲ,p.1,p.2,xss j]->old.length=aF.length->jf s.heap (b+aF.length+1) old->kK s.heap (b+aF.length+2) (b+aF.length) (b+aF.length+1) .ellipsis f1->(∀x h',(xss j)[k]?=σ->U1 p.1 h' (b+j) p.2 (k+1)->jf h' (b+aF.length+1) (old.set j x)->(∀(c:Nat) o,c≠b+aF.length+1->c≠b+j->ZZ=Υ->ZP=Υ)->h'.objs.size=s.heap.objs.size->Qf (.yield b0) { s with heap:=h'})->((xss j)[k]?=ng->∀h' e,[N0,b,s.heap,h']->qS h' e->E IJ { s with heap:=h'})->Qn [ϔ,w] A (f (.ref (b+j),j) b0) Qf E s
theorem za7 {b:Nat}{aF:List (Bool×Qh)}(aB:∀p∈aF,p.2<b)(hb:zdA prog w A f b0 E b aF xss k f1) :∀r j,j+r=aF.length->∀done rest s Q,done.length=j->rest.length=r->jf s.heap (b+aF.length+1) (done++rest)->kK s.heap (b+aF.length+2) (b+aF.length) (b+aF.length+1) .ellipsis f1->(∀(i:Nat) p,aF[i]?=ο->U1 p.1 s.heap (b+i) p.2 (if i<j then k+1 else k))->(∀i p,aF[i]?=ο->[Ϲ,p.1,p.2,O9])->(∀h' au,au.length=r->(∀i:Nat,i<r->(xss (j+i))[k]?=au[i]?)->jf h' (b+aF.length+1) (done++au)->kK h' (b+aF.length+2) (b+aF.length) (b+aF.length+1) .ellipsis f1->(∀(i:Nat) p,aF[i]?=ο->U1 p.1 h' (b+i) p.2 (k+1))->[N0,b,s.heap,h']->h'.objs.size=s.heap.objs.size->Q b0 { s with heap:=h'})->((∃i:Nat,i<aF.length/\O9[k]?=ng)->∀h' e,[N0,b,s.heap,h']->qS h' e->E IJ { s with heap:=h'})->Qn [ϔ,w] A (forIn ((jw j r).map λi=>(Value.ref (b+i),i)) b0 f) Q E s:=by intro r;induction r with| zero =>intro j hj done rest s Q hd hr hT hz hi hs hQ hE;show Qn _ _ (forIn [] b0 f) _ _ _;rw[Au];have er:rest = []:=nj.mp hr;subst er;refine Qk (hQ s.heap [] rfl (λi hi=>absurd hi (kI _)) hT hz (λi p hp=>?_) (λc o _ e=>e) rfl);have:=(aH.mp hp).1;have z:=hi i p hp;rwa [P8 (show i<j by simp_all)] at z| succ r ih =>intro j hj done rest s Q hd hr hT hz hi hs hQ hE;cases rest with| nil=>cases hr| cons o rest =>(have jS:j<aF.length:=by lia);(have hp:aF[j]?=se aF[j]:=by simp[jS]);have qn:=aB _ (kh jS);have h1:=hi j _ hp;rw[P7 (nQ _)] at h1;rw[wu,bA,An];refine Qd (hb j aF[j] s (done++o::rest) _ hp h1 (hs j _ hp) (by simp only[eU,fS] at hr ⊢;simp[*]) hT hz (λx h' hx i1 t1 kk sz=>?_) (λhx h' e kk st=>hE #[j,jS,hx] h' e kk st));(have eset:(done++o::rest).set j x=(done ++ [x])++rest:=by subst hd;simp);rw[eset] at t1;refine ih (j+1) (by lia) (done ++ [x]) rest { s with heap:=h' } Q (by simp[hd]) (by simpa using hr) t1 (kk _ _ (by simp_all) (by lia) hz) (λi p dG=>?_) (λi p dG=>?_) (λh2 au vl vx t2 z2 i2 k2 s2=>?_) (λhex h2 e k2 st=>hE hex h2 e (λc o hc g=>k2 c o hc (kk c o (by unfold Kp at hc;lia) (by unfold Kp at hc;lia) g)) st);have k9:=(aH.mp dG).1;by_cases e:i=j;subst e;rw[P8 (show i<i+1 by simp_all)];rw[hp] at dG;cases dG;exact i1;have z:=(hi i p dG).at λo g=>kk _ _ (by lia) (by simp_all) g;by_cases e2:i<j;rw[P8 e2] at z;rwa [P8 (show i<j+1 by exact e9 e2)];rw[P7 e2] at z;rwa [P7 (show ¬i<j+1 by lia)];have k9:=(aH.mp dG).1;have:=aB p (aG dG);exact(hs i p dG).at λo g=>kk _ _ (cI (gz this (by lia))) (cI (gz this (by simp_all))) g;refine hQ h2 (x::au) (by simp[vl]) (λi iz=>?_) (by simpa using t2) z2 i2 (λc o hc g=>k2 c o hc (kk c o (by unfold Kp at hc;lia) (by unfold Kp at hc;lia) g)) (by rwa [s2]);cases i with| zero=>simpa using hx| succ i =>have:=vx i (by simp_all);rw[show j+(i+1)=j+1+i by lia];simpa using this
end
theorem zbl (b m:Nat):(YA b m).toArray.toList.zipIdx=(jw 0 m).map λi=>(Value.ref (b+i),i):=by apply i8;intro i;by_cases h:i<m;simp[h];simp[h]
section
variable {prog:Qv}{w:Q0}{A:Qs}{E:Value->Qe->Prop}{s:Qe}
theorem zdf (hf:f0=.none\/∃t:Nat,f0=Vg t)(hz:kK s.heap z I O f0 f1) :
  Qn [ϔ,w] A (Builtin.SmallTypes.ownedTupleIsFree (.ref z)) (λr s'=>(r=tj/\s'=s)\/(r=ff/\∃h1 g1,kK h1 z I O f0 g1/\[K9,z,h1]/\s'={ s with heap:=h1})) E s:=by
 refine Qd (Ri hz rfl rfl ?_);rcases hf with rfl | ⟨t,rfl⟩
 .exact Qk (.inl #[rfl,rfl])
 .refine Qd ?_;have bn:∀o,Qn [ϔ,w] A (if (o:Option RB).isNone=tj then Pure.pure tj else do
    let __do_lift <-field (.ref z) 1
    if (__do_lift != Value.bool tj)=tj then do
     setField (.ref z) 1 (.bool tj)
     Pure.pure ff
    else Pure.pure ff) (λr s'=>(r=tj/\s'=s)\/(r=ff/\∃h1 g1,kK h1 z I O (Vg t) g1/\[K9,z,h1]/\s'={ s with heap:=h1})) E s:=λo=>by
   split
   .exact Qk (.inl #[rfl,rfl])
   .refine Qd (Ri hz rfl rfl ?_)
    split
    .exact Qd (RF hz (by simp) λh1 z1 s1=>Qk (.inr #[rfl,h1,tj,z1,s1,rfl]))
    .exact Qk (.inr #[rfl,s.heap,f1,hz,Heap.SameBut.refl ..,rfl])
  exactλ_ _ _=>bn (s.heap.get? _)
noncomputable abbrev TK (vs:ϖ):RB:={ cls:=.type "tuple",data:=MW}
abbrev ZB:=Option Fin× TT
theorem zcN {f:Value->ZB->Sem (ForInStep ZB)}{b:Nat}{aF:List (Bool×Qh)}{xss:Nat->TT}(aB:∀p∈aF,p.2<b) (hb:∀(j:Nat) p s items Qf,aF[j]?=ο->U1 p.1 s.heap (b+j) p.2 k->[Ϲ,p.1,p.2,xss j]->(∀x h',(xss j)[k]?=σ->U1 p.1 h' (b+j) p.2 (k+1)->[K9,b+j,h']->Qf (.yield (ng,items.push x)) { s with heap:=h'})->((xss j)[k]?=ng->∀h' e,Heap.ExtBut (b+j) s.heap h'->qS h' e->E IJ { s with heap:=h'})->Qn [ϔ,w] A (f (.ref (b+j)) (ng,items)) Qf E s) :∀r j,j+r=aF.length->∀items s Q,(∀(i:Nat) p,aF[i]?=ο->U1 p.1 s.heap (b+i) p.2 (if i<j then k+1 else k))->(∀i p,aF[i]?=ο->[Ϲ,p.1,p.2,O9])->(∀h' (au:List Value),au.length=r->(∀i:Nat,i<r->(xss (j+i))[k]?=au[i]?)->(∀(i:Nat) p,aF[i]?=ο->U1 p.1 h' (b+i) p.2 (k+1))->(∀c o,c<b\/b+aF.length<=c->ZZ=Υ->ZP=Υ)->h'.objs.size=s.heap.objs.size->Q (ng,items++au.toArray) { s with heap:=h'})->((∃i:Nat,i<aF.length/\O9[k]?=ng)->∀h' e,(∀c o,c<b\/b+aF.length<=c->ZZ=Υ->ZP=Υ)->qS h' e->E IJ { s with heap:=h'})->Qn [ϔ,w] A (forIn ((jw j r).map λi=>Value.ref (b+i)) ((ng,items)) f) Q E s:=by intro r;induction r with| zero =>intro j hj items s Q hi hs hQ hE;show Qn _ _ (forIn [] _ f) _ _ _;rw[Au];have:=hQ s.heap [] rfl (λi hi=>absurd hi (kI _)) (λi p hp=>by have z:=hi i p hp;rwa [P8 (show i<j by have:=(aH.mp hp).1;simp_all)] at z) (λc o _ e=>e) rfl;exact Qk (by simpa using this)| succ r ih =>intro j hj items s Q hi hs hQ hE;(have jS:j<aF.length:=by lia);(have hp:aF[j]?=se aF[j]:=by simp[jS]);have qn:=aB _ (kh jS);have h1:=hi j _ hp;rw[P7 (nQ _)] at h1;rw[wu,bA,An];refine Qd (hb j _ s items _ hp h1 (hs j _ hp) (λx h' hx i1 sb=>?_) λhx h' e kk st=>hE #[j,jS,hx] h' e (λc o hc g=>kk _ _ (by lia) g) st);have k1:∀c o,c≠b+j->s.heap.get? c=se o->h'.get? c=se o:=λc o hc g=>sb.extBut _ _ hc g;refine ih (j+1) (by lia) (items.push x) { s with heap:=h' } Q (λi p dG=>?_) (λi p dG=>(hs i p dG).at λo g=>k1 _ _ (by have:=aB p (aG dG);exact cI (by lia)) g) (λh2 au vl vx i2 k2 s2=>?_) λhex h2 e k2 st=>hE hex h2 e (λc o hc g=>k2 c o hc (k1 _ _ (by lia) g)) st;by_cases e:i=j;subst e;rw[P8 (by simp[*])];rw[hp] at dG;cases dG;exact i1;have z:=(hi i p dG).at λo g=>k1 _ _ (by simp[*]) g;by_cases e2:i<j;rw[P8 e2] at z;rwa [P8 (by exact e9 e2)];rw[P7 e2] at z;rwa [P7 (by lia)];have:=hQ h2 (x::au) (by simp[vl]) (λi iz=>?_) i2 (λc o hc g=>k2 c o hc (k1 _ _ (by lia) g)) (by rw[s2];exact sb.1);simpa using this;cases i with| zero=>simpa using hx| succ i =>have:=vx i (by exact ud iz);rw[show j+(i+1)=j+1+i by lia];simpa using this
theorem Ip {b:Nat}{aF:List (Bool×Qh)}{xss:Nat->TT}{Q:Value->Qe->Prop}(hh:A.handled=ng)(c7:aF.length≠0)(hm:aF.length<=100)(aB:∀p∈aF,p.2<b)(st:Yu b aF k s.heap) (hs:∀i p,aF[i]?=ο->[Ϲ,p.1,p.2,O9]) (hQ:∀h' au,au.length=aF.length->(∀i:Nat,i<aF.length->O9[k]?=au[i]?)->Yu b aF (k+1) h'->jf h' s.heap.objs.size au->h'.objs.size=s.heap.objs.size+1->[N0,b,s.heap,h']->Q PM { s with heap:=h'}) (hE:(∃i:Nat,i<aF.length/\O9[k]?=ng)->∀h' e,[N0,b,s.heap,h']->qS h' e->E IJ { s with heap:=h'}) :Qn [ϔ,w] A (Builtin.«zip.__next__» #[[.ref (b+aF.length+2)],[]]) (λfin s'=>∃v,fin=.done (.ret v)/\Q v s') E s:=by obtain⟨⟨f0,f1,hf,hz⟩,hTI,⟨old,hol,hTO⟩,c4⟩:=st;refine Qd (m:=field (.ref (b+aF.length+2)) 2) (Ri hz rfl rfl ?_);refine Qd (Ri hz rfl rfl ?_);refine Qd (SP hTI rfl ?_);show Qn _ _ (if(YA b aF.length).toArray.isEmpty=tj then _ else _) _ _ _;rw[P7 (by simp only[List.isEmpty_toArray,List.isEmpty_iff,YA,List.map_eq_nil_iff,List.range'_eq_nil_iff];exact c7)];refine Qd (Se (zdf hf hz) (λr s' hr=>?_) λ_ _ e=>e);rcases hr with ⟨rfl,e⟩ | ⟨rfl,h1,g1,oM,eW,rfl⟩;obtain rfl:=e.symm;simp only[if_true];refine[VC,?_];refine Qd (Ri hz rfl rfl ?_);refine Qd (RF hz (by simp) λh1 oM eW=>?_);replace oM:=oM;refine Qd ?_;rw[zbl];have k1:∀c o,c≠b+aF.length+2->ZZ=Υ->h1.get? c=Υ:=λc o hc e=>eW.extBut _ _ hc e;have kp1:[N0,b,s.heap,h1]:=λc o hc e=>k1 c o (by unfold Kp at hc;lia) e;refine za7 aB ?_ aF.length 0 Τ [] old { s with heap:=h1} _ rfl hol (k1 _ _ Τ hTO) oM (λi p dG=>?_) (λi p dG=>?_) (λh2 au vl vx t2 z2 i2 k2 s2=>?_) (λhex h2 e k2 kX=>hE hex h2 e (λc o hc g=>k2 c o hc (kp1 c o hc g)) kX);intro j p s old Qf hp hi hq hl hT hzz iz he';have jS:='c'.1;refine Qd (wpAny_onRaise ?_);refine Qd ?_;(cases hx:(xss j)[k]? with| none =>refine Bu hh hi hq hx λh2 e k2 kX=>?_;obtain⟨oe,hoe,hce⟩:=kX;have hz2:=k2 _ _ (show b+aF.length+2≠b+j by lia) hzz;exact RF hz2 (by simp) λh3 _ s3=>he' hx h3 e (λc o hc g=>s3.extBut _ _ (show c≠b+aF.length+2 by unfold Kp at hc;lia) (k2 _ _ (show c≠b+j by unfold Kp at hc;lia) g)) #[oe,s3.extBut _ _ (λx=>by subst x;rw[hz2] at hoe;cases hoe;simp at hce) hoe,hce]| some x =>refine Bt hi hq hx λh2 i2 s2=>Qk ?_;have hT2:=s2.extBut _ _ (show b+aF.length+1≠b+j by lia) hT;refine Qd (SP hT2 rfl ?_);refine Qd (Ii hT2 (b9 Τ (show 100<=sizeLine by decide)) λh3 hT3 s3=>?_);refine Qd (wpAny_letGo (Qk ?_));refine iz x h3 hx (i2.at λo g=>s3.extBut _ _ (show b+j≠b+aF.length+1 by lia) g) hT3 (λc o c1 c2 g=>s3.extBut _ _ c1 (s2.extBut _ _ c2 g)) (by rw[s3.1,s2.1]));rw[P7 (kI i)];have k9:=(aH.mp dG).1;exact(c4 i p dG).at λo g=>k1 _ _ (by lia) g;have:=aB p (aG dG);exact(hs i p dG).at λo g=>k1 _ _ (cI (gz this (by lia))) g;have t2':=t2;refine Qd (SP t2' rfl ?_);refine Qd (wpAny_newTuple ?_ (b9 (show au.toArray.toList.length<=100 by rw[Ae];simp_all) (show 100<=sizeLine by decide)));(have i0:h2.objs.size=s.heap.objs.size:=by rw[s2];exact eW.1);refine Qd ?_;unfold Builtin.SmallTypes.ownedTupleHandOut;have lt:=Heap.lt_size z2;refine Qd (RF (Heap.get?_push_of_some _ z2) (by simp) λh4 z4 s4=>?_);replace z4:=z4;refine RF z4 (by simp) λh5 z5 s5=>?_;replace z5:=z5;have up:∀c o,c≠b+aF.length+2->h2.get? c=Υ->h5.get? c=Υ:=λc o c1 g=>s5.extBut _ _ c1 (s4.extBut _ _ c1 (Heap.get?_push_of_some _ g));have tN:=s5.extBut _ _ (show h2.objs.size≠b+aF.length+2 by exact eV lt) (s4.extBut _ _ (show h2.objs.size≠b+aF.length+2 by exact eV lt) (Heap.get?_push_size _ rfl));(have sz5:h5.objs.size=h2.objs.size+1:=by rw[s5.1,s4.1,Heap.size_push]);rw[i0] at z5 tN sz5;refine Qk #[_,rfl,?_];show Q (.ref h2.objs.size) _;rw[i0];refine hQ h5 au vl (λi hi=>by have:=vx i hi;rwa [qJ] at this) #[#[_,_,.inr #[_,rfl],z5],up _ _ Τ (k2 _ _ (.inr gV) (k1 _ _ Τ hTI)),#[au,vl,up _ _ Τ t2'],λj p hp=>(i2 j p hp).at λo g=>up _ _ ?_ g] tN sz5 (λc o hc g=>up c o (by unfold Kp at hc;lia) (k2 c o hc (kp1 c o hc g)));have k9:='c'.1;lia;simp only[vL,if_false];refine Qd ?_;rw[<-Array.forIn_toList,show(YA b aF.length).toArray.toList=(jw 0 aF.length).map λi=>Value.ref (b+i)from rfl];have k1:∀c o,c≠b+aF.length+2->ZZ=Υ->h1.get? c=Υ:=λc o hc e=>eW.extBut _ _ hc e;refine zcN aB (λj p s items Qf hp hi hq hQ hE=>?_) aF.length 0 Τ ([].toArray) { s with heap:=h1} _ (λi p dG=>?_) (λi p dG=>?_) (λh2 au vl vx i2 k2 s2=>?_) λhex h2 e k2 kX=>hE hex h2 e (λc o hc g=>k2 c o (by unfold Kp at hc;lia) (k1 c o (by unfold Kp at hc;lia) g)) kX;refine Qd (Sf (Qd ?_));(cases hx:(xss j)[k]? with| none=>exact Bu hh hi hq hx λh2 e k2 kX=>hE hx h2 e k2 kX| some x=>exact Bt hi hq hx λh2 i2 s2=>Qk (Qk (hQ x h2 hx i2 s2)));rw[P7 (kI i)];have:=(aH.mp dG).1;exact(c4 i p dG).at λo g=>k1 _ _ (by lia) g;have:=aB p (aG dG);exact(hs i p dG).at λo g=>k1 _ _ (cI (by lia)) g;rw[show([].toArray)++au.toArray=au.toArray by simp];refine Qd (wpAny_newTuple ?_ (b9 (show au.toArray.toList.length<=100 by rw[Ae];simp_all) (show 100<=sizeLine by decide)));have i0:=s2.trans eW.1;have up:∀c o,h2.get? c=Υ->(h2.push (TK au)).get? c=Υ:=λc o g=>Heap.get?_push_of_some _ g;have tN:jf (h2.push (TK au)) h2.objs.size au:=Heap.get?_push_size _ rfl;refine Qk #[_,rfl,?_];show Q (.ref h2.objs.size) { s with heap:=h2.push (TK au)};rw[i0] at tN ⊢;exact hQ _ au vl (λi hi=>by have:=vx i hi;rwa [qJ] at this) #[#[f0,g1,hf,up _ _ (k2 _ _ Τ oM)],up _ _ (k2 _ _ Τ (k1 _ _ Τ hTI)),#[old,hol,up _ _ (k2 _ _ Τ (k1 _ _ Τ hTO))],λj p hp=>(i2 j p hp).at λo g=>up _ _ g] tN (by rw[Heap.size_push,i0]) λc o hc g=>up _ _ (k2 _ _ (by unfold Kp at hc;lia) (k1 _ _ (by unfold Kp at hc;lia) g))
theorem Bv {b:Nat}{aF:List (Bool×Qh)}{xss:Nat->TT}(hh:A.handled=ng)(c7:aF.length≠0)(hm:aF.length<=100)(aB:∀p∈aF,p.2<b)(st:Yu b aF k s.heap) (hs:∀i p,aF[i]?=ο->[Ϲ,p.1,p.2,O9]) (hQ:∀h' au,au.length=aF.length->(∀i:Nat,i<aF.length->O9[k]?=au[i]?)->Yu b aF (k+1) h'->jf h' s.heap.objs.size au->h'.objs.size=s.heap.objs.size+1->[N0,b,s.heap,h']->Q (se PM) { s with heap:=h'}) (hE:(∃i:Nat,i<aF.length/\O9[k]?=ng)->∀h',[N0,b,s.heap,h']->Q ng { s with heap:=h'}) :Qn [ϔ,w] A (pyNext (.ref (b+aF.length+2))) Q E s:=by obtain⟨_,_,_,hz⟩:=st.zip;have hT:s.TypeIs (.ref (b+aF.length+2)) "zip":=#[_,hz,rfl];refine Qd (wpAny_attempt (Sk hT F.slot_zip_next (S7 F.slot_zip_next hT F.entry_zip_next (Ip hh c7 hm aB st hs (λh' au a1 a2 a3 a4 a5 a6=>Qk (hQ h' au a1 a2 a3 a4 a5 a6)) λhex h' e kk kX=>?_) (F.args_zip_next_1 _))));obtain⟨o,ho,hc⟩:=kX;exact Qd (wpAny_isInstance #[o,ho,hc] isSubtype_stop (Qk (hE hex h' kk)))
end
noncomputable abbrev RN (t:Bool) (a:Qh):RB:={ cls:=.type (if t then "tuple_iterator"else "list_iterator"),data:=.fields ([ύ,.int 0 0].toArray)}
noncomputable abbrev Yi (I O:Qh):RB:={ cls:=.type "zip",data:=.fields ([.none,.bool ff,.bool ff,.ref I,.ref O].toArray)}
section
variable {prog:Qv}{w:Q0}{A:Qs}{E:Value->Qe->Prop}{s:Qe}
theorem qT (h:[Ϲ,t,a,xs])(hQ:Q PM { s with heap:=s.heap.push (RN t a)}):Qn [ϔ,w] A (pyIter ύ) Q E s:=by cases t;exact Rd h hQ;exact wpAny_pyIter_tuple h hQ
end
theorem SeqAt.push (x:SeqAt t h a xs)(o:RB):SeqAt t (h.push o) a xs:=x.at λ_ g=>Heap.get?_push_of_some _ g
noncomputable abbrev z2H (h:QF) (p q:Bool×Qh):QF:=(((([N5,p.1,p.2].push (RN q.1 q.2)).push (TK [PY,.ref [N5,p.1,p.2].objs.size])).push (TK [.none,.none])).push (Yi ([N5,p.1,p.2].push (RN q.1 q.2)).objs.size (([N5,p.1,p.2].push (RN q.1 q.2)).push (TK [PY,.ref [N5,p.1,p.2].objs.size])).objs.size))
noncomputable abbrev z2A (h:QF) (p q:Bool×Qh):Qh:=((([N5,p.1,p.2].push (RN q.1 q.2)).push (TK [PY,.ref [N5,p.1,p.2].objs.size])).push (TK [.none,.none])).objs.size
theorem Iq (p q:Bool×Qh)(xs ys:TT) :Meets (Builtin.«zip.__new__» #[[.type "zip",.ref p.2,.ref q.2],[]]) (λ_ R s=>[Ϲ,p.1,p.2,xs]/\[Ϲ,q.1,q.2,ys]/\R (.ok (.ret (.ref (z2A s.heap p q)))) { s with heap:=z2H s.heap p q}) :=.of_wp λprog w A R s h=>by obtain⟨hp,g,d,tk,os⟩:=s;obtain⟨h1,h2,h⟩:=h;have jR:=sub_zip;have hL1:=h1;have hL2:SeqAt q.1 (Shared.heap #[hp.push (RN p.1 p.2),g,d,tk,os]) q.2 ys:=SeqAt.push h2 _;wp_walk using qT hL1,qT hL2;exact#[_,rfl,h]
noncomputable abbrev z3B (h:QF) (p q r:Bool×Qh):QF:=([N5,p.1,p.2].push (RN q.1 q.2)).push (RN r.1 r.2)
noncomputable abbrev z3C (h:QF) (p q r:Bool×Qh):QF:=(z3B h p q r).push (TK [PY,.ref [N5,p.1,p.2].objs.size,.ref ([N5,p.1,p.2].push (RN q.1 q.2)).objs.size])
noncomputable abbrev z3D (h:QF) (p q r:Bool×Qh):QF:=(z3C h p q r).push (TK [.none,.none,.none])
noncomputable abbrev z3H (h:QF) (p q r:Bool×Qh):QF:=(z3D h p q r).push (Yi (z3B h p q r).objs.size (z3C h p q r).objs.size)
set_option maxHeartbeats 2000000 in
theorem Ir (p q r:Bool×Qh)(xs ys zs:TT) :
  Meets (Builtin.«zip.__new__» #[[.type "zip",.ref p.2,.ref q.2,.ref r.2],[]]) (λ_ R s=>[Ϲ,p.1,p.2,xs]/\[Ϲ,q.1,q.2,ys]/\[Ϲ,r.1,r.2,zs]/\R (.ok (.ret (.ref (z3D s.heap p q r).objs.size))) { s with heap:=z3H s.heap p q r}) :=
 .of_wp λprog w A R s h=>by
  obtain⟨hp,g,d,tk,os⟩:=s;obtain⟨h1,h2,h3,h⟩:=h;have jR:=sub_zip;have hL1:SeqAt p.1 (Shared.heap #[hp,g,d,tk,os]) p.2 xs:=h1
  have hL2:SeqAt q.1 (Shared.heap #[hp.push (RN p.1 p.2),g,d,tk,os]) q.2 ys:=SeqAt.push h2 _;have hL3:SeqAt r.1 (Shared.heap #[(hp.push (RN p.1 p.2)).push (RN q.1 q.2),g,d,tk,os]) r.2 zs:=SeqAt.push (SeqAt.push h3 _) _
  wp_walk using qT hL1,qT hL2,qT hL3
  exact#[_,rfl,h]
theorem zby (a b c:Value):checkTypeCall "zip" #[[a,b,c],[]]=pure ():=by kernel_rfl
theorem zdI (a b c:Value):checkBuiltinCall "zip.__new__" #[[.type "zip",a,b,c],[]]=pure ():=by kernel_rfl
theorem zeq (a b c d:Value):argsOk "object.__init__" #[[a,b,c,d],[]]:=by kernel_rfl
section
end
theorem za8 (x:U1 t h i a k):∃o,h.get? i=Υ/\∀v,o.data≠.cell v:=by cases t;obtain⟨o,e,c,d⟩:=x;simp_all;obtain⟨o,e,c,d⟩:=x;simp_all
theorem Yu.obj (st:Yu b aF k h)(c:Nat)(h1:b<=c)(h2:c<b+aF.length+3):∃o,G8=Υ/\∀v,o.data≠.cell v:=by by_cases e:c<b+aF.length;have:=za8 (st.it (c-b) aF[c-b] (by simp[by lia]));simp_all;rcases(by lia:c=b+aF.length\/c=b+aF.length+1\/c=b+aF.length+2)with rfl | rfl | rfl;exact#[_,st.cD,λv z=>by cases z];obtain⟨old,_,ho⟩:=st.own;simp_all;obtain⟨_,_,_,hz⟩:=st.zip;exact#[_,hz,λv z=>by cases z]
theorem Yu.keep (st:Yu b aF k h)(kk:∀c,b<=c->c<b+aF.length+3->∀o,G8=Υ->ZP=Υ):Yu b aF k h':=by obtain⟨old,ol,ho⟩:=st.own;obtain⟨f0,f1,hf,hz⟩:=st.zip;refine#[#[f0,f1,hf,kk _ (by lia) Τ _ hz],kk _ Τ Τ _ st.cD,#[old,ol,kk _ (by lia) Τ _ ho],λj p hp=>(st.it j p hp).at λo g=>kk _ Τ ?_ _ g];grind
theorem VL:c∈List.range' b (m+3)↔b<=c/\c<b+m+3:=by grind
section
variable {prog:Qv}{w:Q0}{A:Qs}{E:Value->Qe->Prop}{s:Qe}
theorem letGo (hf:f0=.none\/∃t:Nat,f0=Vg t)(hz:kK s.heap z I O f0 f1)(hQ:∀h' f,(f=.none\/∃t:Nat,f=Vg t)->kK h' z I O f f1->[K9,z,h']->Q () { s with heap:=h'}):Qn [ϔ,w] A (RY tg (.ref z) (.ref T)) Q E s:=by have no:Qn [ϔ,w] A (pure ()) Q E s:=Qk (hQ s.heap f0 hf hz (Heap.SameBut.refl ..));(have bn:Qn [ϔ,w] A (RY (.Tuple [] 0 #[0,0,0,0]) (.ref z) (.ref T)) Q E s:=by refine Qd (wpAny_load hz ?_);show Qn _ _ (if(_&&_)=tj then _ else _) Q E s;split;exact[VC,RF hz (by simp) λh' hz' oI=>hQ h' .none gV hz' oI];exact no);cases tg<;>first |exact bn|exact no
theorem uv (st:Yu b aF k s.heap)(h:Q (.ref (b+aF.length+2)) s):Qn [ϔ,w] A (pyIter (.ref (b+aF.length+2))) Q E s:=by obtain⟨f0,f1,hf,hz⟩:=st.zip;have hT:s.TypeIs (.ref (b+aF.length+2)) "zip":=#[_,hz,rfl];exact wpAny_pyIter_slot hT F.slot_zip_iter (S7 F.slot_zip_iter hT F.entry_zip_iter (Qk #[_,rfl,"zip",_,hT,F.slot_zip_next.lookup,h]) (F.args_zip_iter_1 _))
end
theorem pG (g:h.get? i=se (RN t a)):U1 t h i a 0:=by cases t;exact#[_,g,rfl,rfl];exact#[_,g,rfl,rfl]
section
variable {prog:Qv}{w:Q0}{A:Qs}{E:Value->Qe->Prop}{s:Qe}
theorem Bw (l:List RB)(h:QF):(l.foldl Heap.push h).objs.size=h.objs.size+l.length/\(∀c o,G8=Υ->(l.foldl Heap.push h).get? c=Υ)/\∀(j:Nat) o,l[j]?=Υ->o.isFreed=ff->(l.foldl Heap.push h).get? (h.objs.size+j)=Υ:=by induction l generalizing h with| nil=>exact#[rfl,λ_ _ e=>e,λj o e=>by simp at e]| cons x l ih =>obtain⟨a,b,c⟩:=ih (h.push x);rw[Heap.size_push] at a c;refine#[by rw[pj,a,fS];lia,λc o e=>b c o (Heap.get?_push_of_some _ e),λj o e f=>?_];cases j with| zero=>cases e;exact b _ _ (Heap.get?_push_size _ f)| succ j =>rw[show h.objs.size+(j+1)=h.objs.size+1+j by lia];exact c j o e f
theorem By (h1:[Ϲ,p.1,p.2,xs])(h2:[Ϲ,q.1,q.2,ys]) (h:∀h',Yu s.heap.objs.size [p,q] 0 h'->(∀c o,ZZ=Υ->ZP=Υ)->Q (.ref (s.heap.objs.size+4)) { s with heap:=h'}):Qn [ϔ,w] A (call (.type "zip") [.ref p.2,.ref q.2]) Q E s:=by refine callType_new F.called_zip (by decide) (F.typeCall_zip_2 _ _) (F.newCall_zip_2 _ _) (λobj=>F.args_object_init_3 obj _ _) F.entry_zip_new (Iq p q xs ys) #[h1,h2,?_];unfold z2A z2H;simp only[Heap.size_push];obtain⟨_,k,g⟩:=Bw [RN p.1 p.2,RN q.1 q.2,TK [PM,.ref (s.heap.objs.size+1)],TK [.none,.none],Yi (s.heap.objs.size+1+1) (s.heap.objs.size+1+1+1)] s.heap;refine#[#[_,g 4 _ rfl rfl,rfl],h _ #[#[.none,ff,gV,g 4 _ rfl rfl],g 2 _ rfl rfl,#[[.none,.none],rfl,g 3 _ rfl rfl],λj r hr=>?_] k];match j,hr with| 0,hr=>cases hr;exact pG (g 0 _ rfl rfl)| 1,hr=>cases hr;exact pG (g 1 _ rfl rfl)| n+2,hr=>cases hr
theorem Iy (h1:[Ϲ,p.1,p.2,xs])(h2:[Ϲ,q.1,q.2,ys])(h3:[Ϲ,r.1,r.2,zs]) (h:∀h',Yu s.heap.objs.size [p,q,r] 0 h'->(∀c o,ZZ=Υ->ZP=Υ)->Q (.ref (s.heap.objs.size+5)) { s with heap:=h'}):Qn [ϔ,w] A (call (.type "zip") [.ref p.2,.ref q.2,.ref r.2]) Q E s:=by refine callType_new F.called_zip (by decide) (zby _ _ _) (zdI _ _ _) (λobj=>zeq obj _ _ _) F.entry_zip_new (Ir p q r xs ys zs) #[h1,h2,h3,?_];unfold z3H z3D z3C z3B;simp only[Heap.size_push];obtain⟨_,k,g⟩:=Bw [RN p.1 p.2,RN q.1 q.2,RN r.1 r.2,TK [PM,.ref (s.heap.objs.size+1),.ref (s.heap.objs.size+1+1)],TK [.none,.none,.none],Yi (s.heap.objs.size+1+1+1) (s.heap.objs.size+1+1+1+1)] s.heap;refine#[#[_,g 5 _ rfl rfl,rfl],h _ #[#[.none,ff,gV,g 5 _ rfl rfl],g 3 _ rfl rfl,#[[.none,.none,.none],rfl,g 4 _ rfl rfl],λj r hr=>?_] k];match j,hr with| 0,hr=>cases hr;exact pG (g 0 _ rfl rfl)| 1,hr=>cases hr;exact pG (g 1 _ rfl rfl)| 2,hr=>cases hr;exact pG (g 2 _ rfl rfl)| n+3,hr=>cases hr
end
section
theorem w8 (x:SeqAt t h a xs):a<h.objs.size:=by cases t;obtain⟨o,e,_⟩:=x;exact LI;obtain⟨o,e,_⟩:=x;exact LI
end
open PySem PySem.Spec PyProof.Rows PySem.SeqAt
section
end
end NAL.EX
namespace PySem
open AutoSeq1 (wpAny_loadPart')
open MeetsSeq MeetsSeq2 MeetsSeq3 SeqRoads2 SeqAt
end PySem
namespace NAL.EX
open PySem PySem.Spec PyProof.Rows PySem.SeqAt
section
end
section
end
end NAL.EX
namespace NAM
theorem w9 (a b:Int):∃q1 q2:Int,a=(bP a b)*q1/\b=(bP a b)*q2:=by obtain⟨q1,h1⟩:=Int.gcd_dvd_left (a:=a) (b:=b);obtain⟨q2,h2⟩:=Int.gcd_dvd_right (a:=a) (b:=b);exact#[q1,q2,h1,h2]
theorem gone (hg:0<g)(h:(bP (g*q1) (g*q2))=g):bP q1 q2=1:=by rw[Int.gcd_mul_left] at h;(have h2:g*(bP q1 q2)=g*1:=by lia);have:=zL (by exact d9 hg) h2;lia
theorem qU (hb:b≠0):(0:Int)<(bP a b):=Τ
theorem BB (hb:b≠0)(hj:j=if b<0 then-((bP a b):Int)else(bP a b)):j≠0/\j.natAbs<=b.natAbs/\1<=Kf/\bP (a.fdiv j) Kf=1/\a.fdiv j*b=a*Kf:=by obtain⟨q1,q2,h1,h2⟩:=w9 a b;have hg:=qU (a:=a) hb;generalize hG:((bP a b):Int)=g at *;have one:bP q1 q2=1:=gone hg (by rwa [<-h1,<-h2]);by_cases hn:b<0;rw[P8 hn] at hj;subst hj;(have e1:a=-g*-q1:=by rwa [zQ]);(have e2:b=-g*-q2:=by rwa [zQ]);(have f1:a.fdiv (-g)=-q1:=by(conv=>lhs;rw[e1]);exact lD _ Τ);(have f2:b.fdiv (-g)=-q2:=by(conv=>lhs;rw[e2]);exact lD _ Τ);(have q2n:q2<0:=by rcases gm q2 0 with z | z;exact z;have:=i6 (cE hg) z;lia);refine#[Τ,?_,by lia,?_,?_];rw[h2,ke,Int.natAbs_neg];exact qI _ Τ;rwa [f1,f2,Int.gcd_neg,Int.neg_gcd];rw[f1,f2,h2,h1,Int.neg_mul,Int.mul_neg,gu g q1,iC,tL];rw[P7 hn] at hj;subst hj;(have f1:a.fdiv j=q1:=by(conv=>lhs;rw[h1]);exact lD _ (by exact d9 hg));(have f2:Kf=q2:=by(conv=>lhs;rw[h2]);exact lD _ (by exact d9 hg));(have q2p:0<q2:=by rcases gm 0 q2 with z | z;exact z;have:=i6 (cE hg) (show 0<=-q2 by simp_all);lia);refine#[by exact d9 hg,?_,by rwa [f2],?_,?_];rw[h2,ke];exact qI _ Τ;rwa [f1,f2];rw[f1,f2,h2,h1];simp[gu,tL,iC]
theorem BC (h:bP n d=1)(k:d∣n*b):d∣b:=by(have k':d.natAbs∣n.natAbs*b.natAbs:=by rw[<-ke];simp_all);(have c:Nat.Coprime d.natAbs n.natAbs:=by show ui _ _=1;rwa [Nat.gcd_comm]);exact o3.mp (c.dvd_of_dvd_mul_left k')
theorem uw (h:bP n d=1)(e:n*b=a*d):d∣b/\n∣a:=#[BC h #[a,by grind],BC (by rwa [m9]) #[b,by grind]]
theorem BD (h:bP n d=1)(hb:b≠0)(e:n*b=a*d):n.natAbs<=a.natAbs/\d.natAbs<=b.natAbs:=by obtain⟨h1,h2⟩:=uw h e;refine#[?_,AG Τ (o3.mpr h1)];by_cases ha:a=0;(.subst ha;rw[ni] at e;rcases Int.mul_eq_zero.mp e with z | z;all_goals lia);exact AG Τ (o3.mpr h2)
theorem uy (h1:bP n x=1)(h2:bP n y=1):bP n (x*y)=1:=by show ui _ _=1;rw[ke];exact Nat.Coprime.mul_right h1 h2
theorem uz (h:bP n x=1)(h1:m∣n)(h2:y∣x):bP m y=1:=(Nat.Coprime.coprime_dvd_left (o3.mpr h1) h).coprime_dvd_right (o3.mpr h2)
theorem BE (h:bP t x=1)(hu:x∣u):bP (t+u) x=1:=Τ
theorem zea (hb:1<=b)(hd:1<=d)(h1:bP a b=1)(h2:bP c d=1){g t e:Int}(hg:g=(bP b d))(ht:t=a*Kb+c*Ms)(he:e=(bP t g)) :g≠0/\g.natAbs<=d.natAbs/\g.natAbs<=b.natAbs/\e≠0/\e.natAbs<=g.natAbs/\1<=Ms*Kq/\bP (t.fdiv e) (Ms*Kq)=1/\t.fdiv e*(b*d)=(a*d+c*b)*(Ms*Kq):=by obtain⟨b',d',e1,e2⟩:=w9 b d;(have gp:0<g:=by rw[hg];exact qU (by exact d9 hd));rw[<-hg] at e1 e2;have one:bP b' d'=1:=gone gp (by rw[<-e1,<-e2];exact hg.symm);(have f1:Ms=b':=by(conv=>lhs;rw[e1]);exact lD _ (by exact d9 gp));(have f2:Kb=d':=by(conv=>lhs;rw[e2]);exact lD _ (by exact d9 gp));rw[f1,f2] at ht;obtain⟨t',g',e3,e4⟩:=w9 t g;(have ep:0<e:=by rw[he];exact qU (by exact d9 gp));rw[<-he] at e3 e4;(have f3:t.fdiv e=t':=by(conv=>lhs;rw[e3]);exact lD _ (by exact d9 ep));(have e5:d=e*(g'*d'):=by have:=e2;rw[this,<-iC,<-e4]);(have f4:Kq=g'*d':=by(conv=>lhs;rw[e5]);exact lD _ (by exact d9 ep));(have pos:∀{x y z:Int},x=y*z->1<=x->0<y->1<=z:=λ{x y z} h hx hy=>by rcases gm 0 z with q | q;assumption;have:=i6 (cE hy) (show 0<=-z by simp[*]);rw[Int.mul_neg] at this;lia);have bp:=pos e1 hb gp;have dp:=pos e2 hd gp;have gp':=pos e4 (by assumption) ep;(have tb:bP t b'=1:=by rw[ht];refine BE ?_ #[c,gu _ _];rw[m9];exact uy (by rw[m9];exact uz h1 (iK _) #[g,by rwa [gu]]) one);(have td:bP t d'=1:=by rw[ht,Int.add_comm];refine BE ?_ #[a,gu _ _];rw[m9];exact uy (by rw[m9];exact uz h2 (iK _) #[g,by rwa [gu]]) (by rwa [m9]));have tt:t'∣t:=#[e,by rwa [gu]];refine#[by exact d9 gp,?_,?_,by exact d9 ep,?_,?_,?_,?_];rw[e2,ke];exact qI _ (by lia);rw[e1,ke];exact qI _ (by lia);rw[e4,ke];exact qI _ (by lia);rw[f1,f4];have h1:0<g'*d':=kC (by assumption) (by assumption);have:=kC (show 0<b' by assumption) h1;assumption;rw[f1,f3,f4];exact uy (uz tb tt (iK _)) (uy (gone ep (by rw[<-e3,<-e4];exact he.symm)) (uz td tt (iK _)));rw[f1,f3,f4];(have k1:a*d+c*b=g*t:=by rw[ht,e1,e2,qv];congr 1<;>simp[gu,tL,iC]);rw[k1];(have k2:t'*(b*d)=t'*(g*b'*(e*(g'*d'))):=by rw[<-e5];conv=>lhs;rw[e1]);rw[k2];(conv=>rhs;rw[e3]);simp[gu,tL,iC]
theorem xa {a g:Int}(hg:0<g):(a.fdiv g).natAbs<=a.natAbs:=by rw[Int.fdiv_eq_ediv_of_nonneg _ (cE hg)];rcases gm a 0 with h | h;(have h1:a<=a/g:=by rw[Int.le_ediv_iff_mul_le hg];have:=Int.mul_le_mul_of_nonpos_left (cE h) (show 1<=g by assumption);simp_all);have h2:=Int.ediv_neg_of_neg_of_pos h hg;lia;have h1:=Int.ediv_le_self g h;grind[zR,cE]
open PySem NAL NAL.EX
theorem IA (hg:0<=g)(hl:0<l):bP l (g%l)=bP g l:=by obtain⟨a,rfl⟩:=o0 hg;obtain⟨b,rfl⟩:=o0 (cE hl);show ui b (a%b)=ui a b;grind[Nat.gcd_comm,Nat.gcd_rec]
theorem IB (a b:Int):bP (if a<0 then-a else a) (if b<0 then-b else b)=bP a b:=by by_cases h1:a<0<;>by_cases h2:b<0<;>simp[h1,h2,Int.gcd_neg,Int.neg_gcd]
theorem BF (a:Int):0<=(if a<0 then-a else a):=by lia
theorem zeD (hg:0<=g):(bP g 0)=g:=by rw[Int.gcd_zero_right];lia
theorem _root_.NAL.EX.Bd.mul (hx:Bd m x)(hy:Bd n y):Bd (m+n) (x*y):=by show(x*y).natAbs<2^(m+n);rw[ke,Nat.pow_add];exact Nat.mul_lt_mul'' hx hy
theorem _root_.NAL.EX.Bd.add (hx:Bd m x)(hy:Bd n y)(h1:m<k)(h2:n<k):Bd k (x+y):=by show(x+y).natAbs<2^k;have a':x.natAbs<2^(k-1):=hx.le (NAG.gl30 h1);have b':y.natAbs<2^(k-1):=hy.le (NAG.gl30 h2);(have e:2^k=2^(k-1)+2^(k-1):=by(have:k=(k-1)+1:=by lia);lia);grind[zP]
theorem _root_.NAL.EX.Bd.of_le (hy:Bd m y)(h:x.natAbs<=y.natAbs):Bd m x:=kH h hy
theorem uA {b j:Int}(hb:Bd 9000 b)(h:j.natAbs<=b.natAbs)(h0:j≠0):j.natAbs.log2<9000:=zav (hb.of_le h) ϭ h0
def WZ (p:Zx):Prop:=1<=p.2/\bP p.1 p.2=1
theorem take_snoc {l:υ}(h:l[i]?=σ):l.take (i+1)=l.take i++[x]:=by grind[zY]
noncomputable def dNats (l:Zw):PyData:=.list (l.map λ(n:Nat)=>.int (n:Int))
section
end
theorem getD_at {l:Zv}(h:i<l.length):l[i]?=se [KI,i]:=Τ
theorem _root_.NAP.aV.weakT (B:NAP.aV N ac d row aq P aa ap)(h:∀a k b,Q a k->NAP.Wd N a k b->P a k):NAP.aV N ac d row aq Q aa ap :=#[B.len,B.old,B.new,B.beh,λa k b q t g=>B.cl a k b (h a k b q t) t g]
theorem _root_.NAP.unr_set:∀{l:Zv} {i:Nat} {x v:Int},l[i]?=σ->x<0->0<=v->NAP.unr (l.set i v)+1=NAP.unr l| [],_,_,_,h,_,_=>by trivial| y::r,0,x,v,h,h1,h2=>by simp at h;subst h;unfold NAP.unr;(have:¬v<0:=Τ);rw[tU,tZ,tZ];simp[*]| y::r,i+1,x,v,h,h1,h2=>by have ih:=NAP.unr_set (l:=r) (i:=i) (x:=x) (v:=v) (by assumption) h1 h2;unfold NAP.unr at ih ⊢;rw[pb,tZ,tZ];lia
theorem _root_.NAP.unr_len (l:Zv):NAP.unr l<=l.length:=List.countP_le_length
theorem qV (h:e<aa.length):aa[e]?=se [ZD,e]:=by grind[NAP.Lv,aJ,gU]
theorem lZ (h:0<=[ZD,e]):e<aa.length:=by grind[Nat.lt_or_ge,NAP.Lv,gU,eG]
noncomputable def goB (N:NAP.T9) (ac:Zv) (e k:Nat):Bool:=decide (e<N.G)||decide (0<[Pp,0])
theorem xb (hk:k<ac.length):goB N ac e k=tj↔NAP.Go N ac e k:=by unfold goB NAP.Go;simp[*]
noncomputable def VR (N:NAP.T9) (ab:Zv) (e:Nat):Bool:=decide (N.G<=e)&&decide (0<[CX,e])
theorem pH (he:e<ab.length):VR N ab e=tj↔NAP.RC N ab e:=by unfold VR NAP.RC;simp[*]
noncomputable def rest (N:NAP.T9) (ab:Zv):Zw:=(aM N.G).filter λg=>decide (0<[CX,g])
section
def Found (N:NAP.T9)(ac ab aa:Zv):Prop:=∃(d:Nat) (row:Zw),NAP.Rows N ac ab d row aa/\(row=[]\/∃e∈row,NAP.RC N ab e)
noncomputable def XQ (N:NAP.T9) (ac aa:Zv) (e k b:Nat):Bool:=decide ([ZD,b]=[ZD,e]+1)&&goB N ac e k
end
theorem xf (W:N.WF)(t:NAP.Wd N e k b):e<N.nE/\b<N.nE/\k<N.ends.length:=by obtain⟨p,hp,q⟩:=t;have h1:=W.lo k p hp;have h2:=qK (gz h1.1 h1.2.1) h1.2.2;have h3:='c'.1;rcases q with ⟨rfl,rfl⟩ | ⟨rfl,rfl⟩;exact#[h2,h1.2.2,h3];exact#[h1.2.2,h2,h3]
theorem BG (W:N.WF)(t:NAP.Wd N e k b)(hl:ac.length=N.ends.length):XQ N ac aa e k b=tj↔NAP.Wf N ac aa e k b:=by unfold XQ NAP.Wf;rw[bW,decide_eq_true_eq,xb (by rw[hl];exact(xf W t).2.2)];lia
theorem xg (W:N.WF)(hl:N.bB[e]?=te)(hk:k∈l):∃b,NAP.Wd N e k b:=by obtain⟨p,hp,hpe⟩:=(W.mem e l k hl).mp hk;rcases hpe with z | z;exact#[p.2,p,hp,.inl #[z,rfl]];exact#[p.1,p,hp,.inr #[z,rfl]]
theorem V2:g∈rest N ab↔g<N.G/\0<[CX,g]:=by unfold rest;simp_all
theorem BH:(rest N ab).length<=N.G:=by refine b9 (gy _ _) ?_;simp
theorem ID (W:N.WF)(hl:aa.length=N.nE)(hp:ab.length=N.nE)(h:∀e,[ZD,e]=if e∈rest N ab then 0 else-1):NAP.Rows N ac ab 0 (rest N ab) aa:=by have hg:=W.gle;(have two:∀e,(e∈rest N ab/\[ZD,e]=0)\/(e∉rest N ab/\[ZD,e]=-1):=λe=>by grind);refine#[#[hl,λe he=>?_,λg x hg' hx h0=>?_,λe he=>?_],λe=>?_,λe=>?_,λa k b t g h1 h2=>?_,λe h1 h2=>?_];rcases two e with ⟨a,b⟩ | ⟨a,b⟩;obtain⟨a1,a2⟩:=V2.mp a;grind;simp_all;have:=V2.mpr #[hg',by rw[getD_at (NAG.gl37 hg' hp hg)] at hx;cases hx;exact h0];simp_all;all_goals grind
theorem BI:∀{n:Nat} {l:Zw},l.Nodup->(∀x∈l,x<n)->l.length<=n| 0,[],_,_=>ϭ| 0,x::l,_,h=>absurd (h x aI) (kI _)| n+1,l,hn,h=>by(have h1:(l.filter λx=>decide (x<n)).length<=n:=BI (hn.filter _) λx hx=>Τ);(have h2:l.length<=(l.filter λx=>decide (x<n)).length+l.count n:=by clear h1;induction l with| nil=>simp| cons x l ih =>have hx:=h x aI;have:=ih (eA.mp hn).2 λy hy=>h y (aY _ hy);rw[kg,wx];by_cases c:x<n;(have c2:¬(x==n)=tj:=by simp;exact cI c);simp only[c,decide_true,if_true,fS,c2];simp;lia;(have c2:x=n:=by lia);subst c2;simp;exact ue this);have h3:=v6.mp hn n;lia
section
def Way (N:NAP.T9)(ac ab aa:Zv)(g:Nat)(ah:Zv)(way:Zw):Prop:=(way=[]/\NAP.W4 N ab ah g)\/(way≠[]/\∃(es:Zw) (f:Nat),NAP.U0 N aa ac es way/\es[0]?=se g/\es[way.length]?=se f/\NAP.RC N ab f)
end
theorem IE (a:Int)(ac:Zv)(l:Zw)(k:Nat):NAP.SA a ac (l++[k])=(NAP.SA a ac l).set k ((NAP.SA a ac l).getD k 0+a):=by unfold NAP.SA;rw[wo];rfl
section
end
theorem uB:∀b (l:List α),(NAP.Ux b l).length<=l.length| true,[]=>ϭ| false,[]=>ϭ| true,x::r=>by have:=uB ff r;exact ue this| false,x::r=>by have:=uB tj r;exact nO this
section
end
theorem tr0 {N:NAP.T9}(W:N.WF):NAP.Tr N (be N.nE 0):=#[by rw[nu],λe l t _ h=>by rw[lI] at h;split at h;cases h;constructor<;>lia;cases h]
theorem zcJ:NAP.VX N ac ab aa (be N.nE 0):=λe l j k t _ _ h hj=>by rw[lI] at h;split at h;cases h;trivial;cases h
theorem IG:(rest N ab).Nodup:=List.Pairwise.filter _ ua
theorem zbM {l:Zw}(h:l.Nodup)(hg:l[i]?=se g):g∉l.take i:=λhm=>by obtain⟨j,hj⟩:=bf hm;(have hji:j<i:=by grind);rw[qB hji] at hj;have hi:=(aH.mp hg).1;have jS:='-'.1;(have e:l[j]=l[i]:=Τ);exact o7.mp h j i jS hi hji e
section
noncomputable def R8 (aa:Zv):NK:=aa.map λs=>decide (0<=s)
end
theorem xi (n e:Nat)(f:Nat->α)(v:α):((aM n).map f).set e v=(aM n).map λx=>if x=e then v else f x:=by refine i8 λi=>?_;rw[ph,bo,bo,a8,jv];by_cases h:e=i;subst h;by_cases l:e<n<;>simp[l];rw[P7 h];by_cases l:i<n<;>simp[l,Ne.symm h]
theorem nV (f:Nat->α)(h:e<n):((aM n).map f)[e]?=se (f e):=Τ
theorem BJ:∀{ends:Zu} {ac:Zv} {p:Nat×Nat} {s:Int} {e:Nat},ac.length=ends.length->[Ic,ends++[p],ac++[s]]=[Ic,ends,ac]+(if NAP.Xo p e then s else 0)| [],[],p,s,e,_=>by simp[NAP.load]| [],_::_,_,_,_,h=>by trivial| _::_,[],_,_,_,h=>by trivial| q::r,x::y,p,s,e,h=>by have ih:=BJ (p:=p) (s:=s) (e:=e) (by exact jy h);simp only[pi,NAP.load,ih];lia
noncomputable def Rw (G:Nat) (ai:Zu):Zu:=ai.map λp=>(p.1,G+p.2)
noncomputable def Wu (ends:Zu) (i e:Nat):Zw:=(aM i).filter λk=>NAP.Xo (ends.getD k (0,0)) e
theorem II (ends:Zu)(i e:Nat):Wu ends (i+1) e=Wu ends i e++(if NAP.Xo (ends.getD i (0,0)) e then[i]else[]):=by unfold Wu;rw[qF,qE];rw[kg,List.filter_nil]
noncomputable def WB (aX:Zv) (ends:Zu) (ss:Zv) (i e:Nat):Int:=[ZA,0]-[Ic,ends.take i,ss.take i]
noncomputable def RH (G T:Nat) (ai:Zu):NAP.T9:=NAP.V3 G T ai ((aM (G+T)).map (Wu (Rw G ai) ai.length))
theorem xj (h:∀p∈ai,p.1<G/\p.2<T):(RH G T ai).WF:=by(have look:∀(k:Nat) p,(Rw G ai)[k]?=ο->∃q,ai[k]?=Ϝ/\p=(q.1,G+q.2):=λk p hp=>by unfold Rw at hp;grind);refine#[kn _ _,by show((aM (G+T)).map _).length=G+T;simp,λk p hp=>?_,λe l k hl=>?_];obtain⟨q,h1,rfl⟩:=look k p hp;obtain⟨a,b⟩:=h q (aG h1);refine#[a,?_,?_];show G<=G+q.2;simp_all;show G+q.2<G+T;simp_all;have k7:((aM (G+T)).map (Wu (Rw G ai) ai.length))[e]?=te:=hl;rw[nV _ (by grind)] at k7;cases k7;unfold Wu;rw[bY,dF];constructor;rintro⟨h1,h2⟩;(have hk:(Rw G ai)[k]?=se ((Rw G ai).getD k (0,0)):=by grind[Rw,a8,aJ,gU]);exact#[_,hk,by grind[NAP.Xo]];rintro⟨p,hp,hq⟩;have cH:(Rw G ai)[k]?=ο:=hp;grind[Rw,a8,gU,NAP.Xo]
section
end
theorem range_getD (l:Zv):(aM l.length).map (λe=>[KI,e])=l:=by apply i8;intro i;rw[bo];by_cases h:i<l.length;rw[ju h,getD_at h];rfl;rw[eG Τ,eG Τ];rfl
section
end
section
end
theorem BK:∀ends n e,[Ic,ends,be n 0]=0| [],n,e=>by cases n<;>rfl| p::r,0,e=>rfl| p::r,n+1,e=>by rw[nz];simp only[NAP.load,BK r n e];simp
theorem zcv (hl:ss.length=ai.length)(hn:∀(k:Nat) s,ss[k]?=Ϩ->0<=s)(hs:∀e<gs.length+ts.length,0<=WB (gs++ts) [Nk,ai] ss ai.length e) :NAP.Flow [tx,ts.length,ai] (gs++ts) ss ((aM (gs.length+ts.length)).map (WB (gs++ts) [Nk,ai] ss ai.length)):=by(have oN:[Nk,ai].length=ai.length:=by unfold Rw;rw[a8]);refine#[by show ss.length=(ai.map _).length;simp_all,by show _=gs.length+ts.length;simp,by show _=gs.length+ts.length;simp,hn,λe c s hc h=>?_,λe s h=>?_];rw[nV _ (by simpa using (aH.mp h).1)] at h;cases h;unfold WB;rw[dL Τ,dL Τ];rw[show(gs++ts).getD e 0=c by simp_all];rfl;grind
theorem xk {a b:υ}(h:i<a.length):(a++b).getD i d=a.getD i d:=by grind
theorem xm {a b:υ}:(a++b).getD (a.length+i) d=b.getD i d:=by simp[gU,gw (kn _ _)]
section
end
section
end
theorem BL (h:e<aa.length):'/'.getD e ff=[ZE,e]:=by unfold R8 NAP.nr NAP.Lv;simp[bC,h]
section
end
theorem BM:∀ends ss e,(∀(k:Nat) s,ss[k]?=Ϩ->0<=s)->0<=[Ic,ends,ss]| [],ss,e,_=>by simp[NAP.load]| p::ps,[],e,_=>by simp[NAP.load]| p::ps,s::ss,e,h=>by have ih:=BM ps ss e λk x hx=>h (k+1) x (by assumption);have h0:=h 0 s rfl;simp only[NAP.load];split<;>lia
section
end
end NAM
namespace NAL
open PySem PySem.Spec PyProof.Rows
section
end
section
end
section
end
section
end
section
end
section
end
section
end
section
end
section
end
section
end
section
end
section
end
section
end
section
end
section
end
section
end
section
end
section
end
section
end
section
end
section
end
section
end
section
end
section
end
section
variable {κ:Type}[DecidableEq κ]
end
section
end
section
end
section
end
section
end
section
end
section
end
section
end
section
end
section
end
end NAL
namespace NAA
open PySem PySem.W PySem.Calls PyProof.Rows
section
end
end NAA
namespace NAL
open PySem PySem.Spec PyProof.Rows
section
end
section
end
section
variable {κ:Type}[DecidableEq κ]
end
end NAL
namespace PySem
theorem IK:[Mg,"list","keys"]=KC:=by kernel_rfl
theorem BN:entryFor table "dict.update.loop"=se Builtin.«dict.update.loop»:=entryFor_of_tree (by kernel_rfl)
theorem uC:plainId "dict.update.loop"=tj:=by decide +kernel
section
variable {prog:Qv}{w:Q0}{A:Qs}{E:Value->Qe->Prop}{s:Qe}
theorem getAttr?_keys_list (hx:Z5=se { cls:=.type "list",data:=.seq xs k})(hA:A.handled=ng) (h:∀h' tk,(∀b ob,ϣ=Lj->JK=Lj)->Q ng { s with heap:=h',toks:=tk}) :Qn [ϔ,w] A (getAttr? ύ "keys") Q E s:=by obtain⟨hp,g,d,tk,os⟩:=s;have hT:∀bi,(#[hp,g,d,bi,os]:Qe).TypeIs ύ "list":=λ_=>#[_,hx,rfl];have f1:=sub_AttributeError;have f3:=F.slot_list_getattribute.lookup;have f4:=F.slot_list_getattribute.bind ύ;have f5:=am_list_getattr_none;unfold getAttr? getAttrBy? getAttrBy;(repeat(any_goals(first |assumption|exact hT _|((with_reducible show Qn _ _ (call (Value.builtin "list.__getattribute__") _ _) _ _ _);refine S6 F.slot_list_getattribute (hT _) am_entry_list_getattribute (F.args_list_getattribute_2 _ _) (meets_getattribute_miss_list a xs k _ "keys" _ IK (by decide +kernel) (by decide +kernel)) #[hx,hA,λh' bi e hZ=>?_])|wp_step)));obtain⟨t',u',he⟩:=hZ.there;show Qn _ _ (Tk _ _ _ _ _ _ _) _ _ _;unfold Tk;(repeat(any_goals(first |assumption|wp_step)));exact h h' bi hZ.keeps
end
section
variable {prog:Qv}{w:Q0}{K:Type}[DecidableEq K] {knd:KeyKind prog w K}
def xo (knd:KeyKind prog w K)(h:QF)(items:TT)(ps:List (K×Value)):Prop :=items.size=ps.length/\∀(j:Nat) p,ps[j]?=ο->∃t bn,items[j]?=[ZN,t]/\h.IsTuple t ([bn,p.2].toArray)/\knd.is p.1 bn=tj
noncomputable def putAll (dJ:List (K×Value)) (ps:List (K×Value)):List (K×Value):=ps.foldl (λacc p=>T5 acc p.1 p.2) dJ
theorem IL (dJ:List (K×Value))(k:K)(v:Value):(T5 dJ k v).length<=dJ.length+1:=by grind[T5]
structure DIt (knd:KeyKind prog w K)(d it:Qh)(fp:Qh->Prop)(ps:List (K×Value))(J:Nat->QF->Prop):Prop where
 nd:¬fp d
 keep:∀{i h h'},J i h->(∀c o,c≠d->G8=Υ->ZP=Υ)->J i h'
 item:∀{i:Nat} {p A} {s:Qe} {Q E},A.handled=ng->ps[i]?=ο->J i s.heap->(∀h' t ot n bn,J (i+1) h'->h'.get? t=se ot->ot.cls=.type "tuple"->ot.data=.seq ([bn,p.2].toArray) n->knd.is p.1 bn=tj->(∀c o,¬fp c->ZZ=Υ->ZP=Υ)->Q [ZN,t] { s with heap:=h'})->Qn [ϔ,w] A JQ Q E s
 stop:∀{A} {s:Qe} {Q E},A.handled=ng->J ps.length s.heap->(∀h',(∀c o,¬fp c->ZZ=Υ->ZP=Υ)->Q ng { s with heap:=h'})->Qn [ϔ,w] A JQ Q E s
theorem IM {J:Nat->QF->Prop}{ps:List (K×Value)}(D:DIt knd d it fp ps J)(n:Nat) :∀i dJ,ps.length-i=n->i<=ps.length->dJ.length+ps.length<=sizeLine+i->∀A R (s:Qe),A.handled=ng->J i s.heap->s.heap.DictOf knd d dJ->(∀h' tk,h'.DictOf knd d (putAll dJ (ps.drop i))->(∀c o,¬fp c->c≠d->ZZ=Υ->ZP=Υ)->R (.ok (.ret .none)) { s with heap:=h',toks:=tk})->Qn [ϔ,w] A.in1 (Builtin.«dict.update.loop» #[[.ref d,ZI,Vg i,.none],[]]) (λfin s'=>match fin with| .done f=>R (.ok f) s'| .again c'=>c'.quiet=tj/\UA [ϔ,w] A c' R s') (λe s'=>R (.error e) s') s:=by have gone:∀{h h':QF} {dJ},(∀c o,¬fp c->G8=Υ->ZP=Υ)->h.DictOf knd d dJ->h'.DictOf knd d dJ:=λk #[o,es,ep,ho,r]=>#[o,es,ep,k d o D.nd ho,r];induction n with| zero =>(intro i dJ hn hi hz A R s hA st hd hR;unfold Builtin.«dict.update.loop»;(have e:i=ps.length:=by lia);subst e;refine Qd (D.stop (show A.in1.handled=ng from hA) st λh' kk=>?_);refine Qd (wpAny_of_eq (by first |rfl |(unfold Builtin.Dict.addKeywords;rfl)) (Qk ?_));rw[List.drop_of_length_le (bG _)] at hR;exact hR h' s.toks (gone kk hd) λc o hc _ ho=>kk c o hc ho)| succ n ih =>intro i dJ hn hi hz A R s hA st hd hR;unfold Builtin.«dict.update.loop»;obtain⟨r,hr⟩:∃r,ps[i]?=se r:=#[_,aJ (by lia)];refine Qd (D.item (show A.in1.handled=ng from hA) hr st λh' t ot m bn fD g1 g2 g3 g4 kk=>?_);refine Qd (Sf (Qd (wpAny_tryCatch ?_)));unfold Builtin.Dict.pairItems;refine Qd (wpAny_typeOf #[_,g1,g2] ?_);rw[P8 (by decide)];refine Qd (SP g1 g3 (Qk ?_));show Qn _ _ (holding [bn,r.2] (dictSet d bn r.2)) _ _ _;have dR:=IL dJ r.1 r.2;refine Sf (wpAny_dictSet_pairs g4 (gone kk hd) (λh3 hd3 sb=>?_) (by lia));have k3:∀c o,c≠d->h'.get? c=se o->h3.get? c=se o:=λc o hc ho=>(sb.2 c hc).trans ho;refine Qk #[plainId_quiet uC _,Ti BN ?_];rw[Around.under_plainId uC _,show(i+1)=((i+1):Int) by push_cast;rfl];refine ih (i+1) (T5 dJ r.1 r.2) (by lia) (by lia) (by lia) A R _ hA (D.keep fD k3) hd3 λh5 tk hd5 k5=>?_;rw[show putAll dJ (ps.drop i)=putAll (T5 dJ r.1 r.2) (ps.drop (i+1)) by obtain⟨y1,y2⟩:=aH.mp hr;rw[qz y1,y2];rfl] at hR;exact hR h5 tk hd5 λc o hc hd ho=>k5 c o hc hd (k3 c o hd (kk c o hc ho))
theorem BO {a:Qh}{T:String}{o:RB}{ps:List (K×Value)}{fp:Qh->Prop}(hA:A.handled=ng)(ho:Z5=Υ)(hc:o.cls=.type T)(hz:ps.length<=sizeLine) (hT:(Value.type T !=.type "dict")=tj) (hk:∀{A} {s:Qe} {Q E},Z5=Υ->A.handled=ng->(∀h' tk,(∀b ob,ϣ=Lj->JK=Lj)->Q ng { s with heap:=h',toks:=tk})->Qn [ϔ,w] A (getAttr? ύ "keys") Q E s) (hi:∀{A Q E} (s2:Qe),(∀c o,ZZ=Υ->s2.heap.get? c=Υ)->s.heap.objs.size<s2.heap.objs.size->(∀it h3 J,DIt knd s.heap.objs.size it fp ps J->J 0 h3->(∀c o,s2.heap.get? c=Υ->h3.get? c=Υ)->Q ZI { s2 with heap:=h3})->Qn [ϔ,w] A (pyIter ύ) Q E s2) (h:∀h' tk,[HI,knd,putAll [] ps]->(∀c o,¬fp c->ZZ=Υ->ZP=Υ)->Q PM { s with heap:=h',toks:=tk}) :Qn [ϔ,w] A (call (.type "dict") [ύ]) Q E s:=by refine callType_codes (Q₁:=λobj s₁=>obj=PM/\s₁={ s with heap:=s.heap.push { cls:=.type "dict",data:=.dict ([].toArray)}}) F.kt_called_dict (F.kt_typeCall_dict_1 _) F.entry_dict_init (kt_code_dict_new _ #[rfl,rfl]) ?_;rintro obj s₁ ⟨rfl,rfl⟩;have oL:(s.heap.push { cls:=.type "dict",data:=.dict ([].toArray)}).DictOf knd s.heap.objs.size []:=HP;refine#[oL.typeIs,F.args_dict_init_2 _ _,?_];unfold Builtin.«dict.__init__»;refine Qd ?_;unfold Builtin.Dict.selfAndRest;refine Qd (wpAny_notOrdered_dict oL.typeIs ?_);show Qn _ _ (pure (s.heap.objs.size,[Value.ref a])) _ _ _;refine Qk ?_;show Qn _ _ (Builtin.Dict.updateFrom "dict.__init__" s.heap.objs.size ύ [] .none) _ _ _;unfold Builtin.Dict.updateFrom;have k1:∀c o,ZZ=Υ->(s.heap.push { cls:=.type "dict",data:=.dict ([].toArray)}).get? c=Υ:=λc o ho=>Heap.get?_push_of_some _ ho;refine Qd (wpAny_typeOf #[_,k1 _ _ ho,hc] ?_);rw[P8 hT];refine Qd (hk (k1 _ _ ho) hA λh2 tk2 k2=>?_);rw[P8 (show none.isNone=tj from rfl)];obtain⟨od,es,ep,hod,r⟩:=oL;refine[VC,Qd (hi _ (λc o ho=>k2 _ _ (k1 _ _ ho)) (Heap.lt_size (k2 _ _ hod)) λit h3 J D j0 k3=>?_)];refine Qk #[plainId_quiet uC _,Ti BN ?_];rw[Around.under_plainId uC _];exact IM D _ 0 [] rfl (jb _) Τ A.in1 _ _ hA j0 #[od,es,ep,k3 _ _ (k2 _ _ hod),r] λh4 tk hd4 k4=>#[rfl,h h4 tk hd4 λc o hc ho=>k4 c o hc [PF,ho] (k3 _ _ (k2 _ _ (k1 _ _ ho)))]
theorem IN (hA:A.handled=ng)(hl:Ng=se { cls:=.type "list",data:=.seq items n})(hp:xo knd s.heap items ps)(hz:items.size<=sizeLine) (h:∀h' tk,[HI,knd,putAll [] ps]->(∀b o,ϣ=Υ->JK=Υ)->Q PM { s with heap:=h',toks:=tk}) :Qn [ϔ,w] A (call (.type "dict") [HN]) Q E s:=by refine BO (fp:=λc=>s.heap.objs.size<c) hA hl rfl (hp.1▸hz) (by decide) getAttr?_keys_list (λs2 k lt hQ=>?_) λh' tk hd k=>h h' tk hd λc o ho=>k c o (Nat.lt_asymm Hm) ho;have P:xo knd s2.heap items ps:=#[hp.1,λj p hj=>let #[t,bn,g1,g2,g3]:=hp.2 j p hj;#[t,bn,g1,g2.at λo ho=>k _ _ ho,g3]];have isl:s2.heap.IsList l items:=#[_,k _ _ hl,rfl,n,rfl];refine Rd isl (hQ s2.heap.objs.size _ (λi h=>h.IsListIter s2.heap.objs.size l i/\h.IsList l items/\xo knd h items ps/\(∀(j:Nat) t,items[j]?=[ZN,t]->t≠s.heap.objs.size/\t≠s2.heap.objs.size)) #[nQ _,?_,?_,?_] #[#[_,Heap.get?_push_size _ rfl,rfl,rfl],isl.at λo ho=>Heap.get?_push_of_some _ ho,#[P.1,λj p hj=>let #[t,bn,g1,g2,g3]:=P.2 j p hj;#[t,bn,g1,g2.at λo ho=>Heap.get?_push_of_some _ ho,g3]],?_] λc o ho=>Heap.get?_push_of_some _ ho);intro i h h'#[a,b,c,e]kk;exact#[a.at λo ho=>kk _ _ (eV lt) ho,b.at λo ho=>kk _ _ [PF,hl] ho,#[c.1,λj p hj=>let #[t,bn,g1,g2,g3]:=c.2 j p hj;#[t,bn,g1,g2.at λo ho=>kk _ _ (e j t g1).1 ho,g3]],e];intro i p A s Q E hA hr#[a,b,c,e]hQ;obtain⟨t,bn,g1,⟨ot,hot,hct,m,hdt⟩,g3⟩:=c.2 i p hr;refine TJ a b g1 λh' a' sb=>?_;have kk:∀c o,c≠s2.heap.objs.size->ZZ=Υ->ZP=Υ:=λc o hc ho=>(sb.2 c hc).trans ho;exact hQ h' t ot m bn #[a',b.at λo ho=>kk _ _ (cI (qK (Heap.lt_size hl) lt)) ho,#[c.1,λj p hj=>let #[t,bn,g1,g2,g3]:=c.2 j p hj;#[t,bn,g1,g2.at λo ho=>kk _ _ (e j t g1).2 ho,g3]],e] (kk _ _ (e i t g1).2 hot) hct hdt g3 λc o hc ho=>kk c o (λz=>hc (z▸lt)) ho;intro A s Q E hA#[a,b,c,e]hQ;exact TY hA a b (by rw[<-c.1];simp) λh' eb=>hQ h' λc o hc ho=>eb c o (λz=>hc (z▸lt)) ho;intro j t hj;obtain⟨t',bn,g1,⟨o,ho,_⟩,_⟩:=hp.2 j _ (aJ (show j<ps.length by rw[<-hp.1];exact(Array.getElem?_eq_some_iff.mp hj).1));rw[hj] at g1;cases g1;have:=Hm;exact#[cI this,cI (qK this lt)]
end
end PySem
namespace NAL.EX
open PySem PySem.Spec PyProof.Rows
section
end
section
end
section
end
end NAL.EX
namespace NAM
open PySem NAL NAL.EX
theorem uD {l:Zw}(h:l.Nodup)(he:l[e]?=lT):l.idxOf a=e:=by grind
noncomputable def placeOf (ag:Zw) (h:Nat):IX:=if h∈ag then se (ag.idxOf h)else ng
noncomputable def Uc (ag:Zw) (g:Nat) (row:Zw):Zu:=row.filterMap λh=>[JD,h].map λp=>(g,p)
noncomputable def Tj (aC:Zs) (ag ad:Zw):Nat->Zu| 0=>[]| i+1=>Tj aC ag ad i++Uc ag i (aC.getD (ad.getD i 0) [])
noncomputable def Q2 (aC:Zs) (ag ad:Zw):Zu:=Tj aC ag ad ad.length
theorem xq (hp:[JD,h]=ο):ag[p]?=se h:=by unfold placeOf at hp;split at hp;rename_i c;cases hp;have:=fH c;rw[aJ this];simp;cases hp
theorem place_of (hd:ag.Nodup)(hp:ag[p]?=se h):[JD,h]=ο:=by unfold placeOf;grind
theorem BP (hd:ag.Nodup):(a,b)∈Uc ag g row↔a=g/\∃h,ag[b]?=se h/\h∈row:=by unfold Uc;rw[we];constructor;rintro⟨h,hr,e⟩;(cases q:[JD,h]with| none=>simp_all| some p =>rw[q] at e;cases e;exact#[rfl,h,xq q,hr]);rintro⟨rfl,h,hb,hr⟩;exact#[h,hr,by rw[place_of hd hb];rfl]
theorem BQ (hd:ag.Nodup):∀{i:Nat},(a,b)∈Tj aC ag ad i↔a<i/\∃h,ag[b]?=se h/\h∈aC.getD (ad.getD a 0) []:=by intro i;induction i with| zero =>simp[Tj]| succ i ih =>rw[Tj,dE,ih,BP hd];constructor;rintro(⟨h1,h2⟩ | ⟨rfl,h2⟩);exact#[e9 h1,h2];exact#[iO _,h2];rintro⟨h1,h2⟩;rcases Nat.lt_succ_iff_lt_or_eq.mp h1 with h | rfl;exact .inl #[h,h2];exact .inr #[rfl,h2]
theorem jz (hd:ag.Nodup):NAP.YV (λc=>aC.getD c []) ag ad (Q2 aC ag ad):=λg t=>by unfold Q2;rw[BQ hd];constructor;rintro⟨hg,h,h1,h2⟩;exact#[ad[g],h,aJ hg,h1,by simpa [bC,hg] using h2];rintro⟨c,h,hc,h1,h2⟩;obtain⟨hg,rfl⟩:=aH.mp hc;exact#[hg,h,h1,by simpa [bC,hg] using h2]
theorem BR (ag:Zw)(g:Nat)(row:Zw):(Uc ag g row).length<=row.length:=List.length_filterMap_le _ _
noncomputable def WH (aC:Zs):PyData:=.list (aC.map dNats)
theorem IP {aC:Zs}(h:∀r∈aC,r.length<=20)(k:Nat):(aC.getD k []).length<=20:=by grind
theorem qW (h:∀r∈aC,r.length<=20):∀i,(Tj aC ag ad i).length<=i*20| 0=>by exact kn ..| i+1=>by have a:=qW (ag:=ag) (ad:=ad) h i;grind[BR,IP,Tj,eU]
noncomputable def SQ (ws:Zv) (ad:Zw):Int:=(ad.map λc=>[KK,c]).sum
noncomputable def QH (ws:Zv) (ag ad:Zw):Zv:=ad.map λc=>[KK,c]*(ag.length:Int)
noncomputable def takesIn (ws:Zv) (ag ad:Zw):Zv:=[Ji,SQ ws ad]
noncomputable def Ws {α:Type} (xs:υ) (bs:NK) (w:Bool):υ:=((xs.zip bs).filter λp=>p.2==w).map (·.1)
theorem zd3 {xs:υ}{bs:NK}(h1:xs[i]?=σ)(h2:bs[i]?=se b):Ws (xs.take (i+1)) (bs.take (i+1)) w=Ws '1' (bs.take i) w++(if b=w then[x]else[]):=by unfold Ws;(have e1:'1'.length=(bs.take i).length:=by have:='S'.1;have:='f'.1;rw[h8,h8];exact NAG.gl34 (by assumption) this);rw[take_snoc h1,take_snoc h2,lO e1,qE,cP];by_cases c:b=w<;>simp[c]
theorem BS (hb:∀x∈ws,Bd 300 x):∀{ad:Zw},ad.length<=20->(∀c∈ad,c<ws.length)->Bd (300+ad.length) (SQ ws ad)| [],_,_=>by show(0:Int).natAbs<_;trivial| c::cs,hl,h=>by have ih:=BS hb (ad:=cs) (by exact gD hl) λx hx=>h x (aY _ hx);have b1:=hb _ (aG (getD_at (h c aI)));(have e:SQ ws (c::cs)=[KK,c]+SQ ws cs:=by rfl);rw[e];grind[fS,Bd.add]
noncomputable def Rn (ws:Zv) (c:Nat):Int:=if c<ws.length then[KK,c]else 1
noncomputable def Rz (aC:Zs) (c:Nat):Zw:=aC.getD c []
structure DoOk (ws:Zv)(aC:Zs)(ae:Nat):Prop where
 few:ae<=20
 some:∀c<ws.length,Rz aC c≠[]
 lt:∀c<ws.length,∀h∈Rz aC c,h<ae
theorem qX (h:∀x∈ws,1<=x)(c:Nat):0<Rn ws c:=by unfold Rn;split;rename_i hc;have:=h _ (aG (getD_at hc));assumption;decide
theorem BU (hl:xs.length=bs.length)(h:∀(i x:Nat),xs[i]?=σ->bs[i]?=se (f x)):Ws xs bs tj=xs.filter f/\Ws xs bs ff=xs.filter λx=>! f x:=by(have bn:∀i w,i<=xs.length->Ws '1' (bs.take i) w='1'.filter λx=>f x==w:=by intro i w;induction i with| zero=>simp[Ws]| succ i ih =>intro hi;have hx:xs[i]?=se xs[i]:=aJ (by lia);rw[zd3 hx (h i _ hx),ih (by exact gD hi),take_snoc hx,qE];grind);have k1:=bn xs.length tj ϭ;have k2:=bn xs.length ff ϭ;rw[Z9,dL (by lia)] at k1 k2;simp[*]
theorem nW {l:Zw}(h:l.Pairwise (· < ·)):l.Nodup:=h.imp λh=>cI h
section
variable {ws:Zv}{aC:Zs}{c:NAP.Cr}{ac ab aa:Zv}
theorem zcU (hh:c.1.Pairwise (· < ·))(hc:c.2.Pairwise (· < ·))(hi:∀x∈c.2,x<ws.length) (D:NAP.TX (RH (QH ws c.1 c.2).length [Zy,c.1,c.2].length (Q2 aC c.1 c.2)) (QH ws c.1 c.2++[Zy,c.1,c.2]) ac ab aa) :∃nc nh:Nat->Bool,NAP.Zb LG Hn c.1 c.2 c.1.length [Ϻ,c] nc nh/\(∀(i x:Nat),c.2[i]?=σ->('/'.take (QH ws c.1 c.2).length)[i]?=se (nc x))/\(∀(i x:Nat),c.1[i]?=σ->('/'.drop (QH ws c.1 c.2).length)[i]?=se (nh x)):=by(have gl:(QH ws c.1 c.2).length=c.2.length:=by unfold QH;simp);(have tl:[Zy,c.1,c.2].length=c.1.length:=by unfold takesIn;simp);rw[gl,tl] at D;rw[gl];have n1:=nW hh;have n2:=nW hc;have ll:aa.length=c.2.length+c.1.length:=D.st.len;(have nl:'/'.length=c.2.length+c.1.length:=by unfold R8;rw[a8];exact ll);(have ew:∀x∈c.2,[KK,x]=Rn ws x:=λx hx=>by unfold Rn;rw[P8 (hi x hx)]);(have oH:SQ ws c.2=[Ϻ,c]:=by unfold SQ NAP.Ub;rw[cq ew]);(have eg:QH ws c.1 c.2++[Zy,c.1,c.2]=c.2.map (λx=>Rn ws x*(c.1.length:Int))++be c.1.length [Ϻ,c]:=by unfold QH takesIn;rw[oH];congr 1;exact cq λx hx=>by rw[ew x hx]);rw[eg] at D;have sN:NAP.YV Hn c.1 c.2 (Q2 aC c.1 c.2):=jz n1;(have hb:∀p∈Q2 aC c.1 c.2,p.1<c.2.length/\p.2<c.1.length:=λp hp=>by obtain⟨g,t⟩:=p;obtain⟨x,h,g1,g2,_⟩:=(sN g t).mp hp;exact#[(aH.mp g1).1,(aH.mp g2).1]);refine#[λx=>[ZE,c.2.idxOf x],λh=>[ZE,c.2.length+c.1.idxOf h],?_,λi x hx=>?_,λi x hx=>?_];refine NAP.cut_of (ai:=Q2 aC c.1 c.2) sN (xj hb) D (λi x hx=>by rw[uD n2 hx]) (λi x hx=>by rw[uD n1 hx]) ?_;(have e1:(c.1.map λ_=>[Ϻ,c]).sum=(c.1.length:Int)*[Ϻ,c]:=by generalize[Ϻ,c]=W;induction c.1 with| nil=>simp| cons a r ih=>simp[ih];rw[o6];lia);rw[e1];unfold NAP.Ub;rw[NAP.VF];congr 1;exact cq λx _=>gu _ _;have k9:='+'.1;show _=se [ZE,c.2.idxOf x];rw[nH,P8 k9,uD n2 hx];have e:=BL (aa:=aa) (e:=i) (by lia);rw[<-e,aJ (by lia)];simp[gU,aJ (show i<(R8 aa).length by lia)];have k9:='+'.1;show _=se [ZE,c.2.length+c.1.idxOf x];rw[tV,uD n1 hx];have e:=BL (aa:=aa) (e:=c.2.length+i) (by lia);rw[<-e,aJ (by lia)];simp[gU,aJ (show c.2.length+i<(R8 aa).length by lia)]
end
def qY (ws:Zv)(aC:Zs)(c:NAP.Cr):Prop:=NAP.Hi LG Hn c [Ϻ,c] c.1.length
theorem zcT (C:NAP.Zb LG Hn c.1 c.2 c.1.length [Ϻ,c] nc nh)(hn:∀h∈c.1,ϡ=ff)(own:∀x∈c.2,∃h∈c.1,h∈Rz aC x):qY ws aC c:=by have h:=C.hi_rest;(have e:NAP.aU c nc nh=c:=by unfold NAP.aU;(have e2:(c.2.filter λx=>! nc x)=c.2:=tR.mpr λx hx=>by obtain⟨h,h1,h2⟩:=own x hx;cases q:nc x with| false=>rfl| true =>have:=C.up x hx h h1 h2 q;simp_all);rw[tR.mpr λh hh=>Τ,e2]);rwa [e] at h
theorem IU (D:DoOk ws aC ae)(h0:0<ae):NAP.UX LG Hn ae ws.length [('3',PG)]:=by refine#[λi x y hx hy=>?_,λc hc=>?_,λc hc x hx=>?_,λi c hc x hx h hh=>?_,λh=>?_,λx=>?_,λc hc=>?_,λc hc=>?_];trivial;intro e;simp_all;rw[cT.mp hc] at hx ⊢;have hZ:=Jg;obtain⟨h,r,e⟩:=tO (D.some x hZ);(have hm:h∈Rz aC x:=by rw[e];exact aI);exact#[h,dF.mpr (D.lt x hZ h hm),hm];have hi:=(aH.mp hc).1;simp at hi;subst hi;simp at hc;subst hc;have hZ:=Jg;exact#[0,_,ϭ,rfl,dF.mpr (D.lt x hZ h hh)];simp_all;simp_all;rw[cT.mp hc];exact Aa;rw[cT.mp hc];exact Aa
section
end
noncomputable def XO (U:Tm):Nat:=(U.map λc=>2*c.1.length-1).sum
theorem BV:∀{l:Zw} {k n:Nat},l.Pairwise (· < ·)->(∀x∈l,k<=x)->(∀x∈l,x<n)->l≠[]->k+l.length<=n| [],_,_,_,_,_,h=>[J4,h]| x::r,k,n,h,hk,hn,_=>by rw[lK] at h;have h1:=hk x aI;have h2:=hn x aI;by_cases c:r=[];subst c;exact kH h1 h2;have ih:=BV (k:=k+1) h.2 (λy hy=>by have:=h.1 y hy;lia) (λy hy=>hn y (aY _ hy)) c;rw[fS];lia
theorem ig {l:Zw}(h:l.Pairwise (· < ·))(hb:∀x∈l,x<n):l.length<=n:=by by_cases c:l=[];subst c;simp;have:=BV h (λ_ _=>jb _) hb c;simp_all
theorem zce {l:Zw}(hn:l.Nodup)(hb:∀x∈l,x<n):l.length<=n:=by have p:(l.mergeSort (λa b=>decide (a<=b))).Perm l:=wa l _;(have rs:(l.mergeSort (λa b=>decide (a<=b))).Pairwise (· < ·):=((vX (λa b c h1 h2=>by lia) (λa b=>by lia) l).and (p.nodup_iff.mpr hn)).imp λh=>by lia);have:=ig rs λx hx=>hb x (p.mem_iff.mp hx);simp_all
theorem BW (C:NAP.UX LG Hn ae ad L)(hm:ae<=20:=by assumption):L.length<=20:=by(have bn:∀(L:List NAP.Cr),(∀c∈L,c.1≠[])->L.length<=(L.map λc=>c.1.length).sum:=by intro L;induction L with| nil=>trivial| cons c r ih =>intro h;have a:=ih λd hd=>h d (aY _ hd);have b:=eY.mpr (h c aI);simp;lia);have a:=bn L C.ne;(have Ub:∀(L:List NAP.Cr),(∀h,(L.map λc=>c.1.count h).sum<=if h<ae then 1 else 0)->(L.map λc=>c.1.length).sum<=ae:=by intro L hL;(have e:(L.map λc=>c.1.length).sum=(L.flatMap λc=>c.1).length:=by rw[List.length_flatMap]);rw[e];(have cnt:∀h,(L.flatMap λc=>c.1).count h=(L.map λc=>c.1.count h).sum:=λh=>by rw[wh];rfl);(have nd:=v6.mpr λh=>by rw[cnt];have:=hL h;lia);(have lt:∀h∈L.flatMap λc=>c.1,h<ae:=λh hh=>by have p:=wj.mpr hh;rw[cnt] at p;have:=hL h;lia);exact zce nd lt);(have b:=Ub L λh=>by rw[C.hs h];simp_all);lia
theorem zcn:∀{l:Zw} {x:Nat},x∈l->x<=l.sum:=by intro r;induction r with| nil =>rintro _ h;cases h| cons y r ih =>rintro x h;rw[cy];rcases aT.mp h with rfl | h;simp_all;have:=ih h;lia
structure Vd (ws:Zv)(L:Tm)(ps:Zt):Prop where
 len:ps.length=L.length
 at_:∀(i:Nat) c p,L[i]?=ϓ->ps[i]?=ο->Yr/\p.1*(c.1.length:Int)=[Ϻ,c]*p.2
structure UY (ws:Zv)(aC:Zs)(ae:Nat)(L:Tm):Prop where
 none:ae=0->L=[]
 cr:0<ae->NAP.UX LG Hn ae ws.length L
 rst:∀c∈L,qY ws aC c
theorem UY.lt (C:UY ws aC ae L)(hc:c∈L):(∀h∈c.1,h<ae)/\(∀x∈c.2,x<ws.length)/\c.1≠[]/\c.1.Pairwise (· < ·)/\c.2.Pairwise (· < ·):=by(have h0:0<ae:=by rcases pA ae with z | z;rw[C.none z] at hc;cases hc;exact z);have K:=C.cr h0;(have one:∀(f:NAP.Cr->Nat),f c<=(L.map f).sum:=λf=>by have:f c∈L.map f:=aO.mpr #[c,hc,rfl];exact zcn this);refine#[λh hh=>?_,λx hx=>?_,K.ne c hc,K.hr c hc,K.cr c hc];have a:=one λc=>c.1.count h;rw[K.hs h] at a;grind;have a:=one λc=>c.2.count x;rw[K.cs x] at a;grind
theorem UY.few (C:UY ws aC ae L)(hm:ae<=20):L.length<=20:=by rcases pA ae with z | z;rw[C.none z];simp;exact BW (C.cr z) hm
structure UW (ae:Nat)(L:Tm)(ps qs:Zt):Prop where
 len:qs.length=ae
 at_:∀(i:Nat) c p,L[i]?=ϓ->ps[i]?=ο->∀h∈c.1,qs[h]?=ο
def We (n ae:Nat)(aC:Zs):Prop:=aC.length=n/\∀r∈aC,r≠[]/\r.Pairwise (· < ·)/\∀h∈r,h<ae
theorem We.doOk (h:We n ae aC)(hw:ws.length=n)(hm:ae<=20):DoOk ws aC ae:=by(have look:∀c<ws.length,Rz aC c∈aC:=λc hc=>by(have oS:c<aC.length:=by rw[h.1];simp_all);grind[Rz,gU,aJ,kh]);exact#[hm,λc hc=>(h.2 _ (look c hc)).1,λc hc=>(h.2 _ (look c hc)).2.2]
section
variable {ws:Zv}{aC:Zs}{ae:Nat}{L:Tm}{ps:Zt}
theorem IY (hg:bP n d=1)(h:n*k=t*d):d∣k:=by(have hg':Nat.Coprime d.natAbs n.natAbs:=by grind[bP,m9]);(have h2:d.natAbs∣n.natAbs*k.natAbs:=by rw[<-ke];simp_all);exact o3.mp (hg'.dvd_of_dvd_mul_left h2)
theorem zaX (hp:∀x∈ws,1<=x)(c:NAP.Cr):0<=[Ϻ,c]:=by refine NAP.Xz λi x hx=>?_;obtain⟨y,_,rfl⟩:=aO.mp Nw;exact cE (qX hp y)
theorem Vd.part (lo:Vd ws L ps)(co:UY ws aC ae L)(hm:ae<=20)(hp:∀x∈ws,1<=x)(hb:∀x∈ws,Bd 300 x)(hw:ws.length<=20){i:Nat}(hc:L[i]?=ϓ)(hi:ps[i]?=ο):Yr/\0<=p.1/\p.2<=20/\Bd 400 p.1:=by obtain⟨low,e⟩:=lo.at_ i c p hc hi;obtain⟨l1,l2,ne,r1,r2⟩:=co.lt MQ;have aw:=eY.mpr ne;have cl:=ig r1 l1;have mN:=ig r2 l2;have d1:=low.1;have d20:=Int.le_of_dvd Τ (IY low.2 e);(have n0:0<=p.1:=by rcases gm p.1 0 with z | z;have a:p.1*c.1.length<0:=Int.mul_neg_of_neg_of_pos z Τ;have b:0<=[Ϻ,c]*p.2:=i6 (zaX hp c) (by exact cE d1);lia;exact z);(have oH:SQ ws c.2=[Ϻ,c]:=by unfold SQ NAP.Ub;rw[cq λx hx=>?_];unfold Rn;simp_all);have wb:=(BS hb (by exact b9 mN hw) l2).le (show 300+c.2.length<=320 by lia);rw[oH] at wb;have b2:Bd 325 ([Ϻ,c]*p.2):=Bd.mul (n:=5) wb (by show _<_;lia);refine#[low,n0,by lia,(b2.le (by decide)).of_le ?_];rw[<-e];(have:=by have:=tH (show(1:Int)<=c.1.length by exact gq d1 d20) n0;lia);lia
theorem Vd.falls (lo:Vd ws L ps)(co:UY ws aC ae L)(hp:∀x∈ws,1<=x)(hc:L[i]?=ϓ)(hd:L[i+1]?=Ϡ)(h1:ps[i]?=ο)(h2:ps[i+1]?=Ϝ):q.1*p.2<p.1*q.2:=by(have h0:0<ae:=by rcases pA ae with z | z;rw[co.none z] at hc;simp at hc;exact z);obtain⟨lp,ep⟩:=lo.at_ i c p hc h1;obtain⟨lq,eq⟩:=lo.at_ (i+1) d q hd h2;have p2:=lp.1;have q2:=lq.1;have m:0<p.2*q.2:=kC (by assumption) (by assumption);have a:=mY (NAP.UX.fall (qX hp) (co.cr h0) hc hd) m;(have e1:[Ϻ,d]*c.1.length*(p.2*q.2)=(q.1*p.2)*(c.1.length*d.1.length):=by grind);(have e2:[Ϻ,c]*d.1.length*(p.2*q.2)=(p.1*q.2)*(c.1.length*d.1.length):=by grind);rw[e1,e2] at a;exact tI a (i6 Τ Τ)
noncomputable def Wi (L:Tm) (i:Nat):Zw:=(L.take i).flatMap (·.1)
noncomputable def Vx (L:Tm) (i:Nat):Zw:=(L.take i).flatMap (·.2)
theorem uE (co:UY ws aC ae L)(h0:0<ae):(Wi L L.length).Perm '3':=by rw[Af];intro h;unfold Wi;rw[Z9,wh,Al];exact(co.cr h0).hs h
theorem uF (co:UY ws aC ae L)(h0:0<ae):(Vx L L.length).Perm PG:=by rw[Af];intro h;unfold Vx;rw[Z9,wh,Al];exact(co.cr h0).cs h
end
theorem Vd.even (lo:Vd ws L ps)(co:UY ws aC ae L){i:Nat}{c:NAP.Cr}{p:Zx}(hc:L[i]?=ϓ)(hi:ps[i]?=ο):(c.2.map λx=>[KK,x]).sum*p.2=p.1*(c.1.length:Int):=by have e:=(lo.at_ i c p hc hi).2;obtain⟨_,lt2,_⟩:=co.lt MQ;rw[e];congr 1;unfold NAP.Ub;rw[cq λx hx=>?_];unfold Rn;rw[P8 (lt2 x hx)]
def QOk (qs:Zt):Prop:=∀q∈qs,1<=q.2/\q.2<=20/\0<=q.1/\Bd 400 q.1
end NAM
namespace NAP
theorem uG (f:α->Zw)(g:Nat->Int):∀L:υ,((L.flatMap f).map g).sum=(L.map λc=>((f c).map g).sum).sum:=by intro r;induction r with| nil =>exact rfl| cons c r ih =>rw[List.flatMap_cons,cP,kF,bA,cy,ih]
theorem uH {l m:Zw}(g:Nat->Int)(h:l.Perm m):'K'.sum=(m.map g).sum:=by induction h with| nil=>rfl| cons x _ ih=>rw[bA,bA,cy,cy,ih]| swap x y l=>simp only[bA,cy];lia| trans _ _ a b=>exact a.trans b
theorem Wg {f g:α->Int}:∀{l:List α},(∀x∈l,f x<=g x)->'~'.sum<='K'.sum:=by intro r;induction r with| nil =>rintro _;exact cQ _| cons x r ih =>rintro h;have a:=h x aI;have b:=ih λy hy=>h y (aY x hy);exact NAG.gl40 a b
theorem V1 (f:α->Int)(k:Int):∀l:υ,'~'.sum*k=(l.map λx=>f x*k).sum:=by intro r;induction r with| nil =>simp| cons x r ih =>rw[bA,bA,cy,cy,o6,ih]
theorem sum_eqI {f g:α->Int}:∀{l:List α},(∀x∈l,f x<=g x)->'K'.sum<='~'.sum->∀x∈l,f x=g x:=by intro r;induction r with| nil =>rintro _ _ x hx;cases hx| cons y r ih =>rintro h k x hx;rw[bA,bA,cy,cy] at k;have a:=h y aI;have b:=Wg λz hz=>h z (aY y hz);rcases aT.mp hx with rfl | hx;lia;exact ih (λz hz=>h z (aY y hz)) (NAG.gl65 k a) x hx
noncomputable def SH (ae:Nat) (T:Nat->Bool) (x:Nat->Int):Int:=('3'.map λh=>if T h then x h else 0).sum
noncomputable def IW (wk:Nat->Int) (dr:Nat->Zw) (ad:Nat) (T:Nat->Bool):Int:=((aM ad).map λk=>if(dr k).all T then wk k else 0).sum
structure Zn (wk:Nat->Int)(dr:Nat->Zw)(ae ad:Nat)(M:Int)(L:List Cr)(x:Nat->Int):Prop where
 hp:(L.flatMap (·.1)).Perm '3'
 cp:(L.flatMap (·.2)).Perm (aM ad)
 hi:∀c∈L,Hi wk dr c (Ub wk c) c.1.length
 ne:∀c∈L,c.1≠[]
 eq:∀c∈L,∀h∈c.1,x h*c.1.length=Ub wk c*M
 up:∀(i:Nat) c,L[i]?=ϓ->∀k∈c.2,∀h∈dr k,∃(j:Nat) (d:Cr),j<=i/\L[j]?=Ϡ/\h∈d.1
 fall:∀(i:Nat) c d,L[i]?=ϓ->L[i+1]?=Ϡ->∀h∈c.1,∀g∈d.1,x g<x h
 wp:∀k,0<wk k
 mp:0<M
section
variable {wk:Nat->Int}{dr:Nat->Zw}{ae ad:Nat}{M:Int}{L:List Cr}{x:Nat->Int}
theorem Zn.len (S:Zn wk dr ae ad M L x)(hc:c∈L):(0:Int)<c.1.length:=by have:=eY.mpr (S.ne c hc);simp_all
theorem Zn.same (S:Zn wk dr ae ad M L x)(hc:c∈L)(hh:h∈c.1)(hg:g∈c.1):x h=x g:=by have a:=S.eq c hc h hh;have b:=S.eq c hc g hg;grind[ka]
theorem Zn.borne (S:Zn wk dr ae ad M L x)(T:Nat->Bool):IW wk dr ad T*M<=SH ae T x:=by unfold IW SH;rw[<-uH _ S.cp,<-uH _ S.hp,uG,uG,V1];refine Wg λc hc=>?_;have hn:=S.len hc;obtain⟨h0,r0,e0⟩:=tO (S.ne c hc);(have m0:h0∈c.1:=by rw[e0];exact aI);have ex:=S.eq c hc h0 m0;(have one:(c.2.map λk=>if(dr k).all T then wk k else 0).sum<=VI wk dr c T:=by unfold VI;refine Wg λk hk=>?_;have wpk:=S.wp k;by_cases a:(dr k).all T=tj;(have b:(c.1.all λh=>(!(dr k).contains h||T h))=tj:=i9.mpr λh hh=>by cases q:(dr k).contains h with| false=>rfl| true =>have:=i9.mp a h (kf.mp q);rw[this];rfl);rw[P8 a,P8 b];exact ϳ;rw[P7 a];split<;>lia);(have two:(c.1.map λh=>if T h then x h else 0).sum=x h0*cnt c T:=by unfold cnt;rw[VF];congr 1;refine cq λh hh=>?_;rw[S.same hc hh m0];split<;>simp);rw[two];have thr:=S.hi c hc T;refine gq (oZ one (by have:=S.mp;exact LN)) ?_;refine vP (a:=(c.1.length:Int)) ?_ hn;(have e1:x h0*cnt c T*(c.1.length:Int)=Ub wk c*cnt c T*M:=by rw[jt,ex,jt]);rw[e1,jt,gu (VI wk dr c T) _];exact oZ thr (by have:=S.mp;exact LN)
theorem Zn.falls (S:Zn wk dr ae ad M L x):∀(n i:Nat) {c d:Cr},L[i]?=ϓ->L[i+n]?=Ϡ->∀h∈c.1,∀g∈d.1,x g<=x h| 0,i,c,d,hc,hd,h,hh,g,hg=>by rw[Nat.add_zero,hc] at hd;cases hd;have:=S.same MQ hh hg;simp_all| n+1,i,c,d,hc,hd,h,hh,g,hg=>by have eX:=(aH.mp hd).1;have he:=aJ (by exact gD eX);obtain⟨g0,r0,e0⟩:=tO (S.ne _ (aG he));(have m0:g0∈(L[i+n]'(by exact gD eX)).1:=Τ);have a:=S.falls n i hc he h hh g0 m0;have b:=S.fall (i+n) _ _ he hd g0 m0 g hg;lia
theorem Zn.tight (S:Zn wk dr ae ad M L x)(v:Int):SH ae (λh=>decide (v<=x h)) x<=IW wk dr ad (λh=>decide (v<=x h))*M:=by unfold IW SH;rw[<-uH _ S.cp,<-uH _ S.hp,uG,uG,V1];refine Wg λc hc=>?_;obtain⟨i,hi⟩:=bf hc;obtain⟨h0,r0,e0⟩:=tO (S.ne c hc);(have m0:h0∈c.1:=Τ);by_cases q:v<=x h0;(have one:(c.1.map λh=>if decide (v<=x h)=tj then x h else 0).sum=x h0*c.1.length:=by(have:(c.1.map λh=>if decide (v<=x h)=tj then x h else 0)=c.1.map λ_=>x h0*1:=cq λh hh=>by rw[S.same hc hh m0,P8 (P9 q),Int.mul_one]);rw[this,<-VF];congr 1;induction c.1 with| nil=>rfl| cons y r ih=>grind);(have two:(c.2.map λk=>if(dr k).all (λh=>decide (v<=x h))=tj then wk k else 0).sum=Ub wk c:=by congr 1;refine cq λk hk=>P8 (i9.mpr λh hh=>P9 ?_);obtain⟨j,d,hj,hd,iI⟩:=S.up i c hi k hk h hh;have:=S.falls (i-j) j hd Τ h iI h0 m0;exact NAG.gl66 q this);rw[one,two,S.eq c hc h0 m0];simp_all;(have one:(c.1.map λh=>if decide (v<=x h)=tj then x h else 0).sum=0:=by(have:(c.1.map λh=>if decide (v<=x h)=tj then x h else 0)=c.1.map λ_=>0:=cq λh hh=>by rw[S.same hc hh m0,P7 (λz=>q (Qa z))]);rw[this];induction c.1 with| nil=>rfl| cons y r ih=>simp_all);rw[one];refine i6 ?_ (by have:=S.mp;exact LN);(have:(c.2.map λ_=>0).sum<=(c.2.map λk=>if(dr k).all (λh=>decide (v<=x h))=tj then wk k else 0).sum:=Wg λk _=>by have:=S.wp k;lia);(have z:∀l:Zw,(l.map λ_=>(0:Int)).sum=0:=λl=>by induction l with| nil=>rfl| cons y r ih=>simp_all);simp_all
end
end NAP
namespace NAM
open PySem NAL NAL.EX
noncomputable def XI:Zt->Int| []=>1| p::r=>p.2*XI r
theorem BX:∀{ps:Zt},(∀p∈ps,1<=p.2)->0<XI ps:=by intro r;induction r with| nil =>rintro _;decide| cons p r ih =>rintro h;have a:=h p aI;exact kC (by assumption) (ih λq hq=>h q (aY _ hq))
theorem qZ:∀{ps:Zt} {p:Zx},p∈ps->p.2∣XI ps| q::r,p,h=>by show p.2∣q.2*XI r;rcases JX with rfl | h;simp_all;exact o5 (qZ h) (Int.dvd_mul_left _ _)
theorem xr (l1:Yr)(l2:WZ q)(e:p.1*q.2=q.1*p.2):p=q:=by have h1:=l1.1;have h2:=l2.1;have e2:=Int.dvd_antisymm (by exact cE h1) (by exact cE h2) (uw l1.2 e).1 (uw l2.2 e.symm).1;grind[ka,Prod.ext]
noncomputable def xOf (qs:Zt) (M:Int) (h:Nat):Int:=(qs.getD h (0,1)).1*(M/(qs.getD h (0,1)).2)
theorem xt {qs:Zt}(hp:qs[h]?=ο)(hd:p.2∣M):xOf qs M h*p.2=p.1*M:=by grind[xOf,bC,iC,zM]
variable {ws:Zv}{aC:Zs}{ae:Nat}{L:Tm}{ps qs:Zt}
theorem l6:(L.take L.length).flatMap f=L.flatMap f:=Τ
theorem UW.of_hand (lk:UW ae L ps qs)(lo:Vd ws L ps)(co:UY ws aC ae L)(h0:0<ae)(hh:h<ae):∃(i:Nat) (c:NAP.Cr) (p:Zx),L[i]?=ϓ/\ps[i]?=ο/\h∈c.1/\qs[h]?=ο:=by have hm:=(uE co h0).mem_iff.mpr (dF.mpr hh);unfold Wi at hm;rw[l6] at hm;obtain⟨c,hc,iI⟩:=kj.mp hm;obtain⟨i,hi⟩:=bf hc;have hp:ps[i]?=se (ps[i]'(by rw[lo.len];exact 'l'.1)):=aJ _;exact#[i,c,_,hi,hp,iI,lk.at_ i c _ hi hp h iI]
theorem UW.sol (lk:UW ae L ps qs)(lo:Vd ws L ps)(co:UY ws aC ae L)(h0:0<ae)(hp:∀x∈ws,1<=x)(hM:0<M)(hd:∀p∈ps,p.2∣M):NAP.Zn LG Hn ae ws.length M L (xOf qs M):=by have K:=co.cr h0;(have Ws:∀{i:Nat} {c:NAP.Cr},L[i]?=ϓ->∃p,ps[i]?=ο/\p.2∣M/\Yr/\p.1*c.1.length=[Ϻ,c]*p.2/\∀h∈c.1,xOf qs M h*p.2=p.1*M:=λ{i c} hi=>by have hp:ps[i]?=se (ps[i]'(by rw[lo.len];exact 'l'.1)):=aJ _;have a:=lo.at_ i c _ hi hp;have d:=hd _ (aG hp);exact#[_,hp,d,a.1,a.2,λh hh=>xt (lk.at_ i c _ hi hp h hh) d]);refine#[by have:=uE co h0;unfold Wi at this;rwa [l6] at this,by have:=uF co h0;unfold Vx at this;rwa [l6] at this,λc hc=>co.rst c hc,K.ne,λc hc h hh=>?_,K.up,λi c d hc jY h hh g hg=>?_,λk=>qX hp k,hM];obtain⟨i,hi⟩:=bf hc;obtain⟨p,_,_,low,e,ex⟩:=Ws hi;refine ka (by have:=low.1;exact d9 this) ?_;rw[jt,ex h hh,jt,e,jt];obtain⟨p,hp1,_,low,_,ex⟩:=Ws hc;obtain⟨q,hq1,_,low',_,ey⟩:=Ws jY;have l1:=low.1;have l2:=low'.1;have pos:0<p.2*q.2:=kC (by assumption) (by assumption);refine tI (a:=p.2*q.2) ?_ (by exact cE pos);(have a1:xOf qs M g*(p.2*q.2)=q.1*p.2*M:=by rw[gu p.2 q.2,<-iC,ey g hg,jt]);(have a2:xOf qs M h*(p.2*q.2)=p.1*q.2*M:=by rw[<-iC,ex h hh,jt]);rw[a1,a2];exact mY (lo.falls co hp hc jY hp1 hq1) hM
theorem UW.qok (lk:UW ae L ps qs)(lo:Vd ws L ps)(co:UY ws aC ae L)(h0:0<ae)(hm:ae<=20)(hp:∀x∈ws,1<=x)(hb:∀x∈ws,Bd 300 x)(hw:ws.length<=20):QOk qs/\∀q∈qs,WZ q:=by(have all:∀q∈qs,WZ q/\0<=q.1/\q.2<=20/\Bd 400 q.1:=λq hq=>by obtain⟨h,hh⟩:=Hq;have hl:=(aH.mp hh).1;rw[lk.len] at hl;obtain⟨i,c,p,h1,h2,h3,h4⟩:=lk.of_hand lo co h0 hl;rw[hh] at h4;cases h4;exact lo.part co hm hp hb hw h1 h2);exact#[λq hq=>#[(all q hq).1.1,(all q hq).2.2.1,(all q hq).2.1,(all q hq).2.2.2],λq hq=>(all q hq).1]
section
end
end NAM
namespace NAP
theorem UD:∀l:υ,(l.map λ_=>(0:Int)).sum=0:=by intro r;induction r with| nil =>exact rfl| cons x r ih =>rw[bA,cy,ih];rfl
section
end
end NAP
namespace NAM
open PySem NAL NAL.EX
section
end
noncomputable def vl (M:Int) (p:Zx):Int:=p.1*(M/p.2)
theorem xu (h:p.2∣M):vl M p*p.2=p.1*M:=by unfold vl;rw[iC,zM h]
theorem I3:∀{l:Zv},(∀x∈l,0<=x)->0<=l.sum:=by intro r;induction r with| nil =>decide| cons x r ih =>rintro h;rw[cy];have:=h x aI;have:=ih λy hy=>h y (aY _ hy);lia
theorem xw (f:α->β)(d:α):∀l:υ,((aM l.length).map λh=>f (l.getD h d))='~':=λl=>by refine wv (by simp) λk h1 h2=>?_;(have h2:=by simpa using h2);simp[bC,h2]
theorem uI (f:Nat->Int):∀n,[Pr,f]=((aM n).map f).sum:=by intro n;induction n with| zero =>exact rfl| succ n ih =>rw[qF,cP,kF,NAP.upTo,ih];simp
theorem jD {l:Zw}(h:l.Nodup)(he:l[e]?=lT):l.idxOf a=e:=by grind
theorem I4 (S:Nat->Bool):NAP.bnd [tx,ts.length,ai] (gs++ts) S=NAP.upTo (λe=>if S e then 0 else gs.getD e 0) gs.length+NAP.upTo (λj=>if S (gs.length+j)then ts.getD j 0 else 0) ts.length:=by show NAP.upTo (λe=>if NAP.side [tx,ts.length,ai] S e then(gs++ts).getD e 0 else 0) (gs.length+ts.length)=_;rw[NAP.UG];congr 1;refine NAP.Qm λe he=>?_;have:NAP.side [tx,ts.length,ai] S e=! S e:=P8 he;grind;refine NAP.Qm λe he=>?_;have:NAP.side [tx,ts.length,ai] S (gs.length+e)=S (gs.length+e):=P7 (show¬gs.length+e<gs.length from NAG.gl82);rw[this,xm]
theorem BY:∀{ends:Zu} {ss:Zv} {k:Nat} {p:Nat×Nat} {s:Int},(∀(k:Nat) s,ss[k]?=Ϩ->0<=s)->ends[k]?=ο->ss[k]?=Ϩ->s<=NAP.load ends ss p.1| [],_,_,_,_,_,h,_=>by simp at h| _::_,[],_,_,_,_,_,h=>by simp at h| q::r,x::y,0,p,s,hn,h1,h2=>by simp at h1 h2;subst h1 h2;have:=BM r y q.1 λk s hs=>hn (k+1) s (by simpa using hs);simp only[NAP.load,NAP.Xo];simp;lia| q::r,x::y,k+1,p,s,hn,h1,h2=>by have ih:=BY (ends:=r) (ss:=y) (k:=k) (p:=p) (s:=s) (λk s hs=>hn (k+1) s (by simpa using hs)) (by simpa using h1) (by simpa using h2);have:=hn 0 x rfl;simp only[NAP.load];split<;>lia
section
end
end NAM
namespace NAP
structure Ev (own:(Nat->Bool)->Int)(ae:Nat)(x:Nat->Int):Prop where
 borne:∀T,own T<=SH ae T x
 tight:∀v:Int,SH ae (λh=>decide (v<=x h)) x<=own λh=>decide (v<=x h)
section
end
theorem Zn.ev (S:Zn wk dr ae ad M L x):Ev (λT=>IW wk dr ad T*M) ae x:=#[S.borne,S.tight]
end NAP
namespace NAL.EX
section
open PySem
end
end NAL.EX
namespace NAM
open PySem NAL NAL.EX
noncomputable def ownW (ws:Zv) (aC:Zs) (M:Int) (T:Nat->Bool):Int:=NAP.IW LG Hn ws.length T*M
def uJ (p:Zx):Prop:=Yr/\0<=p.1/\p.2<=20/\Bd 400 p.1
structure Borns (ws:Zv)(aC:Zs)(ae:Nat)(qs:Zt):Prop where
 len:qs.length=ae
 ok:∀q∈qs,uJ q
 ev:∃D:Int,0<D/\(∀q∈qs,q.2∣D)/\∀M:Int,0<M->D∣M->NAP.Ev (ownW ws aC M) ae (xOf qs M)
theorem I5 {ps qs:Zt}(co:UY ws aC ae L)(lo:Vd ws L ps)(lk:UW ae L ps qs)(h0:0<ae)(hm:ae<=20)(hp:∀x∈ws,1<=x)(hb:∀x∈ws,Bd 300 x)(hw:ws.length<=20):Borns ws aC ae qs:=by obtain⟨qok,qlow⟩:=lk.qok lo co h0 hm hp hb hw;(have low:∀p∈ps,1<=p.2:=λp hp=>by obtain⟨i,hi⟩:=bf hp;have k9:='l'.1;rw[lo.len] at k9;exact(lo.at_ i _ p (aJ k9) hi).1.1);refine#[lk.len,λq hq=>#[qlow q hq,(qok q hq).2.2.1,(qok q hq).2.1,(qok q hq).2.2.2],XI ps,BX low,λq hq=>?_,λM hM hd=>?_];obtain⟨h,hh⟩:=Hq;have hl:=(aH.mp hh).1;rw[lk.len] at hl;obtain⟨i,c,p,_,h2,_,h4⟩:=lk.of_hand lo co h0 hl;rw[hh] at h4;cases h4;exact qZ (aG h2);exact(lk.sol lo co h0 hp hM λp hp=>o5 (qZ hp) hd).ev
section
variable {ws:Zv}
theorem zb8 {q q':Zx}(hM:0<M)(l1:1<=q.2)(l2:1<=q'.2)(a1:x*q.2=q.1*M)(a2:x'*q'.2=q'.1*M)(h:x<=x'):q.1*q'.2<=q'.1*q.2:=by have pos:0<q.2*q'.2:=kC (by assumption) (by assumption);have:=oZ h (show 0<=q.2*q'.2 by exact cE pos);refine vP ?_ hM;(have c2:q'.1*q.2*M=x'*(q.2*q'.2):=by grind);lia
theorem uK (h:k<ws.length):Rn ws k=[KK,k]:=P8 h
end
end NAM
namespace NAL.EX
open PySem PySem.Spec PyProof.Rows
open Builtin Builtin.ObjectAttr
def zax (a C:Qh)(h:QF):Prop:=∃o vs,'8'=Υ/\o.cls=rv/\o.data=Lx
section
end
section
end
section
end
end NAL.EX
namespace NAL.EX
open PySem PySem.Spec PyProof.Rows
section
end
section
end
section
end
section
end
section
end
section
end
section
end
end NAL.EX
namespace NAL.RX
open PySem PySem.Spec PyProof.Rows NAL.EX
inductive D where
 | non | bl (b:Bool) | int (i:Int) | str (x:Qi) | lst (ds:Φ) | tup (ds:Φ) | dic (ks:Ϛ) (ds:Φ) | at (i:Nat) | fn (k:Nat)
inductive TM where
 | ml (ds:Φ) | mr (ns:Zv) | md (ks:Ϛ) (ds:Φ) | mi (c:Nat) (ds:Φ) | mx (c:Nat) | mf (k:Nat) | no
abbrev TH:=List TM
abbrev Rb:=List VK
structure Lam where
 qual:Qi
 params:Arguments
 body:QD
 scope:UU
structure CT where
 K:bj
 cl:Nat->Qh
 nm:Nat->Χ
 xc:Nat->Qh
 fa:Nat->Qh
 lm:Nat->Lam
 tb:Nat->Qh
 nl:Nat
section
end
section
end
def eg {α:Type} (l:υ) (n:Nat):HM:=bZ (motive:=λ_=>Nat->HM) (λ_=>ng) (λv _ ih n=>jx (motive:=λ_=>HM) ZJ (λm _=>ih m) n) l n
theorem aW:∀(l:List α) n,eg l n=l[n]?| [],n=>by simp[eg]| v::l,0=>rfl| v::l,n+1=>by rw[tP,<-aW l n];rfl
def WJ {α:Type} (l:υ) (n:Nat) (x:α):υ:=bZ (motive:=λ_=>Nat->υ) (λ_=>[]) (λv t ih n=>jx (motive:=λ_=>υ) (x::t) (λm _=>v::ih m) n) l n
theorem eJ (x:α):∀l n,WJ l n x=l.set n x| [],n=>rfl| v::l,0=>rfl| v::l,n+1=>by rw[pb,<-eJ x l n];rfl
def YH {α:Type} (l m:υ):υ:=bZ (motive:=λ_=>υ) m (λv _ ih=>v::ih) l
theorem gY (m:υ):∀l:υ,YH l m=l++m:=by intro l;induction l with| nil =>exact rfl| cons v l ih =>rw[pi,<-ih];rfl
def Rx {α:Type} (l:υ):Nat:=bZ (motive:=λ_=>Nat) 0 (λ_ _ ih=>iP ih) l
theorem aR:∀l:υ,Rx l=l.length:=by intro l;induction l with| nil =>exact rfl| cons v l ih =>rw[fS,<-ih];rfl
def QJ {α β:Type} (f:α->L3) (l:υ):Option Na:=bZ (motive:=λ_=>Option Na) (se []) (λv _ ih=>match f v with| some x=>(match ih with| some xs=>se (x::xs)| none=>ng)| none=>ng) l
theorem Qx {f:α->L3}{v:α}{l:υ}{ys:Na}:QJ f (v::l)=se ys↔∃x xs,f v=σ/\QJ f l=se xs/\ys=x::xs:=by show(match f v with| some x=>(match QJ f l with| some xs=>se (x::xs)| none=>ng)| none=>ng)=se ys↔_;cases f v with| none=>simp| some x=>cases QJ f l with| none=>simp| some xs=>exact#[λh=>#[x,xs,rfl,rfl,(c8 h).symm],λ#[_,_,h1,h2,h3]=>by cases h1;cases h2;rw[h3]]
noncomputable def X1:Int->Int->Bool| .ofNat a,.ofNat b=>bq a b| .ofNat _,.negSucc _=>ff| .negSucc _,.ofNat _=>tj| .negSucc a,.negSucc b=>bq b a
theorem gZ:∀x y:Int,X1 x y=decide (x<y)| .ofNat a,.ofNat b=>by rw[fG];simp[X1,bR]| .ofNat _,.negSucc _=>by simp[X1];lia| .negSucc _,.ofNat _=>by simp[X1];lia| .negSucc a,.negSucc b=>by rw[fG];simp[X1,bR];lia
noncomputable def YG:Int->Int->Bool| .ofNat a,.ofNat b=>bJ a b| .negSucc a,.negSucc b=>bJ a b| _,_=>ff
theorem jE:∀x y:Int,YG x y=decide (x=y)| .ofNat a,.ofNat b=>by rw[fG];simp[YG];lia| .ofNat _,.negSucc _=>by simp[YG]| .negSucc _,.ofNat _=>by simp[YG]| .negSucc a,.negSucc b=>by rw[fG];simp[YG]
def nEq (x y:Zw):Bool:=bZ (motive:=λ_=>Zw->Bool) (λl=>match l with| []=>tj| _=>ff) (λa _ ih l=>match l with| []=>ff| b::l=>bJ a b&&ih l) x y
theorem BZ:∀x y:Zw,nEq x y=decide (x=y)| [],[]=>rfl| [],_::_=>rfl| _::_,[]=>rfl| a::x,b::y=>by show(bJ a b&&nEq x y)=_;rw[BZ x y,fG];simp
def sEq (x y:Qi):Bool:=nEq x.cps.toList y.cps.toList
theorem l7 (x y:Qi):sEq x y=decide (x=y):=by unfold sEq;rw[BZ];congr 1;rw[eq_iff_iff];constructor;cases x;simp_all;simp_all
def Zl {α:Type} (l:υ):Int->HM| .ofNat k=>eg l k| .negSucc k=>bif bq k (Rx l)then eg l (Rx l-(k+1))else ng
theorem B1 {l:υ}{x:α}(h:Zl l i=σ):∃j,ixN l.length i=se j/\l[j]?=σ:=by cases i with| ofNat k =>(have e:l[k]?=σ:=by rwa [<-aW]);have lt:='<'.1;exact#[k,by unfold ixN;simp_all,e]| negSucc k =>(have h:(bif bq k l.length then eg l (l.length-(k+1))else ng)=σ:=by rwa [<-aR]);cases hb:bq k l.length with| false=>simp_all| true =>rw[hb] at h;(have e:l[l.length-(k+1)]?=σ:=by grind[aW]);have lt:=bR.mp hb;refine#[_,?_,e];unfold ixN;grind
inductive R (α:Type) where
 | ok (a:α) (h:TH) | ex (c:Nat) (h:TH) | no
inductive Fl where
 | nx (ρ:Rb) | rt (v:D)
abbrev RE:=Rb->TH->R D
abbrev RA:=Rb->TH->R Φ
abbrev RT:=Rb->TH->R Bool
abbrev RS:=Rb->TH->R Fl
noncomputable def R.bnd {α β:Type} (r:R α) (k:α->TH->R β):R β:=match r with| .ok a h=>k a h| .ex c h=>.ex c h| .no=>.no
def R.sat {α:Type}(r:R α)(P:α->TH->Prop)(E:Nat->TH->Prop):Prop:=match r with| .ok a h=>P a h| .ex c h=>E c h| .no=>False
theorem R.sat.bnd {r:R α}{k:α->TH->R β}{P:β->TH->Prop}(q:(r.bnd k).sat P E):r.sat (λa h=>(k a h).sat P E) E:=by cases r<;>exact q
theorem R.sat.mono {r:R α}{P P':α->TH->Prop}(q:r.sat P E)(f:∀a h,P a h->P' a h):r.sat P' E:=by cases r with| ok a h=>exact f a h q| ex c h=>exact q| no=>exact q
noncomputable def QL {α:Type} (o:HM) (k:α->R β):R β:=match o with| some a=>k a| none=>.no
inductive Ex2 {α:Type} (A B:α->Prop):Prop
 | mk (a:α) (x:A a) (y:B a)
theorem R.sat.o {o:HM}(q:(QL o k).sat P E):Ex2 (o=se ·) λa=>(k a).sat P E:=by cases o with| none=>exact q.elim| some a=>exact#[a,rfl,q]
noncomputable def Q3 {β:Type} (c:Bool) (k:R β):R β:=bif c then k else .no
theorem R.sat.i (q:(Q3 c k).sat P E):c=tj/\k.sat P E:=by cases c with| false=>exact q.elim| true=>exact#[rfl,q]
section
variable {ρ:Rb}
def rV (i:Nat):RE:=fun ρ h=>match eg ρ i with| some (se v)=>.ok v h| _=>.no
end
section
noncomputable def rC (d:D):RE:=λ_ h=>.ok d h
end
section
variable {ρ:Rb}{fa fb:RE}
noncomputable def Qr (g:D->D->TH->R D) (fa fb:RE):RE:=fun ρ h=>(fa ρ h).bnd λx h=>(fb ρ h).bnd λy h=>g x y h
end
section
variable {ρ:Rb}{fa:RE}
noncomputable def rUn (g:D->TH->R D) (fa:RE):RE:=fun ρ h=>(fa ρ h).bnd λx h=>g x h
end
section
noncomputable def Qg:RA:=λ_ h=>.ok [] h
end
section
variable {ρ:Rb}{fa:RE}{f:RA}
noncomputable def Qc (fa:RE) (f:RA):RA:=fun ρ h=>(fa ρ h).bnd λx h=>(f ρ h).bnd λxs h=>.ok (x::xs) h
end
section
variable {ρ:Rb}{f:RA}
noncomputable def Q4 (g:Φ->TH->R D) (f:RA):RE:=fun ρ h=>(f ρ h).bnd λxs h=>g xs h
end
section
variable {ρ:Rb}{fa:RE}
noncomputable def Qy (fa:RE):RT:=fun ρ h=>(fa ρ h).bnd λx h=>match x with| .bl b=>.ok b h| _=>.no
end
section
variable {ρ:Rb}{fT fU:RT}
noncomputable def Ul (fT fU:RT):RT:=fun ρ h=>(fT ρ h).bnd λb h=>bif b then fU ρ h else .ok ff h
end
section
variable {ρ:Rb}{fT fU:RT}
noncomputable def Zf (fT fU:RT):RT:=fun ρ h=>(fT ρ h).bnd λb h=>bif b then .ok tj h else fU ρ h
end
section
variable {ρ:Rb}{fT:RT}
noncomputable def Xa (fT:RT):RT:=fun ρ h=>(fT ρ h).bnd λb h=>.ok (! b) h
end
section
variable {ρ:Rb}{fa fb:RE}{fT:RT}
noncomputable def Zh (fT:RT) (fa fb:RE):RE:=fun ρ h=>(fT ρ h).bnd λb h=>bif b then fa ρ h else fb ρ h
end
section
variable {ρ:Rb}{fa fb:RE}
noncomputable def Uv (fa fb:RE):RE:=fun ρ h=>(fa ρ h).bnd λx h=>match x with| .bl b=>bif b then fb ρ h else .ok Nq h| _=>.no
end
section
variable {ρ:Rb}{fa fb:RE}
noncomputable def Ze (fa fb:RE):RE:=fun ρ h=>(fa ρ h).bnd λx h=>match x with| .bl b=>bif b then .ok TE h else fb ρ h| _=>.no
end
section
variable {ρ:Rb}{fa:RE}
noncomputable def rNotV (fa:RE):RE:=fun ρ h=>(fa ρ h).bnd λx h=>match x with| .bl b=>.ok (.bl (! b)) h| _=>.no
end
section
variable {ρ:Rb}{fs fu:RS}
noncomputable def Ql (fs fu:RS):RS:=fun ρ h=>(fs ρ h).bnd λx h=>match x with| .nx ρ=>fu ρ h| .rt v=>.ok Pi h
end
section
variable {ρ:Rb}
noncomputable def Q9:RS:=fun ρ h=>.ok NC h
end
section
variable {ρ:Rb}{fa:RE}
noncomputable def QU (fa:RE):RS:=fun ρ h=>(fa ρ h).bnd λx h=>.ok (.rt x) h
end
section
variable {ρ:Rb}{fa:RE}
noncomputable def TN (fa:RE):RS:=fun ρ h=>(fa ρ h).bnd λ_ h=>.ok NC h
end
section
variable {ρ:Rb}{fT:RT}{fs fu:RS}
noncomputable def Rc (fT:RT) (fs fu:RS):RS:=fun ρ h=>(fT ρ h).bnd λb h=>bif b then fs ρ h else fu ρ h
end
section
abbrev RG:=D->Rb->Option Rb
end
section
variable {ρ:Rb}
def rN (i:Nat):RG:=λd ρ=>se (WJ ρ i Ϡ)
end
section
variable {ρ:Rb}
@[irreducible] def VA (i j:Nat):RG:=λd ρ=>match d with| .tup [x,y]=>se (WJ (WJ ρ i σ) j Ϥ)| _=>ng
end
section
variable {ρ:Rb}
@[irreducible] def Yl (i j k:Nat):RG:=λd ρ=>match d with| .tup [x,y,z]=>se (WJ (WJ (WJ ρ i σ) j Ϥ) k (se z))| _=>ng
end
section
variable {ρ:Rb}{fa:RE}
noncomputable def Qz (fa:RE) (fg:RG):RS:=fun ρ h=>(fa ρ h).bnd λx h=>QL (fg x ρ) fun ρ=>.ok NC h
end
def eL (h:TH):D->Pd| .lst ds=>Pa| .at i=>(match eg h i with| some (.ml ds)=>Pa| _=>ng)| _=>ng
def eS (h:TH):D->Pd| .tup ds=>Pa| .lst ds=>Pa| .at i=>(match eg h i with| some (.ml ds)=>Pa| some (.mr ns)=>se KD| _=>ng)| _=>ng
def hn (h:TH):Nat:=Rx h
def hp (h:TH) (o:TM):TH:=YH h [o]
def hs (h:TH) (i:Nat) (o:TM):TH:=WJ h i o
def mk (m:Bool) (ds:Φ) (h:TH):R D:=bif m then .ok (.at Gl) (hp h (.ml ds))else .ok O8 h
section
noncomputable def QY:D->Bool| .tup _=>tj| _=>ff
end
section
end
section
theorem iD:hs h i t=[ϧ,t]:=eJ _ _ _
end
section
def big {α:Type} (l:υ):Bool:=[K7,Rx l]
end
section
end
section
variable {xs:Mf}
def SW (f:RA):RE:=fun ρ h=>(f ρ h).bnd λxs h=>Q3 (big xs) (.ok (.tup xs) h)
end
section
variable {xs:Mf}
def Rk (m:Bool) (f:RA):RE:=fun ρ h=>(f ρ h).bnd λxs h=>Q3 (big xs) (mk m xs h)
end
section
variable {x y:D}
noncomputable def gI (p:Int->Int->Bool) (g:Int->Int->D) (x y:D) (h:TH):R D:=match x,y with| .int i,.int j=>Q3 (p i j) (.ok (g i j) h)| _,_=>.no
end
section
noncomputable def pT (_ _:Int):Bool:=tj
end
section
noncomputable def pMul (i j:Int):Bool:=bq i.natAbs (2^4096)&&bq j.natAbs (2^4096)
end
section
noncomputable def pDiv (_ j:Int):Bool:=! YG j 0&&bq j.natAbs.log2 9000
end
section
noncomputable def pMod (_ j:Int):Bool:=X1 0 j
end
section
noncomputable def pPow (i j:Int):Bool:=! X1 j 0&&cf (i.natAbs.log2*j.natAbs+j.natAbs) 100000
end
section
noncomputable abbrev UN:=gI pT λi j=>.int (i-j)
end
section
noncomputable abbrev Sg:=gI pDiv λi j=>.int (i.fdiv j)
end
section
noncomputable abbrev Rg:=gI pMod λi j=>.int (i%j)
end
section
variable {x y:D}
def S8 (m:Bool) (x y:D) (h:TH):R D:=match x,y with| .int i,.int j=>.ok (.int (i+j)) h| .str i,.str j=>Q3 [K7,Rx i.cps.toList+Rx j.cps.toList] (.ok (.str #[#[YH i.cps.toList j.cps.toList]]) h)| x,y=>QL (eL h x) λa=>QL (eL h y) λb=>Q3 [K7,Rx a+Rx b] (mk m (YH a b) h)
end
section
theorem zb9 (i j:Qi):(#[#[YH i.cps.toList j.cps.toList]])=i++j:=by rw[gY];show _=(#[i.cps++j.cps]:Qi);simp_all
end
section
variable {d:D}
def eRep (n:Nat) (d:D):Φ:=jx (motive:=λ_=>Φ) [] (λ_ ih=>d::ih) n
end
section
variable {d:D}
theorem B2 (d:D):∀n,eRep n d=be n d:=by intro n;induction n with| zero =>exact rfl| succ n ih =>rw[nz,<-ih];rfl
end
section
variable {x:D}
theorem zdc (x:α):∀n:Nat,(be n [x]).flatten=be n x| 0=>rfl| n+1=>Τ
end
section
variable {d x y:D}
def Vs (m:Bool) (x y:D) (h:TH):R D:=match x,y with| .int i,.int j=>Q3 (pMul i j) (.ok (.int (i*j)) h)| x,.int (.ofNat n)=>(QL (eL h x) λl=>match l with| [d]=>Q3 [K7,n] (mk m (eRep n d) h)| _=>.no)| _,_=>.no
end
section
theorem zaH (h:pPow i j=tj):0<=j/\(Builtin.Int.intBits i)*j<=2^27:=by unfold pPow at h;rw[bW,gZ,jr,decide_eq_false_iff_not] at h;have:=b9 (uc _ (intBits_le_iff.mpr (show i.natAbs<_ from Nat.lt_log2_self))) (by rw[wK,wI];exact eE.mp h.2);lia
end
section
noncomputable abbrev gPow:=gI pPow λi j=>.int (i^j.natAbs)
end
section
variable {x:D}
noncomputable def X9 (x:D) (h:TH):R D:=match x with| .int i=>.ok (.int (-i)) h| _=>.no
end
section
variable {x y:D}
def nLt (x y:Zw):Bool:=bZ (motive:=λ_=>Zw->Bool) (λl=>match l with| []=>ff| _=>tj) (λa _ ih l=>match l with| []=>ff| b::l=>bq a b||(bJ a b&&ih l)) x y
end
section
variable {x y:D}
theorem B3:∀x y:Zw,nLt x y=decide (x<y)| [],[]=>by simp[nLt]| [],b::y=>by simp[nLt]| a::x,[]=>by simp[nLt]| a::x,b::y=>by show(bq a b||(bJ a b&&nLt x y))=_;rw[B3 x y,fG,mX,bW,bR,wL,decide_eq_true_iff,decide_eq_true_iff,List.cons_lt_cons_iff]
end
section
def Y6:D->D->TH->R D:=gI pT λi j=>.bl (X1 i j)
end
section
def X2:D->D->TH->R D:=gI pT λi j=>.bl (X1 j i)
end
section
def gGe:D->D->TH->R D:=gI pT λi j=>.bl (! X1 i j)
end
section
variable {x y:D}
def gLe (x y:D) (h:TH):R D:=match x,y with| .int i,.int j=>.ok (.bl (! X1 j i)) h| .str i,.str j=>.ok (.bl (! nLt j.cps.toList i.cps.toList)) h| _,_=>.no
end
section
noncomputable def isN:D->Bool| .non=>tj| _=>ff
end
section
variable {x y:D}
noncomputable def gIs (n:Bool) (x y:D) (h:TH):R D:=match y with| .non=>.ok (.bl (n^^isN x)) h| _=>.no
end
theorem iR {f:α->L3}:∀{l:List α} {m:List β},QJ f l=se m->m.length=l.length/\∀(i:Nat) x,l[i]?=σ->∃y,m[i]?=Ϥ/\f x=Ϥ:=by intro l;induction l with| nil =>rintro m e;cases e;exact#[rfl,λi x h=>by simp at h]| cons a l ih =>rintro m e;obtain⟨x,xs,h1,h2,rfl⟩:=Qx.mp e;obtain⟨h3,h4⟩:=ih h2;refine#[by simp[h3],λi y h=>?_];cases i with| zero=>cases h;exact#[x,rfl,h1]| succ i=>obtain⟨z,g1,g2⟩:=h4 i y (by exact h);exact#[z,by exact g1,g2]
noncomputable def TZ {α β:Type} (o:HM) (k:α->β):L3:=match o with| some a=>se (k a)| none=>ng
theorem ii (e:TZ o k=Ϥ):∃a,o=lT/\y=k a:=by cases o with| none=>cases e| some a=>cases e;simp_all
def fz (h:TH) (n:Nat) (m:Nat):D->VK:=jx (motive:=λ_=>D->VK) (λ_=>ng) (λ_ ih d=>match d with| .lst ds=>TZ (QJ ih ds) .lst| .tup ds=>TZ (QJ ih ds) .tup| .dic ks ds=>TZ (QJ ih ds) (.dic ks)| .at i=>(bif bq i n then se (.at i)else match eg h i with| some (.ml ds)=>TZ (QJ ih ds) .lst| _=>ng)| d=>Ϡ) m
def fzo (h:TH) (n:Nat):TM->Option TM| .ml ds=>TZ (QJ (fz h n 9) ds) .ml| .md ks ds=>TZ (QJ (fz h n 9) ds) (.md ks)| .mi c ds=>TZ (QJ (fz h n 9) ds) (.mi c)| t=>se t
def etk {α:Type} (n:Nat) (l:υ):υ:=jx (motive:=λ_=>υ->υ) (λ_=>[]) (λ_ ih l=>match l with| []=>[]| a::l=>a::ih l) n l
theorem q8:∀n (l:List α),etk n l=l.take n| 0,l=>by rfl| n+1,[]=>rfl| n+1,a::l=>by rw[List.take_succ_cons,<-q8 n l];rfl
noncomputable def trunc (n:Nat) (v:D) (h:TH):R D:=bif bJ (Rx h) n then .ok v h else QL (QJ (fzo h n) (etk n h)) λh0=>QL (fz h n 9 v) λv=>.ok v h0
def YJ (n c:Nat) (h:TH):R D:=bif bJ (Rx h) n then .ex c h else QL (QJ (fzo h n) (etk n h)) λh0=>.ex c h0
section
end
mutual
noncomputable def py:D->PyData
 | .non=>.none
 | .bl b=>.bool b
 | .int i=>.int i
 | .str x=>.str x
 | .lst ds=>.list (Zq ds)
 | .tup ds=>.tuple (Zq ds)
 | .dic _ _=>.none
 | .at _=>.none
 | .fn _=>.none
noncomputable def Zq:List D->List PyData
 | []=>[]
 | d::ds=>py d::Zq ds
end
def R9 (n:Nat):D->Bool:=jx (motive:=λ_=>D->Bool) (λ_=>ff) (λ_ ih d=>match d with| .lst ds=>bZ (motive:=λ_=>Bool) tj (λd _ r=>ih d&&r) ds| .tup ds=>bZ (motive:=λ_=>Bool) tj (λd _ r=>ih d&&r) ds| .dic _ _=>ff| .at _=>ff| .fn _=>ff| .str x=>bZ (motive:=λ_=>Bool) tj (λc _ r=>bq c 1114112&&r) x.cps.toList| _=>tj) n
def XU (n:Nat) (ds:Φ):Bool:=bZ (motive:=λ_=>Bool) tj (λd _ r=>R9 n d&&r) ds
theorem rd:XU n (d::ds)=(R9 n d&&XU n ds):=rfl
theorem B4:∀l:Zw,(bZ tj (λc _ r=>bq c 1114112&&r) l:Bool)=l.all (·<0x110000):=by intro l;induction l with| nil =>exact rfl| cons c l ih =>rw[Av,<-ih];show(bq c 1114112&&_)=_;congr 1;rw[fG,bR,decide_eq_true_iff]
mutual
theorem re:∀(n:Nat) (d:D),R9 n d=tj->Sh n (py d)
 | 0,d,h=>by cases h
 | n+1,.non,h=>#[by simp only[py,PyData.canLay0],by simp only[py,PyData.depth];lia]
 | n+1,.bl b,h=>by simp only[py];exact zaQ b
 | n+1,.int i,h=>by simp only[py];exact zbV i
 | n+1,.str x,h=>#[by
   simp only[py,PyData.canLay0];have z:(bZ (motive:=λ_=>Bool) tj (λc _ r=>bq c 1114112&&r) x.cps.toList:Bool)=tj:=h;rw[B4] at z;unfold PyData.strOk;rw[<-Array.all_toList];exact z,by simp only[py,PyData.depth];lia]
 | n+1,.lst ds,h=>by simp only[py];exact zeC (xy n ds h)
 | n+1,.tup ds,h=>by simp only[py];exact zc6 (xy n ds h)
 | n+1,.dic _ _,h=>by cases h
 | n+1,.at _,h=>by cases h
 | n+1,.fn _,h=>by cases h
theorem xy:∀(n:Nat) (ds:List D),XU n ds=tj->∀d∈Zq ds,Sh n d
 | n,[],_,d,hd=>by simp[Zq] at hd
 | n,e::ds,h,d,hd=>by
  rw[rd,bW] at h;simp only[Zq,aT] at hd;rcases hd with rfl | hd
  .exact re n e h.1
  .exact xy n ds h.2 d hd
end
def Zm (g:D->D->LH) (ds es:Φ):LH:=bZ (motive:=λ_=>Φ->LH) (λes=>match es with| []=>JM| _=>Jh) (λd _ ih es=>match es with| []=>Jh| e::r=>match g d e with| some tj=>ih r| some ff=>Jh| none=>ng) ds es
noncomputable def bEq (a b:Bool):Bool:=bif a then b else ! b
def dEq1 (ih:D->D->LH) (d e:D):LH:=match d,e with| .non,.non=>JM| .non,.str _=>Jh| .str _,.non=>Jh| .non,.tup _=>Jh| .tup _,.non=>Jh| .bl a,.bl b=>se (bEq a b)| .int i,.int j=>se (YG i j)| .str x,.str y=>se (sEq x y)| .lst ds,.lst es=>Zm ih ds es| .tup ds,.tup es=>Zm ih ds es| _,_=>ng
def YI (n:Nat):D->D->LH:=jx (motive:=λ_=>D->D->LH) (λ_ _=>ng) (λ_ ih=>dEq1 ih) n
theorem xz {g:D->D->LH}(hg:∀d e b,g d e=se b->PyData.eqv (py d) (py e)=b):∀{ds es:List D} {b:Bool},Zm g ds es=se b->PyData.eqvAll (Zq ds) (Zq es)=b| [],[],b,z=>by cases z;rfl| [],e::es,b,z=>by cases z;simp[Zq,PyData.eqvAll]| d::ds,[],b,z=>by cases z;simp[Zq,PyData.eqvAll]| d::ds,e::es,b,z=>by replace z:(match g d e with| some tj=>Zm g ds es| some ff=>Jh| none=>ng)=se b:=z;simp only[Zq,PyData.eqvAll];split at z;rename_i e1;rw[hg _ _ _ e1,xz hg z];rfl;all_goals grind
theorem Jd:∀(n:Nat) {d e:D} {b:Bool},YI n d e=se b->PyData.eqv (py d) (py e)=b:=by intro n;induction n with| zero =>rintro _ _ _ z;cases z| succ n ih =>rintro d e b z;have ih:∀d e b,YI n d e=se b->PyData.eqv (py d) (py e)=b:=λd e b=>ih;replace z:dEq1 (YI n) d e=se b:=z;(cases d<;>cases e<;>first |(cases z;done) |skip);(case bl.bl a c=>cases z;cases a<;>cases c<;>rfl);(case int.int=>cases z;simp only[py,PyData.eqv,jE];rfl);(case str.str=>cases z;simp only[py,PyData.eqv,l7];rfl);(case lst.lst=>exact xz ih z);(case tup.tup=>exact xz ih z);all_goals cases z;rfl
def SO (neg:Bool) (x y:D) (h:TH):R D:=QL (fz h 0 9 x) λx=>QL (fz h 0 9 y) λy=>Q3 (R9 60 x&&R9 60 y) (QL (YI 60 x y) λb=>.ok (.bl (neg^^b)) h)
noncomputable def Zc:D->Option V| .non=>se .non| .bl b=>se (.bl b)| .int i=>[ω,i]| .str x=>O7| _=>ng
def vEq:V->V->Bool| .non,.non=>tj| .bl a,.bl b=>bEq a b| .int i,.int j=>YG i j| .str x,.str y=>sEq x y| _,_=>ff
def WN:V->Nat| .non=>0| .bl _=>1| .int _=>2| .str _=>3| _=>4
def vIn (x:V) (ys:Mf):LH:=bZ (motive:=λ_=>LH) Jh (λy _ r=>bif bJ (WN y) (WN x)then TZ r λr=>vEq y x||r else ng) ys
def gInS (neg:Bool) (x y:D) (h:TH):R D:=QL (Zc x) λx=>QL (eS h y) λds=>QL (QJ Zc ds) λvs=>QL (vIn x vs) λb=>.ok (.bl (neg^^b)) h
def Xr:QK->QK->Bool| .inl i,.inl j=>YG i j| .inr x,.inr y=>sEq x y| _,_=>ff
theorem nX:∀k j:QK,Xr k j=decide (k=j)| .inl i,.inl j=>by show YG i j=_;rw[jE,fG];simp| .inr i,.inr j=>by show sEq i j=_;rw[l7,fG];simp| .inl i,.inr j=>by simp[Xr]| .inr i,.inl j=>by simp[Xr]
noncomputable def dk:D->Option QK| .int i=>se (.inl i)| .str x=>se (.inr x)| _=>ng
noncomputable def kd:QK->D| .inl i=>MA| .inr x=>ϋ
section
variable {ds:Φ}{ks:Ϛ}
def eK (h:TH):D->Option (Ϛ× Φ)| .dic ks ds=>se (ks,ds)| .at i=>(match eg h i with| some (.md ks ds)=>se (ks,ds)| _=>ng)| _=>ng
end
section
variable {ds:Φ}{ks:Ϛ}
def Xg (h:TH):D->Option (Nat× Ϛ× Φ)| .at i=>(match eg h i with| some (.md ks ds)=>se (i,ks,ds)| _=>ng)| _=>ng
end
section
variable {d:D}{v:V}{ks:Ϛ}{k:QK}
def lk (k:QK) (ks:Ϛ) (vs:Φ):VK:=bZ (motive:=λ_=>Φ->VK) (λ_=>ng) (λd _ ih vs=>bZ (motive:=λ_=>VK) ng (λv t _=>bif Xr d k then ZJ else ih t) vs) ks vs
end
section
variable {d:D}{ds:Φ}{ks:Ϛ}{k:QK}
theorem Je:lk k (j::ks) (d::ds)=bif Xr j k then Ϡ else lk k ks ds:=rfl
end
section
variable {d x y:D}{ds:Φ}
def gIx (x y:D) (h:TH):R D:=match x,y with| .str z,.int i=>QL (Zl z.cps.toList i) λc=>Q3 [K7,Rx z.cps.toList] (.ok (.str #[#[[c]]]) h)| x,.int i=>QL (eS h x) λds=>QL (Zl ds i) λd=>.ok d h| _,_=>.no
end
section
variable {d x y:D}{k:QK}
def gDg (x y:D) (h:TH):R D:=QL (eK h x) λp=>QL (dk y) λk=>QL (lk k p.1 p.2) λd=>.ok d h
end
section
variable {x:D}
def Yg (x:D) (h:TH):Bool:=match eK h x with| some _=>tj| none=>ff
end
section
variable {x y:D}
def Q5 (fa fb:RE):RE:=Qr (λx y h=>bif Yg x h then gDg x y h else gIx x y h) fa fb
end
section
variable {x y:D}{k:QK}
def Xd (neg:Bool) (x y:D) (h:TH):R D:=match eK h y with| some p=>(QL (dk x) λk=>match lk k p.1 p.2 with| some _=>.ok (.bl (neg^^tj)) h| none=>.ok (.bl (neg^^ff)) h)| none=>gInS neg x y h
end
section
variable {ds:Φ}{ks:Ϛ}
def mkD (m:Bool) (ks:Ϛ) (ds:Φ) (h:TH):R D:=bif m then .ok (.at Gl) (hp h (.md ks ds))else .ok (.dic ks ds) h
end
section
def XF (m:Bool):RE:=λ_ h=>mkD m [] [] h
end
section
variable {x:D}
def rFz (fa:RE):RE:=fun ρ h=>(fa ρ h).bnd λx h=>QL (Xg h x) λp=>.ok (.dic p.2.1 p.2.2) (hs h p.1 .no)
end
section
variable {ks:Ϛ}{k:QK}
def Uw (k:QK) (ks:Ϛ):Ϛ:=bZ (motive:=λ_=>Ϛ) [k] (λj t ih=>bif Xr j k then j::t else j::ih) ks
end
section
variable {d:D}{ds:Φ}{ks:Ϛ}{k:QK}
def VT (k:QK) (e:D) (ks:Ϛ) (ds:Φ):Φ:=bZ (motive:=λ_=>Φ->Φ) (λ_=>[e]) (λj _ ih ds=>bZ (motive:=λ_=>Φ) [e] (λd t _=>bif Xr j k then e::t else d::ih t) ds) ks ds
end
section
end
section
variable {d:D}{ks:Ϛ}{k:QK}
def X8 (k:QK) (ks:Ϛ):Bool:=bZ (motive:=λ_=>Bool) ff (λd _ ih=>Xr d k||ih) ks
end
section
variable {d:D}{ks:Ϛ}{k:QK}
theorem B5 (k:QK):∀ks,X8 k ks=tj↔k∈ks:=by intro ks;induction ks with| nil =>simp[X8]| cons d ks ih =>have:X8 k (d::ks)=(Xr d k||X8 k ks):=rfl;rw[this,mX,ih,nX,decide_eq_true_iff,aT,eq_comm]
end
section
variable {d:D}{ks:Ϛ}
def YL (ks:Ϛ):Bool:=bZ (motive:=λ_=>Bool) tj (λd t ih=>! X8 d t&&ih) ks
end
section
variable {d:D}{ks:Ϛ}
theorem uL:∀{ks:List QK},YL ks=tj->ks.Nodup:=by intro ks;induction ks with| nil =>rintro _;exact List.nodup_nil| cons d ks ih =>rintro e;replace e:(!X8 d ks&&YL ks)=tj:=e;rw[bW,jr] at e;exact eA.mpr #[λz=>(by rw[(B5 d ks).mpr z] at e;cases e.1),ih e.2]
end
section
variable {x y:D}{v:V}{k:QK}
def gDput (x y v:D) (ρ:Rb) (h:TH):R Fl:=QL (Xg h x) λp=>QL (dk y) λk=>Q3 (YL p.2.1&&bq (Rx p.2.1) 16777216) [ϱ,ρ,hs h p.1 (.md (Uw k p.2.1) (VT k v p.2.1 p.2.2))]
end
section
end
section
variable {d x y:D}{k:QK}
def Yd (fx fy fz:RE):RE:=fun ρ h=>(fx ρ h).bnd λx h=>Q3 (Yg x h)<|(fy ρ h).bnd λy h=>(fz ρ h).bnd λz h=>QL (eK h x) λp=>QL (dk y) λk=>match lk k p.1 p.2 with| some d=>.ok d h| none=>.ok z h
end
section
variable {ks:Ϛ}{k:QK}
def US (k:QK) (ks:Ϛ):Ϛ:=bZ (motive:=λ_=>Ϛ) [] (λj _ ih=>bif Xr j k then ih else j::ih) ks
end
section
variable {d:D}{ds:Φ}{ks:Ϛ}{k:QK}
def Ur (k:QK) (ks:Ϛ) (ds:Φ):Φ:=bZ (motive:=λ_=>Φ->Φ) (λ_=>[]) (λj _ ih ds=>bZ (motive:=λ_=>Φ) [] (λd t _=>bif Xr j k then ih t else d::ih t) ds) ks ds
end
section
variable {d x y:D}{k:QK}
def Y4 (fx fy:RE):RE:=fun ρ h=>(fx ρ h).bnd λx h=>Q3 (Yg x h)<|(fy ρ h).bnd λy h=>QL (Xg h x) λp=>QL (dk y) λk=>QL (lk k p.2.1 p.2.2) λd=>.ok d (hs h p.1 (.md (US k p.2.1) (Ur k p.2.1 p.2.2)))
end
section
variable {x:D}{ds:Φ}{xs:Mf}
def Rp (xs:Φ) (h:TH):R D:=match xs with| [.str x]=>Q3 [K7,MG] (.ok [PE,MG] h)| [x]=>(match eK h x with| some p=>.ok [PE,Rx p.1] h| none=>QL (eS h x) λds=>.ok [PE,NU] h)| _=>.no
end
section
def XV:D->Ty| .int i=>se i| _=>ng
end
section
def dBl:D->LH| .bl i=>se i| _=>ng
end
section
def YD (bs:NK):Bool:=bZ (motive:=λ_=>Bool) ff (λb _ r=>b||r) bs
end
section
def YU (bs:NK):Bool:=bZ (motive:=λ_=>Bool) tj (λb _ r=>b&&r) bs
end
section
theorem B6:∀bs,YD bs=bs.any id:=by intro bs;induction bs with| nil =>exact rfl| cons b bs ih =>rw[wC,<-ih];rfl
end
section
theorem Jf:∀bs,YU bs=bs.all id:=by intro bs;induction bs with| nil =>exact rfl| cons b bs ih =>rw[Av,<-ih];rfl
end
section
variable {x:D}{ds:Φ}{xs:Mf}
def XT (g:NK->Bool) (xs:Φ) (h:TH):R D:=match xs with| [x]=>QL (eL h x) λds=>QL (QJ dBl ds) λbs=>.ok (.bl (g bs)) h| _=>.no
end
section
theorem zcp (bs:NK):((aM bs.length).all λi=>[NO,i])=bs.all id:=by rw[fG,i9,i9];constructor;intro h b hb;obtain⟨i,hi⟩:=bf hb;have:=h i (dF.mpr 'l'.1);simp_all;intro h i hi;have hl:=dF.mp hi;have:=h bs[i] (kh hl);rwa [bC,aJ hl]
end
section
variable {d:D}
def iSum (ns:Zv):Int:=bZ (motive:=λ_=>Int) 0 (λd _ ih=>d+ih) ns
end
section
theorem B7:∀ns,iSum ns=ns.sum:=by intro ns;induction ns with| nil =>exact rfl| cons n ns ih =>rw[cy,<-ih];rfl
end
section
variable {x:D}{ds:Φ}{xs:Mf}
def gSum (xs:Φ) (h:TH):R D:=match xs with| [x]=>QL (eL h x) λds=>QL (QJ XV ds) λns=>.ok (.int (iSum ns)) h| _=>.no
end
section
variable {d:D}
def XR (n:Int) (ns:Zv):Int:=bZ (motive:=λ_=>Int->Int) (λn=>n) (λd _ ih n=>ih (bif X1 d n then d else n)) ns n
end
section
variable {d y:D}
theorem B8:∀ns n,XR n ns<=n/\(∀y∈ns,XR n ns<=y)/\XR n ns∈n::ns:=by intro ns;induction ns with| nil =>rintro n;exact#[cQ _,λy h=>(by simp at h),by simp[XR]]| cons d ns ih =>rintro n;have e:XR n (d::ns)=XR (bif X1 d n then d else n) ns:=rfl;obtain⟨h1,h2,h3⟩:=ih (bif X1 d n then d else n);rw[e];cases hb:X1 d n with| true =>(rw[hb] at h1 h2 h3;rw[gZ] at hb;exact#[cE (zN h1 (by simpa using hb)),λy hy=>by rcases aT.mp hy with rfl | hy;exact h1;exact h2 y hy,aY _ h3])| false =>rw[hb] at h1 h2 h3;rw[gZ] at hb;exact#[h1,λy hy=>by rcases aT.mp hy with rfl | hy;exact gq h1 (by simpa using hb);exact h2 y hy,by rcases aT.mp h3 with z | z;exact aT.mpr (.inl z);exact aY _ (aY _ z)]
end
section
variable {x:D}{ds:Φ}{xs:Mf}
def gMin (xs:Φ) (h:TH):R D:=match xs with| [x]=>(QL (eL h x) λds=>QL (QJ XV ds) λns=>match ns with| n::ns=>.ok (.int (XR n ns)) h| []=>.no)| [.int i,.int j]=>.ok (.int (bif X1 j i then j else i)) h| _=>.no
end
section
end
section
variable {xs:Mf}
def gAbs (xs:Φ) (h:TH):R D:=match xs with| [.int i]=>.ok (.int (bif X1 i 0 then-i else i)) h| _=>.no
end
section
variable {ks:Ϛ}{k:QK}
def kds (ks:Ϛ):Φ:=bZ (motive:=λ_=>Φ) [] (λk _ r=>kd k::r) ks
end
section
variable {x:D}{ds:Φ}{xs:Mf}
def V6 (m:Bool) (xs:Φ) (h:TH):R D:=match xs with| [x]=>(match eK h x with| some p=>mk m (kds p.1) h| none=>QL (eS h x) λds=>mk m ds h)| _=>.no
end
section
variable {k:QK}
def prK:D->Option QK| .tup [k,_]=>dk k| _=>ng
end
section
variable {v:V}
def prV:D->VK| .tup [_,v]=>ZJ| _=>ng
end
section
end
section
variable {x:D}{ds:Φ}{ks:Ϛ}{xs:Mf}
def Vt (m:Bool) (xs:Φ) (h:TH):R D:=match xs with| [x]=>(match eK h x with| some p=>mkD m p.1 p.2 h| none=>QL (eL h x) λds=>QL (QJ prK ds) λks=>QL (QJ prV ds) λes=>Q3 (YL ks) (mkD m ks es h))| _=>.no
end
section
variable {f:RA}
def FAt (N:Χ)(f:Qi)(n:Nat):Prop:=N[n]?=se f/\∀m,m<n->N[m]?≠se f
end
section
end
section
end
section
end
section
variable {ds:Φ}
def Y8 (c:Nat) (h:TH):D->Option (Nat× Φ)| .at i=>(match eg h i with| some (.mi c' ds)=>bif bJ c' c then se (i,ds)else ng| _=>ng)| _=>ng
end
section
variable {d x:D}{fa:RE}
def QP (c n:Nat) (fa:RE):RE:=fun ρ h=>(fa ρ h).bnd λx h=>QL (Y8 c h x) λp=>QL (eg p.2 n) λd=>.ok d h
end
section
variable {x y:D}{fa:RE}
def W9 (c n:Nat) (fa fv:RE):RS:=fun ρ h=>(fv ρ h).bnd λy h=>(fa ρ h).bnd λx h=>QL (Y8 c h x) λp=>Q3 (cf n (Rx p.2)) [ϱ,ρ,hs h p.1 (.mi c (bif bq n (Rx p.2)then WJ p.2 n y else YH p.2 [y]))]
end
noncomputable def cutTx (z:Qi) (lo hi:Ty):Qi:=if(Builtin.Str.strSliceIndices lo hi 1 z.length).length==z.length then z else#[((Builtin.Str.strSliceIndices lo hi 1 z.length).filterMap (z.cps[·]?)).toArray]
theorem part_of (p:IsPart v o):∃q:Option (Int×Tok),v=partValue q/\q.map (·.1)=o:=by cases p with| none=>exact#[ng,rfl,rfl]| int i t=>exact#[se (i,t),rfl,rfl]
section
abbrev RO:=Rb->TH->R Ty
end
section
noncomputable def rO0:RO:=λ_ h=>.ok ng h
end
section
variable {x:D}{fa:RE}
noncomputable def Zp (fa:RE):RO:=fun ρ h=>(fa ρ h).bnd λx h=>match x with| .int i=>.ok (se i) h| _=>.no
end
section
variable {ds:Φ}
def cutD (ds:Φ) (lo hi:Ty):Φ:=(ds.drop [ZU,0,lo]).take ([ZU,ds.length,hi]-[ZU,0,lo])
end
section
variable {x:D}{ds:Φ}
def gSl (m:Bool) (x:D) (l u:Ty) (h:TH):R D:=match x with| .str z=>Q3 [K7,(cutTx z l u).length] (.ok (.str (cutTx z l u)) h)| .tup ds=>Q3 (!(bJ [ZU,0,l] 0&&bJ [ZU,ds.length,u] ds.length)) (.ok (.tup (cutD ds l u)) h)| x=>QL (eS h x) λds=>mk m (cutD ds l u) h
end
section
variable {x:D}{fa:RE}
def rSl (m:Bool) (fa:RE) (fl fu:RO):RE:=fun ρ h=>(fa ρ h).bnd λx h=>(fl ρ h).bnd λl h=>(fu ρ h).bnd λu h=>gSl m x l u h
end
section
variable {d:D}{ds:Φ}
def YS (ds:Φ) (b:Bool):Φ:=bZ (motive:=λ_=>Bool->Φ) (λ_=>[]) (λd _ ih b=>match b with| true=>d::ih ff| false=>ih tj) ds b
end
section
variable {x:D}{ds:Φ}{fa:RE}
def Yz (m b:Bool) (fa:RE):RE:=fun ρ h=>(fa ρ h).bnd λx h=>QL (eL h x) λds=>mk m (YS ds b) h
end
section
variable {ds:Φ}
def UZ (h:TH):D->Option (Nat× Φ)| .at i=>(match eg h i with| some (.ml ds)=>se (i,ds)| _=>ng)| _=>ng
end
section
variable {x y:D}{v:V}
def gSet (x y v:D) (ρ:Rb) (h:TH):R Fl:=match y with| .int (.ofNat k)=>QL (UZ h x) λp=>Q3 (bq k (Rx p.2)) [ϱ,ρ,hs h p.1 (.ml (WJ p.2 k v))]| _=>.no
end
section
end
section
variable {x y:D}{v:V}
def XE (fv fx fy:RE):RS:=fun ρ h=>(fv ρ h).bnd λv h=>(fx ρ h).bnd λx h=>(fy ρ h).bnd λy h=>bif Yg x h then gDput x y v ρ h else gSet x y v ρ h
end
section
variable {x y:D}
def XH (op:Int->Int->Int) (fx fy fe:RE):RS:=fun ρ h=>(fx ρ h).bnd λx h=>(fy ρ h).bnd λy h=>match y with| .int (.ofNat k)=>QL (UZ h x) λp=>QL (eg p.2 k) λu=>QL (XV u) λu=>(fe ρ h).bnd λz h=>QL (XV z) λz=>QL (UZ h x) λp=>Q3 (bq k (Rx p.2)) [ϱ,ρ,hs h p.1 (.ml (WJ p.2 k (.int (op u z))))]| _=>.no
end
section
variable {x y:D}{fa:RE}{f:RA}
def Wr (fa:RE) (f:RA):RE:=fun ρ h=>(fa ρ h).bnd λx h=>QL (UZ h x) λ_=>(f ρ h).bnd λys h=>match ys with| [y]=>QL (UZ h x) λp=>Q3 (bq (Rx p.2) 16777216) [ZW,hs h p.1 (.ml (YH p.2 [y]))]| _=>.no
end
section
variable {x y:D}{fa:RE}{f:RA}
def rExt (fa:RE) (f:RA):RE:=fun ρ h=>(fa ρ h).bnd λx h=>QL (UZ h x) λ_=>(f ρ h).bnd λys h=>match ys with| [y]=>QL (UZ h x) λp=>QL (eL h y) λes=>Q3 [K7,Rx p.2+Rx es] [ZW,hs h p.1 (.ml (YH p.2 es))]| _=>.no
end
section
variable {d:D}{ds:Φ}
def YB (ds:Φ):Φ:=bZ (motive:=λ_=>Φ) [] (λd t ih=>bZ (motive:=λ_=>Φ) [] (λ_ _ _=>d::ih) t) ds
end
section
variable {d:D}{ds:Φ}
theorem uM:∀ds:Φ,YB ds=ds.dropLast| []=>rfl| [d]=>rfl| d::e::t=>by rw[List.dropLast_cons₂,<-uM (e::t)];rfl
end
section
variable {x y:D}{fa:RE}
def Xl (fa:RE):RE:=fun ρ h=>(fa ρ h).bnd λx h=>QL (UZ h x) λp=>QL (eg p.2 (Rx p.2-1)) λy=>.ok y (hs h p.1 (.ml (YB p.2)))
end
section
end
section
variable {d:D}
def XS (n:Int) (ns:Zv):IX:=bZ (motive:=λ_=>IX) ng (λd _ ih=>bif YG d n then se 0 else TZ ih iP) ns
end
section
variable {d y:D}
theorem zar {n:Int}:∀{ns:Zv} {j:Nat},XS n ns=se j->ns[j]?=se n/\∀(m:Nat) y,m<j->ns[m]?=Ϥ->y≠n:=by intro ns;induction ns with| nil =>rintro _ e;cases e| cons d ns ih =>rintro j e;replace e:(bif YG d n then se 0 else TZ (XS n ns) iP)=se j:=e;rw[jE] at e;by_cases z:d=n;rw[P9 z] at e;cases e;exact#[by rw[z];rfl,λm y h=>by simp_all];rw[Qb z] at e;obtain⟨i,e1,rfl⟩:=ii e;obtain⟨h1,h2⟩:=ih e1;refine#[by exact h1,λm y hm hy=>?_];cases m with| zero=>cases hy;exact z| succ m=>exact h2 m y (by simp_all) (by exact hy)
end
section
variable {x:D}{ds:Φ}{fa:RE}{f:RA}
def rIdx (fa:RE) (f:RA):RE:=fun ρ h=>(fa ρ h).bnd λx h=>QL (eL h x) λ_=>(f ρ h).bnd λys h=>match ys with| [.int n]=>QL (eL h x) λds=>QL (QJ XV ds) λns=>QL (XS n ns) λj=>.ok [PE,j] h| _=>.no
end
section
def dUp (k n:Nat):Φ:=jx (motive:=λ_=>Nat->Φ) (λ_=>[]) (λ_ ih k=>[PE,k]::ih (iP k)) n k
end
section
variable {x:D}{fa:RE}
def WO (m:Bool) (fa:RE):RE:=fun ρ h=>(fa ρ h).bnd λx h=>match x with| .int (.ofNat n)=>Q3 (cf n 1000) (mk m (dUp 0 n) h)| _=>.no
end
abbrev Nx:=TH->Nat->Option VK
abbrev RI:=Rb->TH->R Nx
section
variable {d:D}{ds:Φ}
def VE (d:D):Nx:=λh i=>TZ (eS h d) λds=>eg ds i
end
section
def nKs (ks:Ϛ):Nx:=λ_ i=>se (TZ (eg ks i) kd)
end
section
variable {x:D}
def nStr (x:Qi):Nx:=λ_ i=>bif cf i MG then se (TZ (eg x.cps.toList i) λc=>.str #[#[[c]]])else ng
end
section
variable {x:D}{fa:RE}
def SB (fa:RE):RI:=fun ρ h=>(fa ρ h).bnd λx h=>match x with| .dic ks _=>.ok (nKs ks) h| .str z=>.ok (nStr z) h| x=>QL (eS h x) λ_=>.ok (VE x) h
end
section
def nRg (n:Nat):Nx:=λ_ i=>se (bif bq i n then[ω,.ofNat i]else ng)
end
section
variable {xs:Mf}{f:RA}
def rIr (f:RA):RI:=fun ρ h=>(f ρ h).bnd λxs h=>match xs with| [.int (.ofNat n)]=>Q3 (bq n (2^62)) (.ok (nRg n) h)| _=>.no
end
section
end
section
end
section
variable {d x:D}{ds:Φ}
def nEn (d:D):Nx:=λh i=>TZ (eS h d) λds=>TZ (eg ds i) λx=>.tup [[PE,i],x]
end
section
variable {x:D}{fa:RE}
def Y3 (fa:RE):RI:=fun ρ h=>(fa ρ h).bnd λx h=>QL (eS h x) λ_=>Q3 (! ϩ) (.ok (nEn x) h)
end
section
variable {d x:D}{ds:Φ}{xs:Mf}
def eZ (h:TH) (i:Nat) (ds:Φ):Option Pd:=bZ (motive:=λ_=>Option Pd) (se (se [])) (λd _ ih=>match eS h d with| none=>ng| some xs=>match ih with| none=>ng| some ng=>Oa| some (se ys)=>match eg xs i with| some x=>se (se (x::ys))| none=>Oa) ds
end
section
end
section
end
section
variable {ds:Φ}
def nZp (ds:Φ):Nx:=λh i=>TZ (eZ h i ds) λo=>TZ o .tup
end
section
variable {x y:D}{fa fb:RE}
def Zg (fa fb:RE):RI:=fun ρ h=>(fa ρ h).bnd λx h=>(fb ρ h).bnd λy h=>QL (eS h x) λ_=>QL (eS h y) λ_=>.ok (nZp [x,y]) h
end
section
variable {x y:D}{fa fb fc:RE}
def rIz3 (fa fb fc:RE):RI:=fun ρ h=>(fa ρ h).bnd λx h=>(fb ρ h).bnd λy h=>(fc ρ h).bnd λz h=>QL (eS h x) λ_=>QL (eS h y) λ_=>QL (eS h z) λ_=>.ok (nZp [x,y,z]) h
end
section
variable {d:D}{ds:Φ}
def nRv (d:D) (n:Nat):Nx:=λh i=>bif bq i n then match eS h d with| some ds=>bif bJ NU n then se (eg ds (n-1-i))else ng| none=>ng else bif bJ i n then Oa else ng
end
section
variable {x:D}{ds:Φ}{fa:RE}
def rIv (fa:RE):RI:=fun ρ h=>(fa ρ h).bnd λx h=>QL (eS h x) λds=>Q3 (! ϩ) (.ok (nRv x NU) h)
end
section
variable {d x:D}{v:V}{nx:Nx}{fs:RS}{fg:RG}
def rGo (nx:Nx) (fg:RG) (fs:RS) (m:Nat):Nat->RS:=jx (motive:=λ_=>Nat->RS) (λ_ _ _=>.no) (λ_ ih i ρ h=>match nx h i with| some ng=>.ok NC h| some (se d)=>(QL (fg d ρ) fun ρ=>(fs ρ h).bnd λx h=>match x with| .nx ρ=>ih (iP i) ρ h| .rt v=>.ok Pi h)| none=>.no) m
end
section
variable {d x:D}{v:V}{nx:Nx}{fs:RS}{fg:RG}
theorem B9:rGo nx fg fs (m+1) i ρ h=match nx h i with| some ng=>.ok NC h| some (se d)=>(QL (fg d ρ) fun ρ=>(fs ρ h).bnd λx h=>match x with| .nx ρ=>rGo nx fg fs m (i+1) ρ h| .rt v=>.ok Pi h)| none=>.no:=rfl
end
section
variable {nx:Nx}{fs:RS}{fi:RI}{fg:RG}
def Sj (fi:RI) (fg:RG) (fs:RS):RS:=fun ρ h=>(fi ρ h).bnd λnx h=>rGo nx fg fs 1000 0 ρ h
end
section
variable {x:D}{v:V}{nx:Nx}{fT:RT}{fs:RS}
def Yk (fT:RT) (fs:RS) (m:Nat):RS:=jx (motive:=λ_=>RS) (λ_ _=>.no) (λ_ ih ρ h=>(fT ρ h).bnd λb h=>bif b then(fs ρ h).bnd λx h=>match x with| .nx ρ=>ih ρ h| .rt v=>.ok Pi h else .ok NC h) m
end
section
end
section
variable {fT:RT}{fs:RS}
open Classical in
def Uk (w:IX) (fT:RT) (fs:RS):RS:=fun ρ h=>match w with
 | some m=>Yk fT fs m ρ h
 | none=>if k:∃m,Yk fT fs m ρ h≠.no then Yk fT fs k.choose ρ h else .no
end
section
noncomputable def R.nox {α:Type} (r:R α):R α:=match r with| .ok a h=>.ok a h| _=>.no
end
section
theorem R.sat.unx {r:R α}{P:α->TH->Prop}(q:r.nox.sat P E):r.sat P E':=by cases r with| ok a h=>exact q| ex c h=>exact q.elim| no=>exact q.elim
end
section
theorem R.sat.unb {r:R α}{k:α->TH->R β}{P:β->TH->Prop}(q:r.sat (λa h=>(k a h).sat P E) E):(r.bnd k).sat P E:=by cases r<;>exact q
end
section
variable {d y:D}{fa:RE}{nx:Nx}{fT:RT}{fg:RG}
def Ye (nx:Nx) (fg:RG) (fT:RT) (fa:RE) (ρ:Rb) (m:Nat):Nat->TH->R Φ:=jx (motive:=λ_=>Nat->TH->R Φ) (λ_ _=>.no) (λ_ ih i h=>match nx h i with| some ng=>.ok [] h| some (se d)=>QL (fg d ρ) fun ρ=>(fT ρ h).nox.bnd λb h=>bif b then(fa ρ h).nox.bnd λy h=>(ih (iP i) h).bnd λys h=>.ok (y::ys) h else ih (iP i) h| none=>.no) m
end
section
variable {d y:D}{fa:RE}{nx:Nx}{fT:RT}{fg:RG}
theorem pI:Ye nx fg fT fa ρ (m+1) i h=match nx h i with| some ng=>.ok [] h| some (se d)=>QL (fg d ρ) fun ρ'=>(fT ρ' h).nox.bnd λb h=>bif b then(fa ρ' h).nox.bnd λy h=>(Ye nx fg fT fa ρ m (i+1) h).bnd λys h=>.ok (y::ys) h else Ye nx fg fT fa ρ m (i+1) h| none=>.no:=rfl
end
section
variable {v:V}
def Yp (ρ:Rb) (fr:Zw):Rb:=bZ (motive:=λ_=>Rb) [] (λj _ ih=>(match eg ρ j with| some v=>v| none=>ng)::ih) fr
end
section
variable {v:V}
theorem Cd:Yp ρ (j::js)=(match ρ[j]? with| some v=>v| none=>ng)::Yp ρ js:=by rw[<-aW];rfl
end
section
variable {fa:RE}{nx:Nx}{fT:RT}{fi:RI}{fg:RG}
def VS (m:Bool) (fi:RI) (n:Nat) (fr:Zw) (fg:RG) (fT:RT) (fa:RE):RE:=fun ρ h=>(fi ρ h).bnd λnx h=>(Ye nx fg fT fa (be n ng++Yp ρ fr) 1000 0 h).bnd λys h=>mk m ys h
end
section
variable {c:Nat}{ev:Φ->TH->R D}{x:Qi}{fa:RE}
def Qo (c:Nat) (ev:Φ->TH->R D) (fa:RE) (f:RA):RE:=fun ρ h=>(fa ρ h).bnd λx h=>QL (Y8 c h x) λ_=>(f ρ h).bnd λxs h=>ev (x::xs) h
end
section
variable {c:Nat}{ev:Φ->TH->R D}
def V5 (c:Nat) (ev:Φ->TH->R D) (xs:Φ) (h:TH):R D:=(ev (.at Gl::xs) (hp h (.mi c []))).nox.bnd λv h'=>match v with| .non=>[ν,.at Gl]| _=>.no
end
section
end
def Vj (ds:Φ) (k:Nat):Rb:=bZ (motive:=λ_=>Rb) (be k ng) (λd _ ih=>Ϡ::ih) ds
theorem Ce (k:Nat):∀ds,Vj ds k=ds.map se++be k none:=by intro ds;induction ds with| nil =>exact rfl| cons d ds ih =>rw[bA,pi,<-ih];rfl
def Sl (keep:Bool) (n k:Nat) (f:RS) (ds:Φ) (h:TH):R D:=Q3 (bJ NU n) (match f (Vj ds k) h with| .ok (.nx _) h'=>bif keep then[ν,.non]else[IV,Rx h,h']| .ok (.rt v) h'=>bif keep then[ν,v]else trunc (Rx h) v h'| .ex c h'=>bif keep then .ex c h' else YJ (Rx h) c h'| .no=>.no)
section
end
section
variable {fa fb:RE}{x y:Qi}
def rDz (m:Bool) (fa fb:RE):RE:=fun ρ h=>(fa ρ h).bnd λx h=>(fb ρ h).bnd λy h=>QL (eS h x) λds=>QL (eS h y) λes=>QL (QJ dk ds) λks=>Q3 (YL ks&&(bJ (Rx ks) (Rx es)&&cf (Rx ks) 1000)) (mkD m ks es h)
end
section
end
section
def W8 (ks:Ϛ) (ds:Φ) (ls:Ϛ) (es:Φ):Ϛ× Φ:=bZ (motive:=λ_=>Φ->Ϛ->Φ->Ϛ× Φ) (λ_ ks ds=>(ks,ds)) (λl _ ih es ks ds=>bZ (motive:=λ_=>Ϛ× Φ) (ks,ds) (λe t _=>ih t (Uw l ks) (VT l e ks ds)) es) ls es ks ds
end
section
variable {k:Nat}
theorem zac {k:QK}:∀{ks:List QK},ks.Nodup->(Uw k ks).Nodup/\∀j,j∈Uw k ks->j=k\/j∈ks:=by intro ks;induction ks with| nil =>rintro _;exact#[by simp[Uw],λj h=>.inl (by grind[Uw])]| cons j ks ih =>rintro h;have e1:Uw k (j::ks)=bif Xr j k then j::ks else j::Uw k ks:=rfl;have h2:=eA.mp h;obtain⟨n,m⟩:=ih h2.2;rw[e1,nX];by_cases z:j=k;lia;rw[Qb z];refine#[eA.mpr #[λhm=>(m j hm).elim z h2.1,n],λi hi=>?_];grind
end
section
variable {fa fb:RE}{x y:Qi}
def rUpd (fa fb:RE):RE:=fun ρ h=>(fa ρ h).bnd λx h=>Q3 (Yg x h)<|(fb ρ h).bnd λy h=>QL (Xg h x) λp=>QL (Xg h y) λr=>Q3 (! Nat.beq p.1 r.1&&(YL p.2.1&&cf (Rx p.2.1+Rx r.2.1) 1000)) [ZW,hs h p.1 (.md (W8 p.2.1 p.2.2 r.2.1 r.2.2).1 (W8 p.2.1 p.2.2 r.2.1 r.2.2).2)]
end
section
variable {x:Qi}
def YR:D->Jw| .str x=>σ| _=>ng
end
section
variable {k:Nat}
def Zd (k:Qi) (ks:Χ):Bool:=bZ (motive:=λ_=>Bool) ff (λd _ ih=>sEq d k||ih) ks
end
section
variable {k:Nat}
theorem zeA (k:Qi):∀ks,Zd k ks=decide (k∈ks):=by intro ks;induction ks with| nil =>simp[Zd]| cons d ks ih =>have:Zd k (d::ks)=(sEq d k||Zd k ks):=rfl;rw[this,ih,l7,fG,mX,decide_eq_true_iff,decide_eq_true_iff,decide_eq_true_iff,aT];lia
end
section
variable {k:Nat}
def Yy (ks:Χ):Χ->Χ:=bZ (motive:=λ_=>Χ->Χ) (λacc=>acc) (λk _ ih acc=>ih (bif Zd k acc then acc else YH acc [k])) ks
end
section
variable {k:Nat}
theorem Cf:∀ks acc,Yy ks acc=ks.foldl (λacc k=>if k∈acc then acc else acc++[k]) acc:=by intro ks;induction ks with| nil =>rintro acc;exact rfl| cons k ks ih =>rintro acc;have:Yy (k::ks) acc=Yy ks (bif Zd k acc then acc else YH acc [k]):=rfl;rw[this,ih,pj,zeA,gY];lia
end
section
variable {fa:RE}{x:Qi}
def rLs (fa:RE):RE:=fun ρ h=>(fa ρ h).bnd λx h=>QL (eS h x) λds=>QL (QJ YR ds) λks=>Q3 (! ϩ&&cf (Rx ks) 1000) (.ok [PE,Rx (Yy ks [])] h)
end
section
variable {fa fb fc:RE}{x y:Qi}
def XG (g g':D->D->TH->R D) (fa fb fc:RE):RE:=fun ρ h=>(fa ρ h).bnd λx h=>(fb ρ h).bnd λy h=>(g x y h).bnd λz h=>match z with| .bl b=>bif b then(fc ρ h).bnd λu h=>g' y u h else .ok Nq h| _=>.no
end
section
variable {k:Nat}
def rLam (k:Nat):RE:=λ_ h=>.ok (.at Gl) (hp h (.mf k))
end
section
variable {k:Nat}
def eMf (h:TH):D->IX| .at i=>(match eg h i with| some (.mf k)=>se k| _=>ng)| _=>ng
end
section
variable {k:Nat}{fa:RE}{x:Qi}
def Ym (lb:Nat->Option (Nat×RE)) (fa:RE) (f:RA):RE:=fun ρ h=>(fa ρ h).bnd λx h=>QL (eMf h x) λk=>(f ρ h).bnd λxs h=>QL (eMf h x) λk=>QL (lb k) λp=>Q3 (bJ (Rx xs) p.1) (p.2 (Vj xs 0) h).nox
end
section
end
section
end
section
end
section
end
abbrev TV (_N:Χ):=VS
noncomputable def Rf:RT:=λ_ h=>.ok tj h
noncomputable def YO (N:Χ) (f:Qi) (n:Nat):Bool:=match N,n with| [],_=>ff| g::_,0=>g==f| g::N,n+1=>!(g==f)&&YO N f n
theorem Cg:∀{N:List Qi} {f:Qi} {n:Nat},YO N f n=tj->FAt N f n| g::N,f,0,h=>#[by rw[show g=f from beq_iff_eq.mp h];rfl,λm hm=>absurd hm (kI _)]| g::N,f,n+1,h=>by obtain⟨h1,h2⟩:=qq.mp h;obtain⟨i1,i2⟩:=Cg h2;refine#[i1,λm hm=>?_];cases m with| zero=>simpa using h1| succ m=>exact i2 m (Nat.lt_of_succ_lt_succ hm)
theorem xC:∀{N:List Qi} {f:Qi} {n:Nat},YO N f n=tj->N.contains f=tj| g::N,f,0,h=>by rw[show g=f from beq_iff_eq.mp h];simp| g::N,f,n+1,h=>by have:=xC (qq.mp h).2;simp_all
noncomputable def tn:Nat->String| 0=>"NoneType"| 1=>"bool"| 2=>"int"| 3=>"str"| 4=>"list"| 5=>"tuple"| _=>"dict"
def tc (h:TH):D->IX| .non=>se 0| .bl _=>se 1| .int _=>se 2| .str _=>se 3| .lst _=>se 4| .tup _=>se 5| .at i=>(match eg h i with| some (.ml _)=>se 4| some (.mr _)=>se 4| some (.md _ _)=>se 6| _=>ng)| _=>ng
noncomputable def isBn (t c:Nat):Bool:=bJ t c||(bJ t 1&&bJ c 2)
section
end
def Y2 (c:Nat) (fa:RE):RE:=fun ρ h=>(fa ρ h).bnd λx h=>QL (tc h x) λt=>.ok (.bl (isBn t c)) h
noncomputable def TL:RS:=λ_ _=>.no
def YK (i:Nat) (f:RS):RS:=fun ρ h=>(f ρ h).bnd λx h=>match x with| .nx ρ=>(match eg ρ i with| some (se d)=>QL (Xg h d) λp=>[ϱ,WJ ρ i (se (.dic p.2.1 p.2.2)),hs h p.1 .no]| _=>.no)| .rt v=>.ok Pi h
section
variable {f g:RS}{ρ ρ':Rb}{h h':TH}
theorem l8 (z:f ρ h=[ν,HU]):Ql f g ρ h=g ρ' h':=by unfold Ql;rw[z];rfl
end
section
end
section
variable {f g:RS}{ρ:Rb}{h h':TH}{d:D}
theorem Ch (z:f ρ h=[ν,.rt d]):Ql f g ρ h=[ν,.rt d]:=by unfold Ql;rw[z];rfl
end
section
variable {f g:RS}{fT:RT}{ρ:Rb}{h h':TH}
theorem jg (z:fT ρ h=[ν,tj]):Rc fT f g ρ h=f ρ h':=by unfold Rc;rw[z];rfl
end
section
variable {f g:RS}{fT:RT}{ρ:Rb}{h h':TH}
theorem g8 (z:fT ρ h=[ν,ff]):Rc fT f g ρ h=g ρ h':=by unfold Rc;rw[z];rfl
end
section
variable {fa:RE}{ρ ρ':Rb}{h h':TH}{d:D}{fg:RG}
theorem iE (z:fa ρ h=[ν,d])(k:fg d ρ=se ρ'):Qz fa fg ρ h=[ν,HU]:=by unfold Qz;rw[z];show QL (fg d ρ) _=_;rw[k];rfl
end
section
variable {fa fb:RE}{ρ:Rb}{h h' h2:TH}{d e:D}
theorem aD {o:D->D->TH->R D}{r:R D}(z1:fa ρ h=[ν,d])(z2:fb ρ h'=.ok e h2)(z3:o d e h2=r):Qr o fa fb ρ h=r:=by unfold Qr;rw[z1];show[϶,fb ρ h']=_;rwa [z2]
end
section
end
section
variable {fa fb:RE}{ρ:Rb}{h h' h2:TH}{d:D}{l:Φ}
theorem Ci {i:Int}(z1:fa ρ h=[ν,Z0])(z2:fb ρ h'=.ok MA h2)(z3:Zl l i=Ϡ):Q5 fa fb ρ h=.ok d h2:=by unfold Q5;refine aD z1 z2 ?_;show gIx Z0 MA h2=_;unfold gIx;show QL (Zl l i) _=_;rw[z3];rfl
end
section
end
section
end
section
end
section
end
section
end
section
variable {f:RS}{h h' h2:TH}{e:D}
theorem Jk {keep:Bool}{n k:Nat}{ds:Φ}{v:D}(hn:ds.length=n)(z:f (Vj ds k) h=[ν,Pi])(t:trunc (Rx h) v h'=.ok e h2):Sl ff n k f ds h=.ok e h2:=by unfold Sl;rwa [z,aR,hn,show bJ n n=tj from gE n]
end
section
variable {f:RS}{h h':TH}
theorem pJ {n k:Nat}{ds:Φ}{v:D}(hn:ds.length=n)(z:f (Vj ds k) h=[ν,Pi])(hl:h'.length=h.length):Sl ff n k f ds h=[ν,v]:=Jk (keep:=ff) hn z (by unfold trunc;rw[aR,aR,hl,show bJ h.length h.length=tj from gE _];rfl)
end
section
end
def fnK (m n k:Nat) (f:RS) (ds:Φ) (h:TH):R D:=Q3 (bJ NU n) (match f (Vj ds k) h with| .ok (.nx _) h'=>Q3 (cf (Rx h+m) (Rx h')) [IV,Rx h+m,h']| .ok (.rt v) h'=>Q3 (cf (Rx h+m) (Rx h')) (trunc (Rx h+m) v h')| _=>.no)
section
end
section
end
section
end
section
end
section
end
section
end
section
end
section
end
section
end
section
end
section
end
open PySem NAL.EX
section
variable {f g:RS}{fT:RT}{fa:RE}{ρ ρ':Rb}{h h' h2:TH}{d e v w:D}{l:Φ}{x y:Int}{n m:Nat}{o:TM}
theorem gF:Gl=h.length:=aR h
theorem gG:hp h o=h++[o]:=gY _ _
theorem eq_int:SO neg Z8 Ih h=.ok (.bl (neg^^decide (x=y))) h:=by rw[<-jE];rfl
theorem eq_str {x y:Qi}(hx:R9 60 ϋ=tj)(hy:R9 60 (.str y)=tj):SO neg ϋ (.str y) h=.ok (.bl (neg^^decide (x=y))) h:=by rw[<-l7];show Q3 (R9 60 ϋ&&R9 60 (.str y)) _=_;rw[hx,hy];rfl
theorem lt_int:Y6 Z8 Ih h=.ok [Pn,x<y] h:=by rw[<-gZ];rfl
theorem gt_int:X2 Z8 Ih h=.ok [Pn,y<x] h:=by rw[<-gZ];rfl
theorem le_int:gLe Z8 Ih h=.ok [Pn,x<=y] h:=by show[NR,! X1 y x,h]=_;rw[gZ];congr 2;rw[fG];simp
theorem ge_int:gGe Z8 Ih h=.ok [Pn,y<=x] h:=by show[NR,! X1 x y,h]=_;rw[gZ];congr 2;rw[fG];simp
theorem add_int {m:Bool}:S8 m Z8 Ih h=.ok (.int (x+y)) h:=rfl
theorem sub_int:UN Z8 Ih h=.ok (.int (x-y)) h:=rfl
theorem mod_int (p:0<y):Rg Z8 Ih h=.ok (.int (x%y)) h:=by show Q3 (pMod x y) _=_;unfold pMod;rw[gZ,P9 p];rfl
theorem V7 {i:Nat}:Zl l i=l[i]?:=aW _ _
theorem Cj:Zl l (-1)=l.getLast?:=by show(bif bq 0 (Rx l)then eg l (Rx l-1)else ng)=_;rw[aR,aW];cases l with| nil=>rfl| cons x l =>rw[show bq 0 (x::l).length=tj from bR.mpr (Nat.succ_pos _),o8];rfl
def cd (n:Nat):Nat->D->Prop| 0,_=>False| m+1,.lst ds=>∀d∈ds,cd n m d| m+1,.tup ds=>∀d∈ds,cd n m d| m+1,.dic _ ds=>∀d∈ds,cd n m d| _+1,.at i=>i<n| _+1,_=>True
theorem xD {n n':Nat}(hn:n<=n'):∀(m:Nat) {d:D},cd n m d->cd n' m d:=by intro m;induction m with| zero =>rintro _ z;exact z.elim| succ m ih =>rintro d z;cases d with| lst ds=>exact λd hd=>ih (z d hd)| tup ds=>exact λd hd=>ih (z d hd)| dic ks ds=>exact λd hd=>ih (z d hd)| «at» i=>exact gz (show i<n from z) hn| _=>trivial
theorem Ck:∀(m:Nat) {d:D} {k:Nat},cd n m d->cd n (m+k) d:=by intro m;induction m with| zero =>rintro _ _ z;exact z.elim| succ m ih =>rintro d k z;rw[Az];cases d with| lst ds=>exact λd hd=>ih (z d hd)| tup ds=>exact λd hd=>ih (z d hd)| dic ks ds=>exact λd hd=>ih (z d hd)| «at» i=>exact z| _=>trivial
theorem jh {f:D->VK}:∀{l:List D},(∀x∈l,f x=σ)->QJ f l=te:=by intro l;induction l with| nil =>rintro _;exact rfl| cons x l ih =>rintro h;exact Qx.mpr #[x,l,h x (.head _),ih λy hy=>h y (.tail _ hy),rfl]
theorem fV:∀(m:Nat) {d:D},cd n m d->fz h n m d=Ϡ:=by intro m;induction m with| zero =>rintro d z;exact z.elim| succ m ih =>rintro d z;cases d with| lst ds=>show TZ (QJ (fz h n m) ds) _=_;rw[jh λx hx=>ih (z x hx)];rfl| tup ds=>show TZ (QJ (fz h n m) ds) _=_;rw[jh λx hx=>ih (z x hx)];rfl| dic ks ds=>show TZ (QJ (fz h n m) ds) _=_;rw[jh λx hx=>ih (z x hx)];rfl| «at» i =>show(bif bq i n then se (D.at i) else _)=_;rw[bR.mpr (show i<n from z)];rfl| non=>rfl| bl _=>rfl| int _=>rfl| str _=>rfl| fn _=>rfl
def ct (n:Nat):TM->Prop| .ml ds=>∀d∈ds,cd n 9 d| .md _ ds=>∀d∈ds,cd n 9 d| .mi _ ds=>∀d∈ds,cd n 9 d| _=>True
def Cl (h:TH):Prop:=∀o∈h,ct h.length o
theorem nY (hn:n<=n')(z:ct n o):ct n' o:=by cases o with| ml ds=>exactλd hd=>xD hn 9 (z d hd)| md ks ds=>exactλd hd=>xD hn 9 (z d hd)| mi c ds=>exactλd hd=>xD hn 9 (z d hd)| _=>trivial
theorem Cl.app (z:Ϣ)(zo:ct (h.length+1) o):Cl (h++[o]):=λp hp=>by rw[eU,vZ];rcases dE.mp hp with hp | hp;exact nY (lV _) (z p hp);simp_all
theorem Cl.set (z:Ϣ)(zo:ct h.length o):Cl [ϧ,o]:=λp hp=>by rw[eD];rcases zX hp with hp | rfl;exact z p hp;exact zo
theorem rf (z:ct n o):fzo h n o=Υ:=by cases o with| ml ds=>show TZ (QJ (fz h n 9) ds) _=_;rw[jh λx hx=>fV 9 (z x hx)];rfl| md ks ds=>show TZ (QJ (fz h n 9) ds) _=_;rw[jh λx hx=>fV 9 (z x hx)];rfl| mi c ds=>show TZ (QJ (fz h n 9) ds) _=_;rw[jh λx hx=>fV 9 (z x hx)];rfl| mr _=>rfl| mx _=>rfl| mf _=>rfl| no=>rfl
theorem xE {f:TM->Option TM}:∀{l:TH},(∀x∈l,f x=σ)->QJ f l=te:=by intro l;induction l with| nil =>rintro _;exact rfl| cons x l ih =>rintro h;exact Qx.mpr #[x,l,h x (.head _),ih λy hy=>h y (.tail _ hy),rfl]
theorem bH (e:h'.length=n):trunc n v h'=[ν,v]:=by unfold trunc;rw[aR,e,show bJ n n=tj from gE _];rfl
theorem uN (c:Ϣ)(z:fz (h++t) h.length 9 v=se w)(nt:t≠[]):[Yv,v,h++t]=.ok w h:=by unfold trunc;rw[aR,show bJ (h++t).length h.length=ff from gj.mpr λz=>by exact nt (nj.mp Τ)];rw[q8,Ao,xE λx hx=>rf (c x hx)];rw[z];rfl;rfl
theorem pK (c:Ϣ)(z:cd h.length 9 v):[Yv,v,h++t]=.ok v h:=by by_cases nt:t=[];subst nt;rw[lN];exact LQ;exact uN c (fV 9 z) nt
theorem pL (c:Ϣ)(hi:h.length<=i)(e:(h++t)[i]?=[ϥ,l])(z:∀d∈l,cd h.length 8 d):[Yv,.at i,h++t]=.ok Z0 h:=by refine uN c ?_ ?_;show(bif[Hh,i]then se (D.at i)else match eg (h++t) i with| some (.ml ds)=>TZ (QJ [MI,h++t,8] ds) .lst| _=>ng)=_;rw[show[Hh,i]=ff from gj.mpr λz=>by have:=Mo;exact NAG.gl0 this hi,aW,e];grind[TZ,QJ,fz,jh,fV];grind
section
variable {nx:Nx}{fg:RG}{fs:RS}{L:Φ}
theorem Cm (Inv:Nat->Rb->TH->Prop)(hx:∀i ρ h,Inv i ρ h->nx h i=se (L[i]?))(hs:∀i d ρ h,L[i]?=Ϡ->Inv i ρ h->∃ ρ1 ρ2 h2,fg d ρ=ZR/\fs ρ1 h=[ϱ,ρ2,h2]/\Inv (i+1) ρ2 h2) :∀m i ρ h,i<=L.length->L.length<i+m->Inv i ρ h->∃ ρ' h',rGo nx fg fs m i ρ h=[ν,HU]/\Inv L.length ρ' h'| 0,i,ρ,h,h1,h2,_=>absurd h2 (by simp[*])| m+1,i,ρ,h,h1,h2,k=>by rw[B9,hx i ρ h k];by_cases lt:i<L.length;obtain⟨ρ1,ρ2,h3,q1,q2,q3⟩:=hs i _ ρ h (aJ lt) k;obtain⟨ρ',h',q4,q5⟩:=Cm Inv hx hs m (i+1) ρ2 h3 lt Pf q3;grind[QL,R.bnd];grind
theorem zcP (Inv:Nat->Rb->TH->Prop)(he:fi ρ h=[ν,nx])(hx:∀i ρ h,Inv i ρ h->nx h i=se (L[i]?))(hl:L.length<1000)(h0:Inv 0 ρ h')(hs:∀i d ρ h,L[i]?=Ϡ->Inv i ρ h->∃ ρ1 ρ2 h2,fg d ρ=ZR/\fs ρ1 h=[ϱ,ρ2,h2]/\Inv (i+1) ρ2 h2) :∃ ρ2 h2,Sj fi fg fs ρ h=[ϱ,ρ2,h2]/\Inv L.length ρ2 h2:=by obtain⟨ρ2,h2,q,k⟩:=Cm Inv hx hs 1000 0 ρ h' (jb _) (by assumption) h0;refine#[ρ2,h2,?_,k];unfold Sj;rwa [he]
theorem Cn {l:XK}{g:γ->D}{v:γ->D}(hx:∀i,nx h i=se ('K'[i]?))(hs:∀a∈l,∃ ρ1,fg (g a) ρ=ZR/\fT ρ1 h=.ok (p a) h/\(p a=tj->fa ρ1 h=.ok (v a) h)) :∀m i,i<=l.length->l.length<i+m->Ye nx fg fT fa ρ m i h=.ok (((l.drop i).filter p).map v) h| 0,i,h1,h2=>absurd h2 (by simp[*])| m+1,i,h1,h2=>by rw[pI,hx,bo];by_cases lt:i<l.length;obtain⟨ρ1,q1,q2,q3⟩:=hs l[i] (kh lt);have ih:=Cn hx hs m (i+1) lt Pf;rw[aJ lt,qz lt,kg];show QL (fg (g l[i]) ρ) _=_;rw[q1];show[϶,(fT ρ1 h).nox]=_;rw[q2];show(bif p l[i]then[϶,(fa ρ1 h).nox]else _)=_;(cases hb:p l[i]with| false=>exact ih| true =>rw[q3 hb];show[϶,Ye nx fg fT fa ρ m (i+1) h]=_;rw[ih];rfl);grind
theorem uO {l:XK}{g:γ->D}{v:γ->D}(he:fi ρ h=[ν,nx])(hx:∀i,nx h' i=se ('K'[i]?))(hl:l.length<1000)(hs:∀a∈l,∃ ρ1,fg (g a) (be n ng++Yp ρ fr)=ZR/\fT ρ1 h'=[ν,p a]/\(p a=tj->fa ρ1 h'=[ν,v a])) :TV N b fi n fr fg fT fa ρ h=mk b ('z'.map v) h':=by show VS b fi n fr fg fT fa ρ h=_;unfold VS;rw[he];show[϶,Ye nx fg fT fa _ 1000 0 h']=_;rw[Cn hx hs 1000 0 (jb _) (by assumption)];rfl
theorem uP {l:XK}{g:γ->D}{v:γ->D}(he:fi ρ h=[ν,nx])(hx:∀i,nx h' i=se ('K'[i]?))(hl:l.length<1000)(hs:∀a∈l,∃ ρ1,fg (g a) (be n ng++Yp ρ fr)=ZR/\fa ρ1 h'=[ν,v a]) :TV N b fi n fr fg Rf fa ρ h=mk b (l.map v) h':=by have z:=uO (N:=N) (b:=b) (fT:=Rf) he hx hl λa ha=>let #[ρ1,e1,e2]:=hs a ha;#[ρ1,e1,rfl,λ_=>e2];rwa [show l.filter (λ_=>tj)=l from tR.mpr λ_ _=>rfl] at z
theorem zaK {l:XK}{g:γ->D}(Inv:Nat->Rb->TH->Prop)(he:fi ρ h=[ν,nx])(hx:∀i ρ h,Inv i ρ h->nx h i=se ('K'[i]?))(hl:l.length<1000)(h0:Inv 0 ρ h')(hs:∀i a ρ h,l[i]?=lT->Inv i ρ h->∃ ρ1 ρ2 h2,fg (g a) ρ=ZR/\fs ρ1 h=[ϱ,ρ2,h2]/\Inv (i+1) ρ2 h2) :∃ ρ2 h2,Sj fi fg fs ρ h=[ϱ,ρ2,h2]/\Inv l.length ρ2 h2:=by(obtain⟨ρ2,h2,q,k⟩:=zcP Inv he hx Τ h0 λi d ρ h hd I=>by rw[bo,jc] at hd;obtain⟨a,ha,rfl⟩:=hd;exact hs i a ρ h ha I);grind
theorem cU (i:Nat):VE Z0 h i=se (l[i]?):=by show se (eg l i)=_;rw[aW]
theorem rg (i:Nat):nRg n h i=se (((aM n).map λk:Nat=>D.int k)[i]?):=by show se (bif bq i n then se [H7,i]else ng)=_;rw[bo];by_cases z:i<n;rw[bR.mpr z,ju z];rfl;rw[show bq i n=ff from gj.mpr λy=>z (bR.mp y),eG Τ];rfl
theorem Co (i:Nat):nEn Z0 h i=se ((l.zipIdx.map λp=>D.tup [.int p.2,p.1])[i]?):=by show se (TZ (eg l i) λx=>D.tup [[PE,i],x])=_;rw[aW,bo,lJ];cases l[i]? with| none=>rfl| some x=>simp[TZ]
theorem Cp (i:Nat):nZp [Z0,.lst l'] h i=se (((l.zip l').map λp=>D.tup [p.1,p.2])[i]?):=by show TZ (eZ h i [Z0,.lst l']) _=_;rw[bo];unfold List.zip;rw[v3];unfold eZ;simp only[eS,aW];cases l[i]?<;>cases l'[i]?<;>rfl
theorem Cq (i:Nat):nZp [Z0,.lst l',.lst l2] h i=se (((l.zip (l'.zip l2)).map λp=>D.tup [p.1,p.2.1,p.2.2])[i]?):=by show TZ (eZ h i [Z0,.lst l',.lst l2]) _=_;rw[bo];unfold List.zip;rw[v3,v3];unfold eZ;simp only[eS,aW];cases l[i]?<;>cases l'[i]?<;>cases l2[i]?<;>rfl
end
theorem uQ:Yk fT fs (m+1) ρ h=(fT ρ h).bnd λb h=>bif b then(fs ρ h).bnd λx h=>match x with| .nx ρ=>Yk fT fs m ρ h| .rt v=>.ok Pi h else .ok NC h:=rfl
theorem Cs {fs:RS}:∀(m:Nat) {ρ:Rb} {h:TH} {k:Nat},Yk fT fs m ρ h≠.no->Yk fT fs (m+k) ρ h=Yk fT fs m ρ h:=by intro m;induction m with| zero =>rintro _ _ _ z;exact absurd rfl z| succ m ih =>rintro ρ h k z;rw[Az,uQ,uQ];rw[uQ] at z;cases e:fT ρ h with| ex c h=>rfl| no=>rfl| ok b h1 =>rw[e] at z;cases b with| false=>rfl| true =>replace z:(R.bnd (fs ρ h1) λx h=>match x with| .nx ρ=>Yk fT fs m ρ h| .rt v=>.ok (.rt v) h) ≠ .no:=z;show(R.bnd (fs ρ h1) λx h=>match x with| .nx ρ=>Yk fT fs (m+k) ρ h| .rt v=>.ok (.rt v) h)=_;show _=(R.bnd (fs ρ h1) λx h=>match x with| .nx ρ=>Yk fT fs m ρ h| .rt v=>.ok (.rt v) h);cases e2:fs ρ h1 with| ex c h=>rfl| no=>rfl| ok y h3 =>rw[e2] at z;cases y with| rt v=>rfl| nx ρ2=>exact ih z
open Classical in
theorem zbd {fs:RS}(z:Yk fT fs m ρ h≠.no):Uk ng fT fs ρ h=Yk fT fs m ρ h:=by
 have k:∃m,Yk fT fs m ρ h≠.no:=#[m,z];show(if k:∃m,Yk fT fs m ρ h≠.no then Yk fT fs k.choose ρ h else .no)=_
 rw[dif_pos k,<-Cs m (k:=k.choose) z,<-Cs k.choose (k:=m) k.choose_spec,qL]
theorem Jo {fs:RS}(Inv:Nat->Rb->TH->Prop)(iB:Rb->TH->Prop)(hs:∀m ρ h,Inv m ρ h->∃b h1,fT ρ h=[ϲ,b]/\(b=tj->∃ ρ2 h2 m',fs ρ h1=[ϱ,ρ2,h2]/\m'<m/\Inv m' ρ2 h2)/\(b=ff->iB ρ h1))(h0:Inv n ρ h) :∃ ρ' h',Uk ng fT fs ρ h=[ν,HU]/\iB ρ' h':=by(have A:∀k m ρ h,m<k->Inv m ρ h->∃ ρ' h',Yk fT fs k ρ h=[ν,HU]/\iB ρ' h':=λk=>by induction k with| zero=>intro m ρ h lt;simp_all| succ k ih =>intro m ρ h lt I;obtain⟨b,h1,e1,e2,e3⟩:=hs m ρ h I;rw[uQ,e1];cases b with| false=>exact#[ρ,h1,rfl,e3 rfl]| true =>obtain⟨ρ2,h2,m',e4,lt',I'⟩:=e2 rfl;obtain⟨ρ',h',e5,p⟩:=ih m' ρ2 h2 (by lia) I';refine#[ρ',h',?_,p];show(R.bnd (fs ρ h1) _)=_;rw[e4];exact e5);obtain⟨ρ',h',e,p⟩:=A (n+1) n ρ h (iO _) h0;exact#[ρ',h',(zbd (by rw[e];intro z;cases z)).trans e,p]
theorem xF (hn:ds.length=n)(z:f (Vj ds k) h=[ν,HU])(t:[Yv,.non,h']=.ok e h2):Sl ff n k f ds h=.ok e h2:=by unfold Sl;rwa [z,aR,hn,show bJ n n=tj from gE n,aR]
theorem rj (hn:ds.length=n)(z:f (Vj ds k) h=[ν,Pi])(t:[Yv,v,h']=.ok e h2):Sl ff n k f ds h=.ok e h2:=by unfold Sl;rwa [z,aR,hn,show bJ n n=tj from gE n,aR]
end
end NAL.RX
namespace NAM
open PySem PySem.Spec PyProof.Rows NAL NAL.EX NAL.RX
abbrev Wx:RS:=(Ql (XH qy [ϑ,0,3] (rV 7) (Q5 [ϑ,0,2] ϐ)) (TN (Wr (Q5 [ϑ,0,4] (rV 7)) (Qc ϐ Qg))))
abbrev X6:RS:=(Sj (SB ϸ) (rN 7) Wx)
def Vb:=fnK 2 5 3 [ς,W9 0 0 (ζ) (Q4 Rp (Qc ε Qg)),W9 0 1 (ζ) (TV ["give","take","self"] ff JW 2 [0] (VA 0 1) Rf (SW [ϯ,Qc [ϻ,QP 0 0 θ,ε] Qg])),[ς,W9 0 2 (ζ) (Q4 (V6 tj) (Qc μ Qg)),W9 0 3 (ζ) (Qr (S8 tj) ε θ),Ql (W9 0 4 (ζ) (TV ["end"] ff (SB [ϑ,0,3]) 1 [] ϙ Rf (Rk tj Qg))) (Sj (Y3 [ϑ,0,1]) (VA 5 6) X6)]]
def Re:=Sl ff 1 0 (QU (TV ["give","self"] ff (rIr (Qc [ϑ,0,0] Qg)) 1 [0] ϙ [ϗ,X2,Q5 (QP 0 3 (ε)) ζ,[΢,0]] ζ))
def R7:=Sl ff 2 0 (QU (Q4 (XT YD) (Qc (TV ["end","self"] ff Z1 1 [0] ϙ Rf (Uv (Qr gGe ζ (QP 0 0 (ε))) (Qr X2 (Q5 (QP 0 3 (ε)) ζ) [΢,0]))) Qg)))
def SZ:=Sl ff 3 1 (Ql [η,Q5 [ϑ,0,1] θ,3] (QU (Zh (Qy [ϟ,ε,[No,[΢,0]]]) [No,[΢,1]] [No,[΢,0]])))
def Ue:=Sl ff 3 0 (QU (Ze (Qr Y6 ε [ϑ,0,0]) (Qr X2 (Q5 [ϑ,0,2] θ) [΢,0])))
abbrev zbC:RS:=(Ql [η,[Ϗ,0,SZ,Qc μ (Qc ϐ Qg)],6] (Rc (Ul [ϗ,Y6,Q5 (θ) ϸ,[΢,0]] (Qy [Ϗ,0,Ue,Qc μ (Qc ϐ Qg)])) (Ql (XE [ϻ,Q5 (θ) μ,[΢,1]] θ ϸ) (TN (Wr χ (Qc ϸ Qg)))) Q9))
abbrev Ut:RS:=(Sj (SB (Q5 [ϑ,0,4] μ)) (rN 5) zbC)
def TU:=Sl ff 3 4 [ς,[η,Rk tj Qg,3],Sj Z1 (rN 4) Ut,QU χ]
abbrev TC:RS:=(XE [΢,0] ε χ)
abbrev TF:RT:=(Ul [ϗ,X2,Q4 Rp (Qc θ Qg),[΢,0]] (Xa (Qy [Ϗ,0,R7,Qc θ Qg])))
abbrev TB:RS:=[η,[Ϗ,0,TU,[ZF,Qc ε Qg]],2]
def Sb:=Sl ff 1 3 [ς,[η,Qr (Vs tj) (Rk ff (Qc (rUn X9 [΢,1]) Qg)) (Q4 Rp (Qc [ϑ,0,3] Qg)),1],[η,[Ϗ,0,Re,Qg],2],[ς,Sj Wp (rN 3) TC,Uk ng TF TB,QU ε]]
def Uo:=Sl ff 4 0 (QU (Uv [ϟ,[No,[Ϗ,0,SZ,[Ϧ,Qc θ Qg]]],[ϻ,[No,ε],[΢,1]]] [Ϗ,0,Ue,[Ϧ,Qc θ Qg]]))
abbrev Tq:RT:=(Ul [ϗ,Y6,[No,ε],Q4 Rp (Qc μ Qg)] (Xa (Qy [Ϗ,0,Uo,[Ϧ,Qc (Q5 μ [No,ε]) (Qc θ Qg)]])))
abbrev Tp:RS:=(XH tM χ ε [΢,1])
def SD:=Sl ff 4 1 (Ql [η,Q5 [ϑ,0,4] ε,4] (Uk ng Tq Tp))
abbrev U6:RT:=(Ul [ϗ,X2,Q4 Rp (Qc ϐ Qg),[΢,0]] (Xa (Qy [Ϗ,0,R7,Qc (Rk ff (Qc (Q5 ϐ (rUn X9 [΢,1])) Qg)) Qg])))
abbrev U5:RS:=[ς,[η,Q5 ϐ (rUn X9 [΢,1]),6],TN [Ϗ,0,SD,Qc ϸ [ZF,Qc χ Qg]],Rc [ϗ,Y6,[No,ϸ],Q4 Rp (Qc (Q5 [ϑ,0,4] ϸ) Qg)] [ς,[η,Q5 (Q5 [ϑ,0,4] ϸ) [No,ϸ],7],TN (Wr μ (Qc (rV 7) Qg)),TN (Wr ϐ (Qc [Ϗ,0,SZ,Qc ϸ (Qc (rV 7) Qg)] Qg))] (Ql (TN (Xl ϐ)) (Rc [ϗ,X2,Q4 Rp (Qc ϐ Qg),[΢,0]] (Ql (TN (Xl μ)) (XH tM χ (Q5 ϐ (rUn X9 [΢,1])) [΢,1])) Q9))]
def Tf:=Sl ff 4 4 [ς,[η,Rk tj Qg,4],[η,Rk tj (Qc ε Qg),5],Ql (Uk ng U6 U5) (QU μ)]
abbrev Wo:RS:=(XH tM [ϑ,0,2] ϐ μ)
abbrev Wn:RS:=(XH qy [ϑ,0,2] ϐ μ)
def SG:=Sl ff 3 3 [ς,[η,Q5 (Q5 [ϑ,0,1] (Q5 (θ) (rUn X9 [΢,1]))) [΢,1],3],[η,Q4 gMin (Qc [ϻ,Rk ff (Qc (Q5 [ϑ,0,3] ε) (Qc (Q5 [ϑ,0,3] χ) Qg)),TV ["tie","self"] ff (SB (Yz ff ff θ)) 1 [0] ϙ Rf (Q5 (QP 0 2 (ε)) ζ)] Qg),4],[ς,Sj (SB (Yz ff tj θ)) (rN 5) Wo,Sj (SB (Yz ff ff θ)) (rN 5) Wn,Ql (XH qy [ϑ,0,3] ε μ) (XH qy [ϑ,0,3] χ μ)]]
abbrev zeg:RT:=[ϗ,X2,Q4 Rp (Qc μ Qg),[΢,0]]
abbrev VB:RS:=(Ql (TN [Ϗ,0,SG,Qc χ (Qc μ Qg)]) [η,Zh [ϗ,X2,Q5 [ϑ,0,3] χ,[΢,0]] [Ϗ,0,Tf,Qc χ [Ϧ,Qc θ Qg]] (Rk ff Qg),4])
abbrev TD:RS:=(Ql [η,[Ϗ,0,Tf,Qc χ [Ϧ,Qc θ Qg]],4] (Uk ng zeg VB))
def SY:=Sl ff 2 3 (Ql [η,Qr (Vs tj) (Rk ff (Qc [΢,0] Qg)) (Q4 Rp (Qc [ϑ,0,3] Qg)),2] (Sj (SB [Ϗ,0,Re,Qg]) (rN 3) TD))
abbrev WA:RT:=(Qy [Ϗ,0,R7,Qc (TV ["end","step"] ff (Y3 ε) 2 [] (VA 0 1) [ϗ,gGe,ε,[΢,0]] ζ) Qg])
abbrev Wy:RS:=(Ql (TN [Ϗ,0,SY,Qc ε Qg]) [η,[Ϗ,0,Sb,Qg],1])
def Wb:=Sl ff 1 1 [ς,[η,[Ϗ,0,Sb,Qg],1],Uk ng WA Wy,QU (TV ["step"] ff Z1 1 [] ϙ Rf (Qr gGe ζ [΢,0]))]
def V9:=Sl ff 4 2 [ς,[η,Q4 (V5 0 Vb) [ϯ,[Ϧ,[ZF,Qc χ Qg]]],4],[η,[My,0,Wb,Qg],5],QU (SW (Qc (QP 0 2 μ) (Qc (SW (Qc (rSl ff ϐ rO0 (Zp (Q4 Rp (Qc ζ Qg)))) (Qc (rSl ff ϐ (Zp (Q4 Rp (Qc ζ Qg))) rO0) Qg))) Qg)))]
def WE:=Sl ff 3 0 (QU (Q4 V9 [ϯ,[Ϧ,[ZF,Qc (Qr JN (Rk ff (Qc [΢,0] Qg)) (Q4 Rp (Qc θ Qg))) Qg]]]))
abbrev zca:RS:=(TN (rExt χ (Qc (TV ["hand","give","place_of"] ff (SB [ZO,ϐ]) 1 [4,2] ϙ [ϗ,JS,ζ,θ] (SW [Ϧ,Qc (Q5 (θ) ζ) Qg])) Qg)))
def Vv:=Sl ff 2 4 [ς,[η,Q4 (Vt ff) (Qc (TV ["place","hand"] ff (Y3 [Ϯ,[΢,0]]) 2 [] (VA 0 1) Rf (SW [Ϧ,Qc ζ Qg])) Qg),2],[η,Rk tj Qg,3],Ql (Sj (Y3 [Ϯ,[΢,1]]) (VA 4 5) zca) (QU χ)]
def Vu:=Sl ff 2 0 (QU (Q4 gSum (Qc (TV ["chore","works"] ff (SB [Ϯ,[΢,1]]) 1 [0] ϙ Rf [Ϯ,ζ]) Qg)))
def Wj:=Sl ff 3 2 [ς,[η,Q4 Rp (Qc (Q5 (θ) [΢,0]) Qg),3],[η,TV ["chore","works","many"] ff (SB (Q5 (θ) [΢,1])) 1 [0,3] ϙ Rf (Qr JN [Ϯ,ζ] θ),4],QU (Q4 WE (Qc μ (Qc (Qr JN (Rk ff (Qc (Q4 Vu [ϯ,Qc θ Qg]) Qg)) χ) (Qc (Q4 Vv [Ϧ,Qc θ Qg]) Qg))))]
def WT:=Sl ff 3 0 (QU (TV ["thing","mark","wanted"] ff (Zg ζ ε) 2 [2] (VA 0 1) (Qy [ϟ,ε,θ]) ζ))
abbrev Wz:RT:=[ϗ,X2,Q4 Rp (Qc μ Qg),[΢,0]]
abbrev zeo:RS:=(TN (Wr μ (Qc (SW (Qc (Q4 WT (Qc (Q5 ϐ [΢,0]) (Qc (Q5 ϸ [΢,1]) (Qc (rV 7) Qg)))) (Qc (Q4 WT (Qc (Q5 ϐ [΢,1]) (Qc (Q5 ϸ [΢,0]) (Qc (rV 7) Qg)))) Qg))) Qg)))
abbrev Ww:RS:=[ς,[η,Xl μ,5],[η,Q5 (Q4 Wj [ϯ,[Ϧ,Qc ϐ Qg]]) [΢,1],6],Rc (Qy (Q4 (XT YD) (Qc (Q5 ϸ [΢,1]) Qg))) (Sj (SB (SW (Qc (rC Nq) (Qc (rC TE) Qg)))) (rN 7) zeo) (TN (Wr χ (Qc ϐ Qg)))]
def Ug:=Sl ff 3 5 [ς,[η,Rk tj Qg,3],[η,Zh [ϗ,X2,θ,[΢,0]] (Rk tj (Qc (SW (Qc (WO ff θ) (Qc (WO ff (Q4 Rp (Qc ζ Qg))) Qg))) Qg)) (Rk tj Qg),4],Ql (Uk ng Wz Ww) (QU χ)]
def UP:=Sl ff 1 0 (QU (Uv (Y2 2 ζ) (rNotV (Y2 1 ζ))))
abbrev V0:RT:=[ϗ,X2,χ,[΢,0]]
abbrev VY:RS:=[ς,[η,Qr Rg θ χ,4],[η,χ,2],[η,μ,3]]
def TQ:=Sl ff 2 3 [ς,[η,Q4 gAbs (Qc ζ Qg),2],[η,Q4 gAbs (Qc ε Qg),3],Ql (Uk ng V0 VY) (QU θ)]
def UE:=Sl ff 2 1 [ς,Rc (Zf (Xa (Qy (Q4 UP (Qc ζ Qg)))) (Zf (Xa (Qy (Q4 UP (Qc ε Qg)))) (Qy [ϟ,ε,[΢,0]]))) TL Q9,[η,Q4 TQ [ϯ,Qc ε Qg],2],Ql (Rc [ϗ,Y6,ε,[΢,0]] [η,rUn X9 θ,2] Q9) (QU (SW (Qc (Qr Sg ζ θ) (Qc (Qr Sg ε θ) Qg))))]
def U7:=Sl ff 3 1 (Ql [η,Q5 (Q4 Wj [ϯ,[Ϧ,Qc θ Qg]]) [΢,0],3] (QU (TV ["amount","crowd"] ff JW 1 [2] ϙ Rf (Q4 UE [ϯ,Qc (Q4 Rp (Qc [Ϯ,[΢,0]] Qg)) Qg]))))
abbrev Wv:RS:=(Ql [η,Q5 (Q5 ϐ [΢,1]) (Q5 (rV 7) [΢,0]),9] (XE tE (Q5 μ Hb) (rIdx [ZO,Hb] (Qc (Q5 (Q5 ϐ [΢,0]) (Q5 (rV 7) [΢,1])) Qg))))
abbrev X3:RS:=(Sj (Zg (Q4 Vv [ϯ,Qc ϐ Qg]) ϸ) (VA 7 8) Wv)
def V8:=Sl ff 4 6 [ς,[η,TV ["hands","nothing"] ff G9 1 [3] ϙ Rf (Qr (Vs tj) (Rk ff (Qc ε Qg)) (Q4 Rp (Qc ζ Qg))),4],Sj (Zg ε θ) (VA 5 6) X3,QU μ]
def Ud:=Sl ff 3 2 [ς,[η,Q4 Ug [ϯ,[Ϧ,Qc θ Qg]],3],[η,TV ["crowd","works","doers"] ff JW 1 [0,1] ϙ Rf (Q4 U7 [Ϧ,[ZF,Qc ζ Qg]]),4],QU (Q4 V8 [Ϧ,Qc χ (Qc μ (Qc (SW (Qc [΢,0] (Qc [΢,1] Qg))) Qg))])]
def T7:=Sl ff 2 3 [ς,[η,Q4 TQ (Qc [ZO,[΢,1]] (Qc [Ϯ,[΢,1]] Qg)),2],[η,[ϻ,Qr JN [ZO,[΢,0]] (Qr Sg [Ϯ,[΢,1]] θ),Qr JN [Ϯ,[΢,0]] (Qr Sg [ZO,[΢,1]] θ)],3],Ql [η,Q4 TQ (Qc χ (Qc θ Qg)),4] (QU (SW (Qc (Qr Sg χ μ) (Qc (Qr JN (Qr Sg [ZO,[΢,1]] θ) (Qr Sg [Ϯ,[΢,1]] μ)) Qg))))]
abbrev Vk:RS:=[η,Q4 T7 [Ϧ,Qc θ Qg],1]
def UO:=Sl ff 1 2 [ς,[η,SW (Qc [΢,0] (Qc [΢,1] Qg)),1],Sj G9 (rN 2) Vk,QU ε]
abbrev Us:RS:=(TN (Wr [No,ϸ] (Qc (rV 7) Qg)))
abbrev zd5:RS:=(Sj (Zg μ ϐ) (VA 6 7) Us)
def SF:=Sl ff 3 5 [ς,[η,TV ["hand"] ff (rIr (Qc ε Qg)) 1 [] ϙ Rf (Rk tj Qg),3],Sj (Zg ζ θ) (VA 4 5) zd5,QU (TV ["parts"] ff JW 1 [] ϙ Rf (Q4 UO (Qc ζ Qg)))]
def Xf:=Sl ff 3 0 (QU (Uv (Qr (gIs tj) ε Kk) (Q4 (XT YD) (Qc (TV ["hand","share","stayed"] ff (Zg ζ ε) 2 [2] (VA 0 1) Rf (Uv (Qr X2 [Ϯ,[΢,0]] [΢,0]) (Q5 (θ) ζ))) Qg))))
def Xe:=Sl ff 5 3 [ς,[η,Q4 Ud [ϯ,[Ϧ,Qc θ Qg]],5],[η,Q4 SF [Ϧ,[ZF,Qc ϐ Qg]],6],Ql [η,TV ["load","old_load"] ff (Zg ϸ μ) 2 [] (VA 0 1) Rf [ϟ,ζ,ε],7] (QU (TV ["hands","old","new","stayed"] ff (rIz3 ε χ ϐ) 3 [7] (Yl 0 1 2) Rf (Zh (Qy (Q4 Xf [ϯ,[Ϧ,Qc χ Qg]])) (Q4 (V6 ff) (Qc ε Qg)) θ)))]
end NAM
namespace NAP
section
variable {α:Type}
noncomputable def Tv (R:N2) (t:Nat×Nat×α):N2:=R.set t.1 ((R.getD t.1 []).set t.2.1 t.2.2)
noncomputable def Yb (no:α) (R:N2) (x k:Nat):α:=(R.getD x []).getD k no
noncomputable def S2 (no:α) (n:Nat) (ln:Nat->Nat) (W:Nat->Nat->α->Int) (R:N2):Int:=((aM n).map λx=>((aM (ln x)).map λk=>W x k (Yb no R x k)).sum).sum
def Zo (n:Nat)(ln:Nat->Nat)(R:N2):Prop:=R.length=n/\∀x<n,(R.getD x []).length=ln x
variable {no:α}{n:Nat}{ln:Nat->Nat}{W:Nat->Nat->α->Int}{R:N2}
theorem xG {l:Na}(h:i<l.length):(l.set i v).getD j d=if j=i then v else l.getD j d:=by grind
theorem Zo.put (s:Zo n ln R)(hx:x<n):Zo n ln (Tv R (x,k,a)):=by refine#[by unfold Tv;rw[eD];exact s.1,λy hy=>?_];unfold Tv;rw[xG (by rwa [s.1])];split;rename_i c;subst c;rw[eD];exact s.2 y hy;exact s.2 y hy
theorem WW (s:Zo n ln R)(hx:x<n)(hk:k<ln x)(y j:Nat):Yb no (Tv R (x,k,a)) y j=if y=x/\j=k then a else Yb no R y j:=by unfold Yb Tv;rw[xG (by rwa [s.1])];by_cases c:y=x;subst c;rw[Cx,xG (by rwa [s.2 y hx])];lia;simp_all
theorem Xy (F F':Nat->Int)(g:Nat)(h:∀k,k≠g->F' k=F k):∀n:Nat,g<n->((aM n).map F').sum=((aM n).map F).sum+(F' g-F g):=by intro n;induction n with| zero =>rintro hn;simp_all| succ n ih =>rintro hn;rw[qF,cP,cP,kF,kF];simp only[bA,qG,cy,wF,mZ];by_cases c:n=g;grind[aM,cq];rw[ih (NAG.gl43 hn c),h n c];exact NAG.gl44
theorem zaI (s:Zo n ln R)(hx:x<n)(hk:k<ln x):S2 no n ln W (Tv R (x,k,a))=S2 no n ln W R+(W x k a-W x k (Yb no R x k)):=by unfold S2;rw[Xy (λy=>((aM (ln y)).map λj=>W y j (Yb no R y j)).sum) (λy=>((aM (ln y)).map λj=>W y j (Yb no (Tv R (x,k,a)) y j)).sum) x (λy hy=>by congr 1;refine cq λj _=>?_;rw[WW s hx hk,P7 (λz=>hy z.1)]) n hx];rw[Xy (λj=>W x j (Yb no R x j)) (λj=>W x j (Yb no (Tv R (x,k,a)) x j)) k (λj hj=>by rw[WW s hx hk,P7 (λz=>hj z.2)]) (ln x) hk];rw[WW s hx hk,P8 #[rfl,rfl]];lia
theorem fold_S2 (w0:∀x k,W x k no=0):∀(T:List (Nat×Nat × α)) R,Zo n ln R->(∀t∈T,t.1<n/\t.2.1<ln t.1)->T.Pairwise (λt u=>¬(t.1=u.1/\t.2.1=u.2.1))->(∀t∈T,Yb no R t.1 t.2.1=no)->Zo n ln (T.foldl Tv R)/\S2 no n ln W (T.foldl Tv R)=S2 no n ln W R+(T.map λt=>W t.1 t.2.1 t.2.2).sum:=by intro T;induction T with| nil =>rintro R s _ _ _;exact#[s,by simp]| cons t T ih =>rintro R s hb hp hn;obtain⟨b1,b2⟩:=hb t aI;have cH:=lK.mp hp;have s':Zo n ln (Tv R t):=s.put b1;obtain⟨r1,r2⟩:=ih (Tv R t) s' (λu hu=>hb u (aY _ hu)) cH.2 (λu hu=>by have e:Yb no (Tv R t) u.1 u.2.1=_:=WW s b1 b2 u.1 u.2.1;rw[e,P7 (λz=>cH.1 u hu #[z.1.symm,z.2.symm])];exact hn u (aY _ hu));have e:S2 no n ln W (Tv R t)=_:=zaI s b1 b2;rw[pj,r2,e,bA,cy,hn t aI,w0];lia
theorem fold_all {P:α->Prop}(p0:P no):∀(T:List (Nat×Nat × α)) R,(∀t∈T,P t.2.2)->(∀r∈R,∀a∈r,P a)->∀r∈T.foldl Tv R,∀a∈r,P a:=by intro T;induction T with| nil =>rintro R _ h;exact h| cons t T ih =>rintro R ht h;refine ih (Tv R t) (λu hu=>ht u (aY _ hu)) λr hr a ha=>?_;grind[Tv,zX,bC,aJ,kh,eG,aI]
end
theorem Xx {F:β->Int}:∀{l:List β} {i:Nat} {y:β},l[i]?=Ϥ->(∀j z,l[j]?=se z->j≠i->F z=0)->(l.map F).sum=F y| x::r,0,y,h,k=>by(have:(r.map F).sum=0:=by(have:∀z∈r,F z=0:=λz hz=>by obtain⟨j,hj⟩:=bf hz;exact k (j+1) z (by assumption) Τ);rw[cq this,UD]);simp_all| x::r,i+1,y,h,k=>by rw[bA,cy,k 0 x rfl (by lia),lF];exact Xx (by assumption) λj z hj hn=>k (j+1) z (by assumption) Τ
theorem XN:∀ends ac e,load ends ac e=((ends.zip ac).map λq=>if Xo q.1 e then q.2 else 0).sum| [],_,_=>by rfl| _::_,[],_=>by rfl| p::r,s::q,e=>by rw[load,iM,bA,cy,XN r q e]
theorem Jq (F:Nat->Nat->Int)(m:Nat):∀n,[oR,λi=>upTo (λh=>F i h) m]=upTo (λh=>[oR,λi=>F i h]) m:=by intro n;induction n with| zero =>exact(Rs m).symm| succ n ih =>show upTo (λi=>upTo (λh=>F i h) m) n+upTo (λh=>F n h) m=upTo (λh=>upTo (λi=>F i h) n+F n h) m;rw[ih,UI]
theorem zbB (h:∀e<n,0<=f e):0<=[oR,f]:=by have:=iQ h;grind[Rs]
theorem Ct (h:∀e<n,0<=f e)(ha:a<n):f a<=[oR,f]:=by(have:=iQ (f:=λe=>if e=a then f a else 0) λe he=>by by_cases c:e=a;rw['>',c];exact ϳ;rw[oO];exact h e he);rwa [UH,P8 ha] at this
theorem zbi (gn:∀j<nB,0<=g j)(f:Nat->Nat)(r:Nat->Bool):∀{n:Nat},(∀i<n,r i=tj->f i<nB)->(∀i<n,∀k<n,r i=tj->r k=tj->f i=f k->i=k)->[oR,λi=>if r i then g (f i)else 0]<=upTo g nB/\∀j<nB,(∀i<n,r i=tj->f i≠j)->[oR,λi=>if r i then g (f i)else 0]+g j<=upTo g nB:=by intro n eX hinj;(have bn:∀n,(∀i<n,r i=tj->f i<nB)->(∀i<n,∀k<n,r i=tj->r k=tj->f i=f k->i=k)->[oR,λi=>if r i then g (f i)else 0]=upTo (λj=>if(aM n).any (λi=>r i&&decide (f i=j))then g j else 0) nB:=by intro n;induction n with| zero =>intro _ _;show 0=_;rw[show(λj=>if (aM 0).any (λi=>r i&&decide (f i=j)) then g j else 0)=λ_=>0 from funext λj=>rfl,Rs]| succ n ih =>intro h1 h2;show upTo (λi=>if r i then g (f i) else 0) n+(if r n then g (f n) else 0)=_;rw[ih (λi hi=>h1 i (by exact e9 hi)) (λi hi k hk=>h2 i (by exact e9 hi) k (by exact e9 hk))];by_cases c:r n=tj;rw[P8 c];have e1:=UH (f n) (g (f n)) nB;rw[P8 (h1 n (by simp[*]) c)] at e1;rw[<-e1,<-UI];refine Qm λj hj=>?_;rw[qF,Ap];by_cases e:f n=j;(have no:((aM n).any λi=>r i&&decide (f i=j))=ff:=tX.mpr λi hi z=>by simp only[bW,decide_eq_true_eq] at z;have hi:=dF.mp hi;exact cI hi (h2 i (e9 hi) n (iO n) z.1 c (z.2.trans e.symm)));rw[no];simp[c,e];simp[e,Ne.symm e];rw[P7 c,mZ];refine Qm λj hj=>?_;rw[qF,Ap];(have:([n].any λi=>r i&&decide (f i=j))=ff:=by simp[c]);rw[this,vM]);rw[bn n eX hinj];(have kz:∀j<nB,(if(aM n).any (λi=>r i&&decide (f i=j))then g j else 0)<=g j:=λj hj=>by split;exact ϳ;exact gn j hj);refine#[iQ kz,λj hj no=>?_];have e1:=UH j (g j) nB;rw[P8 hj] at e1;rw[<-e1,<-UI];refine iQ λk hk=>?_;by_cases c:k=j;subst c;(have:(aM n).any (λi=>r i&&decide (f i=k))=ff:=by rw[tX];intro i hi;simp only[bW,decide_eq_true_eq,not_and];exactλri=>no i (dF.mp hi) ri);rw[this,P7 (by simp),Cx];simp_all;rw[oO,mZ];exact kz k hk
structure Dl (ae n:Nat)(D:Nat->Nat->Prop)(w:Nat->Int)(s:Nat->Nat->Int)(x:Nat->Int):Prop where
 nn:∀i<n,∀h<ae,0<=s i h
 off:∀i<n,∀h<ae,0<s i h->D i h
 sum:∀i<n,[ZX,λh=>s i h]=w i
 load:∀h<ae,x h=[oR,λi=>s i h]
 even:∀i<n,∀h<ae,0<s i h->∀g<ae,D i g->x h<=x g
structure Up (ae nA nB:Nat)(DA DB:Nat->Nat->Prop)(wA wB:Nat->Int)(sA:Nat->Nat->Int)(f:Nat->Nat)(pl:Nat->Bool):Prop where
 lt:∀i<nA,(∃h<ae,TO=tj/\0<sA i h)->f i<nB/\wA i<=HJ/\∀g<ae,DB (f i) g↔DA i g/\pl g=tj
 inj:∀i<nA,∀k<nA,f i=f k->i=k
section
variable {ae nA nB:Nat}{DA DB:Nat->Nat->Prop}{wA wB:Nat->Int}{sA sB:Nat->Nat->Int}{xA xB:Nat->Int}{f:Nat->Nat}{pl:Nat->Bool}
theorem Dl.set_le (A:Dl ae nA DA wA sA xA)(B:Dl ae nB DB wB sB xB)(U:Up ae nA nB DA DB wA wB sA f pl)(S:Nat->Bool)(Sp:∀h<ae,S h=tj->TO=tj) (up:∀i<nA,∀s<ae,S s=tj->0<sA i s->∀d<ae,0<sB (f i) d->S d=tj) :[ZX,λh=>if S h then Hc else 0]<=[ZX,λh=>if S h then HT else 0]/\([ZX,λh=>if S h then HT else 0]<=[ZX,λh=>if S h then Hc else 0]->(∀i<nA,(∃s<ae,S s=tj/\0<sA i s)->(∀h<ae,0<sA i h->S h=tj)/\wA i=HJ)/\∀j<nB,(∃s<ae,S s=tj/\0<sB j s)->∃i<nA,(∃s<ae,S s=tj/\0<sA i s)/\f i=j):=by(have inS:∀(x:Nat->Int) n (s:Nat->Nat->Int),(∀h<ae,x h=[oR,λi=>s i h])->[ZX,λh=>if S h then x h else 0]=[oR,λi=>[ZX,λh=>if S h then s i h else 0]]:=λx n s hx=>by rw[Jq];refine Qm λh hh=>?_;by_cases c:S h=tj;rw['>',hx h hh];exact Qm λi hi=>'>'.symm;rw[oO];rw[show(λi=>if S h=tj then s i h else 0)=λ_=>0 from funext λi=>oO,Rs]);rw[inS xA nA sA A.load,inS xB nB sB B.load];let r:=λi=>'3'.any λs=>S s&&decide (0<sA i s);(have rT:∀i,r i=tj↔∃s<ae,S s=tj/\0<sA i s:=λi=>by show '3'.any _=tj↔_;rw[ia];constructor;rintro⟨s,hs,h⟩;simp only[bW,decide_eq_true_eq] at h;exact#[s,dF.mp hs,h];rintro⟨s,hs,h⟩;refine#[s,dF.mpr hs,?_];simp only[bW,decide_eq_true_eq];exact h);let gA:=λi=>[ZX,λh=>if S h then sA i h else 0];let gB:=λj=>[ZX,λh=>if S h then sB j h else 0];(have mO:∀i<nA,∀h<ae,(if S h=tj then sA i h else 0)<=sA i h:=λi hi h hh=>by split;exact ϳ;exact A.nn i hi h hh);(have gBn:∀j<nB,0<=gB j:=λj hj=>zbB λh hh=>by split;exact B.nn j hj h hh;exact ϳ);(have jQ:∀i<nA,r i=tj->f i<nB/\wA i<=HJ:=λi hi ri=>by obtain⟨s,hs,h1,h2⟩:=(rT i).mp ri;obtain⟨a,b,_⟩:=U.lt i hi #[s,hs,Sp s hs h1,h2];exact#[a,b]);(have gBw:∀i<nA,r i=tj->gB (f i)=HJ:=λi hi ri=>by obtain⟨s,hs,h1,h2⟩:=(rT i).mp ri;rw[<-B.sum (f i) (jQ i hi ri).1];refine Qm λh hh=>?_;by_cases c:S h=tj;exact '>';show(if S h=tj then sB (f i) h else 0)=sB (f i) h;rw[oO];have:=B.nn (f i) (jQ i hi ri).1 h hh;by_cases z:0<sB (f i) h;exact absurd (up i hi s hs h1 h2 h hh z) c;lia);(have gAw:∀i<nA,gA i<=wA i:=λi hi=>by rw[<-A.sum i hi];exact iQ (mO i hi));(have gA0:∀i<nA,r i≠tj->gA i=0:=λi hi ri=>by(have e:gA i=[ZX,λ_=>0]:=Qm λh hh=>by by_cases c:S h=tj;rw['>'];have:=A.nn i hi h hh;by_cases z:0<sA i h;exact absurd ((rT i).mpr #[h,hh,c,z]) ri;exact NAG.gl23 this z;exact oO);rw[e,Rs]);(have kz:∀i<nA,gA i<=(if r i=tj then gB (f i)else 0):=λi hi=>by by_cases c:r i=tj;rw['>',gBw i hi c];exact gq (gAw i hi) (jQ i hi c).2;rw[oO,gA0 i hi c];exact ϳ);have J:=zbi gBn f r (λi hi ri=>(jQ i hi ri).1) (λi hi k hk _ _ e=>U.inj i hi k hk e);refine#[gq (iQ kz) J.1,λback=>?_];refine#[λi hi hr=>?_,λj hj #[s,hs,h1,h2]=>?_];have ri:=(rT i).mpr hr;have e:=lY kz (gq J.1 back) i hi;rw[P8 ri,gBw i hi ri] at e;have l1:=gAw i hi;have l2:=(jQ i hi ri).2;refine#[λh hh z=>?_,by lia];(have e2:[ZX,λh=>sA i h]<=gA i:=by rw[A.sum i hi];simp_all);have:=lY (mO i hi) e2 h hh;by_cases c:S h=tj;exact c;rw[oO] at this;simp_all;(have pos:0<gB j:=by refine o4 ?_ (Ct (λh hh=>?_) hs);show 0<(if S s=tj then sB j s else 0);rwa [P8 h1];show 0<=(if S h=tj then sB j h else 0);split;exact B.nn j hj h hh;exact ϳ);by_cases ex:∃i<nA,r i=tj/\f i=j;obtain⟨i,hi,ri,e⟩:=ex;exact#[i,hi,(rT i).mp ri,e];have:=J.2 j hj λi hi ri e=>ex #[i,hi,ri,e];have l:=iQ kz;have b':upTo gB nB<=upTo gA nA:=back;exact(NAG.gl100 pos this back l).elim
theorem Dl.mono (A:Dl ae nA DA wA sA xA)(B:Dl ae nB DB wB sB xB)(U:Up ae nA nB DA DB wA wB sA f pl):∀h<ae,TO=tj->Hc<=HT:=by intro h0 hh0 p0;by_cases c0:xA h0<=xB h0;exact c0;exfalso;(have c:xB h0<xA h0:=Τ);let S:Nat->Bool:=λh=>TO&&(decide (HT<=xB h0)&&decide (xB h0<Hc));(have ST:∀h,S h=tj↔TO=tj/\HT<=xB h0/\xB h0<Hc:=λh=>by simp only[S,bW,decide_eq_true_eq]);(have K:=Dl.set_le A B U S (λh _ z=>((ST h).mp z).1) λi hi s hs s1 s2 d hd d1=>by obtain⟨a1,a2,a3⟩:=(ST s).mp s1;obtain⟨b1,_,b3⟩:=U.lt i hi #[s,hs,a1,s2];have e1:=B.even (f i) b1 d hd d1 s hs ((b3 s hs).mpr #[A.off i hi s hs s2,a1]);obtain⟨c1,c2⟩:=(b3 d hd).mp (B.off (f i) b1 d hd d1);have e2:=A.even i hi s hs s2 d hd c1;grind);(have lt:[ZX,λh=>if S h then HT else 0]<[ZX,λh=>if S h then Hc else 0]:=by(have le:∀h<ae,(if S h=tj then HT else 0)<=(if S h=tj then Hc else 0):=λh hh=>by by_cases z:S h=tj;rw[ZL,ZL];obtain⟨_,a,b⟩:=(ST h).mp z;exact gq a (cE b);rw[ZK,ZK];exact ϳ);have l:=iQ le;rcases gm [ZX,λh=>if S h then HT else 0] [ZX,λh=>if S h then Hc else 0]with z | z;exact z;have e:=lY le z h0 hh0;have s0:=(ST h0).mpr #[p0,ϳ,c];rw[P8 s0,P8 s0] at e;exact absurd c (by rw[e];exact qu _));exact absurd lt (Int.not_lt.mpr K.1)
theorem Dl.keep (A:Dl ae nA DA wA sA xA)(B:Dl ae nB DB wB sB xB)(U:Up ae nA nB DA DB wA wB sA f pl)(ht:t<ae)(pt:pl t=tj)(et:xA t=xB t) :(∀i<nA,0<sA i t->f i<nB/\wA i=HJ/\(∀h<ae,0<sA i h->TO=tj/\Hc=HT)/\(∀h<ae,0<sB (f i) h->TO=tj/\Hc=HT)/\∀g<ae,DA i g->xA t<=xA g)/\∀j<nB,0<sB j t->∃i<nA,f i=j/\∃s<ae,pl s=tj/\xA s=xB s/\0<sA i s:=by let S:=λh=>TO&&(decide (Hc=xA t)&&decide (HT=xA t));(have ST:∀h,S h=tj↔TO=tj/\Hc=xA t/\HT=xA t:=λh=>by lia);have St:=(ST t).mpr #[pt,rfl,et.symm];(have up:=λi hi s hs s1 s2 d hd d1=>by obtain⟨a1,a2,a3⟩:=(ST s).mp s1;obtain⟨b1,_,b3⟩:=U.lt i hi #[s,hs,a1,s2];have e1:=B.even (f i) b1 d hd d1 s hs ((b3 s hs).mpr #[A.off i hi s hs s2,a1]);obtain⟨c1,c2⟩:=(b3 d hd).mp (B.off (f i) b1 d hd d1);have e2:=A.even i hi s hs s2 d hd c1;have:=Dl.mono A B U d hd c2;exact(ST d).mpr #[c2,by lia,by lia]);have K:=(Dl.set_le A B U S (λh _ z=>((ST h).mp z).1) up).2 Τ;(have out:∀h,S h=tj->TO=tj/\Hc=HT:=λh z=>Τ);refine#[λi hi z=>?_,λj hj z=>?_];obtain⟨k1,k2⟩:=K.1 i hi #[t,ht,St,z];obtain⟨b1,_,_⟩:=U.lt i hi #[t,ht,pt,z];exact#[b1,k2,λh hh y=>out h (k1 h hh y),λh hh y=>out h (up i hi t ht St z h hh y),λg hg d=>A.even i hi t ht z g hg d];obtain⟨i,hi,⟨s,hs,s1,s2⟩,e⟩:=K.2 j hj #[t,ht,St,z];exact#[i,hi,e,s,hs,(out s s1).1,(out s s1).2,s2]
end
theorem xH (f:Nat->Nat)(r:Nat->Bool):∀{n:Nat},(∀i<n,r i=tj->f i<nB)->(∀i<n,∀k<n,r i=tj->r k=tj->f i=f k->i=k)->(∀j<nB,g j≠0->∃i<n,r i=tj/\f i=j)->[oR,λi=>if r i then g (f i)else 0]=upTo g nB:=by intro n;induction n generalizing g with| zero =>intro _ _ h;(have:=Qm λj hj=>by by_cases c:g j=0;exact c;obtain⟨i,hi,_⟩:=h j hj c;trivial);rw[this,Rs];rfl| succ n ih =>intro h1 h2 h3;show upTo (λi=>if r i then g (f i) else 0) n+(if r n then g (f n) else 0)=_;by_cases c:r n=tj;rw[P8 c];have e:=ih (g:=λj=>if j=f n then 0 else g j) (λi hi=>h1 i (by exact e9 hi)) (λi hi k hk=>h2 i (by exact e9 hi) k (by exact e9 hk)) (λj hj z=>by by_cases e:j=f n;exact absurd (P8 e) z;rw[P7 e] at z;obtain⟨i,hi,ri,fi⟩:=h3 j hj z;exact#[i,AA (ud hi) (λq=>e (by rw[<-fi,q])),ri,fi]);(have e2:upTo (λi=>if r i then (if f i=f n then 0 else g (f i)) else 0) n=upTo (λi=>if r i then g (f i) else 0) n:=Qm λi hi=>by by_cases ri:r i=tj;rw[P8 ri,P8 ri,P7 λq=>cI hi (h2 i (e9 hi) n (iO n) ri c q)];rw[P7 ri,P7 ri]);rw[<-e2,e];have e1:=UH (f n) (g (f n)) nB;rw[P8 (h1 n (by simp[*]) c)] at e1;rw[<-e1,<-UI];refine Qm λj hj=>?_;by_cases e:j=f n;rw[P8 e,P8 e,e,lF];rw[P7 e,P7 e,mZ];rw[P7 c,mZ];exact ih (λi hi=>h1 i (e9 hi)) (λi hi k hk=>h2 i (e9 hi) k (e9 hk)) λj hj z=>by obtain⟨i,hi,ri,fi⟩:=h3 j hj z;exact#[i,AA (ud hi) (λq=>c (q▸ri)),ri,fi]
structure Xm (ae n:Nat)(D:Nat->Nat->Prop)(w:Nat->Int)(s os:Nat->Nat->Int)(x:Nat->Int)(kp:Nat->Bool):Prop where
 sum:∀i<n,kp i=tj->[ZX,λh=>os i h]=w i
 even:∀i<n,kp i=tj->∀h<ae,0<os i h->∀g<ae,D i g->x h<=x g
 load:∀h<ae,[oR,λi=>if kp i then os i h else s i h]=x h
section
variable {ae nA nB:Nat}{DA DB:Nat->Nat->Prop}{wA wB:Nat->Int}{sA sB os:Nat->Nat->Int}{xA xB:Nat->Int}{f:Nat->Nat}{pl has kp:Nat->Bool}
theorem Dl.mix_up (A:Dl ae nA DA wA sA xA)(B:Dl ae nB DB wB sB xB)(U:Up ae nA nB DA DB wA wB sA f pl) (hr:∀j<nB,has j=tj->∃k<nA,f k=j/\∀h<ae,os j h=sA k h/\(0<os j h->TO=tj)) (no:∀k<nA,f k<nB->has (f k)=ff->wA k≠wB (f k)\/∃h<ae,0<sA k h/\TO=ff) (kt:∀j<nB,kp j=tj↔has j=tj/\∃h<ae,0<os j h/\HT=Hc):Xm ae nB DB wB sB os xB kp:=by(have jQ:∀k<nA,∀t<ae,pl t=tj->xA t=xB t->0<sA k t->f k<nB/\kp (f k)=tj:=λk hk t ht pt et z=>by obtain⟨a,b,c,_,_⟩:=(Dl.keep A B U ht pt et).1 k hk z;refine#[a,(kt _ a).mpr ?_];cases hh:has (f k)with| false =>(rcases no k hk a hh with y | ⟨h,jZ,y1,y2⟩;exact absurd b y;have:=(c h jZ y1).1;rw[y2] at this;cases this)| true =>obtain⟨k',cN,e,o⟩:=hr _ a hh;have:k'=k:=U.inj k' cN k hk e;subst this;exact#[rfl,t,ht,by rwa [(o t ht).1],et.symm]);(have dU:∀j<nB,kp j=tj->∃k<nA,f k=j/\wA k=wB j/\(∀h<ae,os j h=sA k h)/\(∀h<ae,0<sA k h->TO=tj/\Hc=HT)/\(∀h<ae,0<sB j h->TO=tj/\Hc=HT)/\∃t<ae,0<sA k t/\(∀g<ae,DA k g->xA t<=xA g):=λj hj z=>by obtain⟨h1,t,ht,p,e⟩:=(kt j hj).mp z;obtain⟨k,hk,fk,o⟩:=hr j hj h1;(have z':0<sA k t:=by rwa [<-(o t ht).1]);obtain⟨a,b,c,d,g⟩:=(Dl.keep A B U ht ((o t ht).2 p) e.symm).1 k hk z';rw[fk] at b d;exact#[k,hk,fk,b,λh hh=>(o h hh).1,c,d,t,ht,z',g]);refine#[λj hj z=>?_,λj hj z h hh p g hg dg=>?_,λh hh=>?_];obtain⟨k,hk,fk,b,o,_⟩:=dU j hj z;rw[<-b,<-A.sum k hk];exact Qm o;obtain⟨k,hk,fk,b,o,c,d,t,ht,zt,low⟩:=dU j hj z;rw[o h hh] at p;obtain⟨p1,p2⟩:=c h hh p;obtain⟨c1,c2⟩:=c t ht zt;obtain⟨_,_,iff⟩:=U.lt k hk #[t,ht,c1,zt];rw[fk] at iff;obtain⟨g1,g2⟩:=(iff g hg).mp dg;have e1:=A.even k hk h hh p t ht (A.off k hk t ht zt);have e2:=low g hg g1;have e3:=Dl.mono A B U g hg g2;lia;by_cases st:TO=tj/\Hc=HT;(have e1:upTo (λj=>if kp j then os j h else sB j h) nB=upTo (λj=>if kp j then os j h else 0) nB:=Qm λj hj=>by by_cases c:kp j=tj;rw['>','>'];rw[oO,oO];have nn:=B.nn j hj h hh;by_cases z:0<sB j h;obtain⟨k,hk,fk,s,hs,ps,es,zs⟩:=(Dl.keep A B U hh st.1 st.2).2 j hj z;have:=(jQ k hk s hs ps es zs).2;rw[fk] at this;exact absurd this c;exact NAG.gl23 nn z);have e2:=xH (g:=λj=>if kp j then os j h else 0) f (λk=>decide (f k<nB)) (λi hi z=>Qa z) (λi hi k hk _ _ e=>U.inj i hi k hk e) (λj hj z=>by by_cases c:kp j=tj;obtain⟨k,hk,fk,_⟩:=dU j hj c;exact#[k,hk,P9 (by rwa [fk]),fk];rw[oO] at z;exact[J4,z]);rw[e1,<-e2,<-st.2,A.load h hh];refine Qm λk hk=>?_;have nn:=A.nn k hk h hh;by_cases z:0<sA k h;obtain⟨a,b⟩:=jQ k hk h hh st.1 st.2 z;rw[P8 (P9 a),P8 b];obtain⟨k',cN,fk',_,o,_⟩:=dU _ a b;have:=U.inj k' cN k hk fk';subst this;exact o h hh;(have z0:=by exact NAG.gl23 nn z);rw[z0];by_cases a:f k<nB;rw[P8 (P9 a)];by_cases b:kp (f k)=tj;rw[P8 b];obtain⟨k',cN,fk',_,o,_⟩:=dU _ a b;have:=U.inj k' cN k hk fk';subst this;rw[o h hh,z0];rw[P7 b];rw[P7 (λy=>a (Qa y))];rw[B.load h hh];refine Qm λj hj=>?_;by_cases c:kp j=tj;rw['>'];obtain⟨k,hk,fk,_,o,c1,c2,_⟩:=dU j hj c;have n1:=A.nn k hk h hh;have n2:=B.nn j hj h hh;rw[o h hh];have z1:=λz=>st (c1 h hh z);have z2:=λz=>st (c2 h hh z);exact NAG.gl116 n1 n2 z1 z2;rw[oO]
theorem Dl.mix_down (A:Dl ae nA DA wA sA xA)(B:Dl ae nB DB wB sB xB)(U:Up ae nA nB DA DB wA wB sA f pl) (hr:∀i<nA,has i=tj->f i<nB/\∀h<ae,os i h=sB (f i) h/\(0<os i h->TO=tj)) (no:∀i<nA,has i=ff->(∃h<ae,TO=tj/\0<sA i h)->wA i≠HJ) (kt:∀i<nA,kp i=tj↔has i=tj/\∃h<ae,0<os i h/\Hc=HT):Xm ae nA DA wA sA os xA kp:=by(have jQ:∀i<nA,∀t<ae,pl t=tj->xA t=xB t->0<sA i t->f i<nB/\kp i=tj/\has i=tj:=λi hi t ht pt et z=>by obtain⟨a,b,c,d,_⟩:=(Dl.keep A B U ht pt et).1 i hi z;(have hs:has i=tj:=by cases hh:has i with| false=>exact absurd b (no i hi hh #[t,ht,pt,z])| true=>rfl);refine#[a,(kt i hi).mpr #[hs,?_],hs];obtain⟨_,o⟩:=hr i hi hs;(have pos:=by have:=Ct (λh hh=>A.nn i hi h hh) ht;rw[A.sum i hi] at this;lia);(have ex:∃h<ae,0<sB (f i) h:=by by_cases y:∃h<ae,0<sB (f i) h;exact y;(have:=iQ λh hh=>by have:=λz=>y #[h,hh,z];exact Int.not_lt.mp this);rw[Rs,B.sum (f i) a,<-b] at this;exact(NAG.gl70 z pos this).elim);obtain⟨h,hh,y⟩:=ex;obtain⟨_,e⟩:=d h hh y;exact#[h,hh,by rwa [(o h hh).1],e]);(have dU:∀i<nA,kp i=tj->f i<nB/\wA i=HJ/\(∀h<ae,os i h=sB (f i) h)/\(∀h<ae,0<sA i h->TO=tj/\Hc=HT)/\(∀h<ae,0<sB (f i) h->TO=tj/\Hc=HT)/\∃t<ae,pl t=tj/\xA t=xB t/\DB (f i) t/\(∀g<ae,DA i g->xA t<=xA g):=λi hi z=>by obtain⟨h1,t,ht,p,e⟩:=(kt i hi).mp z;obtain⟨fi,o⟩:=hr i hi h1;obtain⟨i',iz,ei,s,hs,ps,es,zs⟩:=(Dl.keep A B U ht ((o t ht).2 p) e).2 (f i) fi (by rwa [<-(o t ht).1]);have:=U.inj i' iz i hi ei;subst this;obtain⟨a,b,c,d,g⟩:=(Dl.keep A B U hs ps es).1 i' hi zs;obtain⟨_,_,iff⟩:=U.lt i' hi #[s,hs,ps,zs];exact#[fi,b,λh hh=>(o h hh).1,c,d,s,hs,ps,es,(iff s hs).mpr #[A.off i' hi s hs zs,ps],g]);refine#[λi hi z=>?_,λi hi z h hh p g hg dg=>?_,λh hh=>?_];obtain⟨fi,b,o,_⟩:=dU i hi z;rw[b,<-B.sum (f i) fi];exact Qm o;obtain⟨fi,b,o,c,d,t,ht,pt,et,dt,low⟩:=dU i hi z;rw[o h hh] at p;obtain⟨p1,p2⟩:=d h hh p;have e1:=B.even (f i) fi h hh p t ht dt;have e2:=low g hg dg;lia;by_cases st:TO=tj/\Hc=HT;(have e1:upTo (λi=>if kp i then os i h else sA i h) nA=upTo (λi=>if kp i then sB (f i) h else 0) nA:=Qm λi hi=>by by_cases c:kp i=tj;rw['>','>'];exact(dU i hi c).2.2.1 h hh;rw[oO,oO];have nn:=A.nn i hi h hh;by_cases z:0<sA i h;exact absurd (jQ i hi h hh st.1 st.2 z).2.1 c;exact NAG.gl23 nn z);rw[e1,xH (g:=λj=>sB j h) f kp (λi hi z=>(dU i hi z).1) (λi hi k hk _ _ e=>U.inj i hi k hk e) (λj hj z=>?_),st.2,B.load h hh];have nn:=B.nn j hj h hh;obtain⟨i,hi,fi,s,hs,ps,es,zs⟩:=(Dl.keep A B U hh st.1 st.2).2 j hj (by lia);exact#[i,hi,(jQ i hi s hs ps es zs).2.1,fi];rw[A.load h hh];refine Qm λi hi=>?_;by_cases c:kp i=tj;rw['>'];obtain⟨fi,_,o,c1,c2,_⟩:=dU i hi c;have n1:=A.nn i hi h hh;have n2:=B.nn (f i) fi h hh;rw[o h hh];have z1:=λz=>st (c1 h hh z);have z2:=λz=>st (c2 h hh z);exact NAG.gl116 n2 n1 z2 z1;rw[oO]
end
end NAP
set_option maxHeartbeats 1000000
namespace NAY
open PySem NAL NAL.EX NAL.RX NAM
noncomputable def WP (p:Nat×Nat):D:=.tup [.int (p.1:Int),.int (p.2:Int)]
noncomputable def nD (n:Nat):D:=.int (n:Int)
noncomputable def Qu (l:Zw):D:=[Jc,nD]
structure QV (h:TH)(me aS aP:Nat)(N:NAP.T9)(ac ab:Zv):Prop where
 mi:h[me]?=[Ϟ,0,[.int (N.G:Int),.lst (N.ends.map WP),.at aS,.at aP,.lst (N.bB.map Qu)]]
 st:h[aS]?=[ϥ,Nv]
 sp:h[aP]?=[ϥ,ab.map .int]
 ne:aS≠aP
 nS:me≠aS
 nP:me≠aP
 wf:N.WF
 ls:ac.length=N.ends.length
 lp:ab.length=N.nE
 sm:N.nE<=900
 sk:N.ends.length<=900
 la:∀(e:Nat) l,N.bB[e]?=te->l.length<=900
section
variable {h h' t:TH}{me aS aP i:Nat}{N:NAP.T9}{ac ab:Zv}{o:TM}{e k:Nat}
theorem g9 {h t:υ}{o:α}(e:h[i]?=Υ):(h++t)[i]?=Υ:=by grind
theorem QV.app (p:QV h me aS aP N ac ab):QV (h++t) me aS aP N ac ab:=#[g9 p.mi,g9 p.st,g9 p.sp,p.ne,p.nS,p.nP,p.wf,p.ls,p.lp,p.sm,p.sk,p.la]
theorem QV.set (p:QV h me aS aP N ac ab)(h1:i≠me)(h2:i≠aS)(h3:i≠aP):QV [ϧ,o] me aS aP N ac ab :=#[by rw[ee h1];exact p.mi,by rw[ee h2];exact p.st,by rw[ee h3];exact p.sp,p.ne,p.nS,p.nP,p.wf,p.ls,p.lp,p.sm,p.sk,p.la]
theorem jk (z:fa ρ h=[ν,d]):QU fa ρ h=[ν,.rt d]:=by unfold QU;rw[z];rfl
theorem aK (z:fA ρ h=[ν,xs])(k:g xs h'=r):Q4 g fA ρ h=r:=by unfold Q4;rwa [z]
theorem aE (z1:fa ρ h=.ok a h)(z2:fA ρ h=.ok as h):Qc fa fA ρ h=.ok (a::as) h:=by grind[Qc,R.bnd]
theorem aQ (z:fa ρ h=[ν,.bl x]):Qy fa ρ h=[ν,x]:=by unfold Qy;rw[z];rfl
theorem cR (z:fa ρ h=[ν,d]):TN fa ρ h=[ν,NC]:=by unfold TN;rw[z];rfl
end
def fin (m:Nat) (x:Fl) (h:TH):tv:=match x with| .nx _=>[IV,m,h]| .rt v=>trunc m v h
def On (r:RX.R Fl)(P:Rb->TH->Prop):Prop:=∃ ρ h,r=.ok NC h/\P ρ h
section
variable {f g:RS}{fa:RE}{fT:RT}{fA:RA}{fi:RI}{fg:RG}{ρ ρ1:Rb}{h h' h1 h2 t u:TH}{d y:D}{n k m c i:Nat}{r:tv}{ds F:Φ}{P:Rb->TH->Prop}{κ:Fl->TH->tv}{N:Χ}{fr:Zw}{nx:NAL.RX.Nx}
theorem zcg (hn:ds.length=n)(z:(f (Vj ds k) h).bnd (fin h.length)=[ϲ,d]):Sl ff n k f ds h=[ϲ,d]:=by unfold Sl;rw[aR,hn,show bJ n n=tj from gE n,aR];cases e:f (Vj ds k) h with| ok x h'=>rw[e] at z;cases x<;>exact z| _=>rw[e] at z;cases z
noncomputable def finK (x:Fl) (h:TH):tv:=match x with| .nx _=>.ok .non h| .rt v=>.ok v h
theorem Cu (hn:ds.length=n)(z:(f (Vj ds k) h).bnd finK=[ϲ,d]):Sl tj n k f ds h=[ϲ,d]:=by unfold Sl;rw[aR,hn,show bJ n n=tj from gE n];cases e:f (Vj ds k) h with| ok x h'=>rw[e] at z;cases x<;>exact z| _=>rw[e] at z;cases z
theorem sG (z:f ρ h=[ϱ,ρ1,h1])(k:(g ρ1 h1).bnd κ=r):(Ql f g ρ h).bnd κ=r:=by grind[l8]
theorem sGe (z:f ρ h=[ϱ,ρ1,h1])(e:h1=h2)(k:(g ρ1 h2).bnd κ=r):(Ql f g ρ h).bnd κ=r:=sG z (e▸k)
theorem sA (z:fa ρ h=[ϲ,d])(k:(g (WJ ρ n Ϡ) h1).bnd κ=r):(Ql [η,fa,n] g ρ h).bnd κ=r:=sG (iE z rfl) k
theorem sD (z:fa ρ h=[ϲ,d])(k:(g ρ h1).bnd κ=r):(Ql (TN fa) g ρ h).bnd κ=r:=sG (cR z) k
theorem sR (z:fa ρ h=[ϲ,d])(k:κ (.rt d) h1=r):(QU fa ρ h).bnd κ=r:=by rwa [jk z]
theorem sF (z:fT ρ h=[ϲ,ff])(k:(g ρ h1).bnd κ=r):(Ql (Rc fT f Q9) g ρ h).bnd κ=r:=sG ((g8 z).trans rfl) k
theorem sT (z:fT ρ h=[ϲ,tj])(k:(QU fa ρ h1).bnd κ=r):(Ql (Rc fT (QU fa) f) g ρ h).bnd κ=r:=by cases e:fa ρ h1 with| ok d h2=>rw[jk e] at k;grind[Ch,jg,jk]| _=>grind[Ql,Rc,QU,RX.R.bnd]
theorem Cv (z1:fv ρ h=[ν,y])(z2:fa ρ h'=[ν,.at i])(z3:h'[i]?=[Ϟ,c,ds])(hn:ds.length=n):W9 c n fa fv ρ h=[ϱ,ρ,h'.set i (.mi c (ds++[y]))]:=by subst hn;unfold W9;rw[z1];show[϶,fa ρ h']=_;rw[z2];show QL (Y8 c h' (.at i)) _=_;rw[show Y8 c h' (.at i)=se (i,ds)by grind[Y8,aW,bJ,gE]];show Q3 (cf ds.length NU) (R.ok Hl (hs h' i (.mi c (bif bq ds.length NU then WJ ds ds.length y else YH ds [y]))))=_;rw[aR,eE.mpr ϭ,show bq ds.length ds.length=ff from gj.mpr λz=>absurd Mo (nQ _),gY,iD];rfl
theorem sI (z:v ρ (h++ .mi c F::t)=.ok y (h++ .mi c F::u))(za:fa ρ (h++ .mi c F::u)=.ok (.at h.length) (h++ .mi c F::u))(k:(g ρ (h++ .mi c (F++[y])::u)).bnd κ=r)(hn:F.length=n:=by rfl):(Ql (W9 c n fa v) g ρ (h++ .mi c F::t)).bnd κ=r:=by refine sGe (Cv z za (by simp) hn) ?_ k;simp_all
theorem nG (z:f ρ h=[ϱ,ρ1,h1])(k:On (g ρ1 h1) P):On (Ql f g ρ h) P:=by grind[l8]
theorem nA (z:fa ρ h=[ϲ,d])(k:On (g (WJ ρ n Ϡ) h1) P):On (Ql [η,fa,n] g ρ h) P:=nG (iE z rfl) k
theorem nD' (z:fa ρ h=[ϲ,d])(k:On (g ρ h1) P):On (Ql (TN fa) g ρ h) P:=nG (cR z) k
theorem nE (z:f ρ h=[ϱ,ρ1,h1])(k:P ρ1 h1):On (f ρ h) P:=#[_,_,z,k]
theorem nT (z:fT ρ h=[ϲ,tj])(k:On (f ρ h1) P):On (Rc fT f g ρ h) P:=(jg z).symm▸k
theorem nF (z:fT ρ h=[ϲ,ff])(k:On (g ρ h1) P):On (Rc fT f g ρ h) P:=(g8 z).symm▸k
theorem eM {l:XK}{g:γ->D}(Inv:Nat->Rb->TH->Prop)(he:fi ρ h=[ν,nx])(hx:∀i ρ h,Inv i ρ h->nx h i=se ('K'[i]?))(hl:l.length<1000)(h0:Inv 0 ρ h')(hs:∀i a ρ h,l[i]?=lT->Inv i ρ h->∃ ρ1,fg (g a) ρ=ZR/\On (f ρ1 h) (Inv (i+1))):On (Sj fi fg f ρ h) (Inv l.length) :=zaK Inv he hx hl h0 λi a ρ h ha I=>let #[ρ1,e1,ρ2,h2,e2,I2]:=hs i a ρ h ha I;#[ρ1,ρ2,h2,e1,e2,I2]
theorem sL (z:On (f ρ h) P)(k:∀ ρ h,P ρ h->(g ρ h).bnd κ=r):(Ql f g ρ h).bnd κ=r:=by obtain⟨ρ1,h1,e,p⟩:=z;exact sG e (k _ _ p)
theorem sZ (z:On (f ρ h) P)(k:∀h,(∃ ρ,P ρ h)->[IV,m,h]=r):(f ρ h).bnd (fin m)=r:=by obtain⟨ρ1,h1,e,p⟩:=z;rw[e];exact k _ #[_,p]
theorem bh (z1:fa ρ h=.ok (.at i) h)(z2:h[i]?=[Ϟ,k,ds])(z3:fA ρ h=.ok xs h2)(z4:ev (.at i::xs) h2=q):Qo k ev fa fA ρ h=q:=by grind[Y8,aW,bJ,gE,Qo,QL,R.bnd]
theorem fI (z:fa ρ h=[ν,Z0]):SB fa ρ h=[ν,VE Z0]:=by unfold SB;rw[z];rfl
theorem nZ (z:fa ρ h=[ν,Z0]):Y3 fa ρ h=[ν,nEn Z0]:=by unfold Y3;rw[z];rfl
theorem rk (z:fA ρ h=[ν,[LV]])(hk:k<1000):rIr fA ρ h=[ν,nRg k]:=by unfold rIr;rw[z];show Q3 (bq k (2^62)) _=_;rw[bR.mpr (by lia)];rfl
theorem Cw {l:XK}{f:γ->D}{d:γ}(e:k=l.length):(aM k).map (λj=>f (l.getD j d))='~':=by subst e;refine wv (by simp) λj a b=>?_;grind
theorem cA {l:XK}{g:γ->D}(he:fi ρ h=[ν,nx])(hx:∀i,nx h' i=se ('K'[i]?))(hl:l.length<1000)(hs:∀a∈l,∃ ρ1,fg (g a) (be n ng++Yp ρ fr)=ZR/\fa ρ1 h'=[ν,v a])(e:l.map v=L):TV N ff fi n fr fg Rf fa ρ h=[ν,.lst L]:=by rw[uP he hx hl hs,e];rfl
theorem cM {l:XK}{g:γ->D}(he:fi ρ h=[ν,nx])(hx:∀i,nx h' i=se ('K'[i]?))(hl:l.length<1000)(hs:∀a∈l,∃ ρ1,fg (g a) (be n ng++Yp ρ fr)=ZR/\fT ρ1 h'=[ν,p a]/\(p a=tj->fa ρ1 h'=[ν,v a]))(e:'z'.map v=L):TV N ff fi n fr fg fT fa ρ h=[ν,.lst L]:=by rw[uO he hx hl hs,e];rfl
theorem Cl.apps (c:Ϣ)(z:∀o∈t,ct h.length o):Cl (h++t):=λo ho=>(dE.mp ho).elim (λa=>nY (by simp) (c o a)) λa=>nY (by simp) (z o a)
theorem XM:Rk tj Qg ρ h=.ok (.at h.length) (h++[.ml []]):=by show[J8,D.at Gl,h,.ml []]=_;rw[gF,gG]
theorem zcQ (z:e (.at h.length::ds) (h++[.mi c []])=[ZW,h++[o]]):V5 c e ds h=.ok (.at h.length) (h++[o]):=by unfold V5;rw[gF,gG,z];rfl
end
section
variable {h h' h0 t h1:TH}{i k m n:Nat}{l:Φ}{y:D}{o:TM}{ρ:Rb}{fa fb:RE}{fA:RA}{fT:RT}{xs:Φ}
theorem aZ (z:fa ρ h=.ok (.at i) h)(e:h[i]?=[Ϟ,c,ds])(hd:ds[n]?=Ϥ):QP c n fa ρ h=.ok y h:=by unfold QP;rw[z];show QL (Y8 c h (.at i)) _=_;grind[Y8,aW,bJ,gE,QL,eg]
theorem VP:(h0++t)[h0.length+k]?=t[k]?:=by grind
theorem fW:(h0++t)[h0.length]?=t[0]?:=VP (k:=0)
theorem xI:(h0++t).set (h0.length+k) o=h0++t.set k o:=Τ
theorem uR:(h0++t).set h0.length o=h0++t.set 0 o:=xI (k:=0)
theorem pM (z1:fa ρ h=.ok (.at i) h)(z2:h[i]?=[ϥ,l])(z3:fA ρ h=.ok [y] h)(hl:l.length<16777216):Wr fa fA ρ h=[ZW,[ϧ,.ml (l++[y])]]:=by(have e1:UZ h (.at i)=se (i,l):=by grind[UZ,aW]);unfold Wr;rw[z1];show QL (UZ h (.at i)) _=_;rw[e1];rw[z3];show QL (UZ h (.at i)) _=_;rw[e1];show Q3 (bq (Rx l) 16777216) _=_;rw[aR,bR.mpr hl,iD,gY];rfl
theorem fY (z:fA ρ h=[ν,xs])(b:big xs=tj):SW fA ρ h=[ν,.tup xs]:=by unfold SW;rw[z];show Q3 (big xs) _=_;rw[b];rfl
theorem im {m:Bool}(z:fA ρ h=[ν,xs])(b:big xs=tj):Rk m fA ρ h=mk m xs h':=by unfold Rk;rw[z];show Q3 (big xs) _=_;rw[b];rfl
theorem WX {bs:NK}:XT YD [.lst Hs] h=.ok (.bl (bs.any id)) h:=by(have:∀l,QJ dBl (l.map D.bl)=te:=λl=>by induction l with| nil=>rfl| cons x l ih=>exact Qx.mpr #[_,_,rfl,ih,rfl]);show QL (QJ dBl (bs.map D.bl)) _=_;rw[this];show[NR,YD bs,h]=_;rw[B6]
theorem Cy (hn:n<=1000)(z:fa ρ h=.ok NJ h):WO ff fa ρ h=.ok (Qu (aM n)) h:=by(have e:∀n k,dUp k n=(jw k n).map nD:=λn=>by induction n with| zero=>intro k;rfl| succ n ih =>intro k;rw[wu,bA,<-ih (k+1)];rfl);unfold WO;rw[z];show Q3 (cf n 1000) (R.ok (D.lst (dUp 0 n)) h)=_;rw[eE.mpr hn,e,<-v8];rfl
theorem l9 (z:fa ρ (h0++t)=.ok (.at (h0.length+k)) (h0++t))(e:t[k]?=[ϥ,l])(zA:fA ρ (h0++t)=.ok [y] (h0++t))(hl:l.length<=1000):Wr fa fA ρ (h0++t)=[ZW,h0++t.set k (.ml (l++[y]))]:=by rw[pM z (VP.trans e) zA (NAG.gl63 hl),xI]
theorem cdm {l:XK}(a:∀x,cd n m (g x)):∀d∈'K',cd n m d:=Τ
theorem xJ (hi:n<=i)(e:h[i]?=[ϥ,l])(z:∀d∈l,cd n 8 d):fz h n 9 (.at i)=[π,l]:=by show(bif bq i n then se (D.at i)else match eg h i with| some (.ml ds)=>TZ (QJ (fz h n 8) ds) .lst| _=>ng)=_;rw[show bq i n=ff from gj.mpr λz=>by have:=Mo;exact NAG.gl0 this hi,aW,e];grind[TZ,QJ,fz,jh,fV]
theorem Ju:Rp [Z0] h=.ok Md h:=by show R.ok [H7,Rx l] h=_;rw[aR];rfl
theorem db {l:XK}:Rp [.lst 'K'] h=.ok Md h:=by rw[Ju,a8]
theorem eF {l:XK}(z1:fa ρ h=.ok (.lst 'K') h)(z2:fb ρ h=.ok LV h)(e:l[k]?=lT):Q5 fa fb ρ h=.ok (g a) h:=aD z1 z2 (by show QL (Zl 'K' k) _=_;rw[V7,bo,e];rfl)
theorem n6 (z1:fa ρ h=.ok (.lst a) h)(z2:fb ρ h=.ok (.lst b) h):Zg fa fb ρ h=.ok (nZp [.lst a,.lst b]) h:=by unfold Zg;rw[z1];show[J9,fb ρ h]=_;rw[z2];rfl
theorem CA (z1:fa ρ h=.ok (.lst a) h)(z2:fb ρ h=.ok (.lst b) h)(z3:fc ρ h=.ok (.lst c) h):rIz3 fa fb fc ρ h=.ok (nZp [.lst a,.lst b,.lst c]) h:=by unfold rIz3;rw[z1];show[J9,fb ρ h]=_;rw[z2];show[J9,fc ρ h]=_;rw[z3];rfl
theorem sB {κ:Fl->TH->tv}(z:fT ρ h=[ϲ,b])(a:b=tj->(QU fa ρ h1).bnd κ=r)(c:b=ff->(g ρ h1).bnd κ=r):(Ql (Rc fT (QU fa) Q9) g ρ h).bnd κ=r:=by cases b;exact sF z (c rfl);exact sT z (a rfl)
theorem mj (e:h[i]?=[ϥ,l]):Rp [.at i] h=.ok Md h:=by unfold Rp eK eS;dsimp only;rw[aW,e];show R.ok [H7,Rx l] h=_;rw[aR];rfl
theorem zcf (z:fa ρ (h0++t)=.ok (.at (h0.length+k)) (h0++t))(e:t[k]?=[ϥ,l++[y]]):Xl fa ρ (h0++t)=.ok y (h0++t.set k (.ml l)):=by unfold Xl;rw[z];show QL (UZ (h0++t) (.at (h0.length+k))) _=_;rw[show UZ (h0++t) (.at (h0.length+k))=se (h0.length+k,l++[y])by unfold UZ;dsimp only;rw[aW,VP,e]];show QL (eg (l++[y]) (Rx (l++[y])-1)) _=_;rw[aW,aR,show(l++[y])[(l++[y]).length-1]?=Ϥ by simp];show R.ok y (hs (h0++t) (h0.length+k) (.ml (YB (l++[y]))))=_;rw[iD,xI,uM,v9]
theorem n8 (Inv:Nat->Rb->TH->Prop)(iB:Rb->TH->Prop)(hs:∀m ρ h,Inv m ρ h->∃b h1,fT ρ h=[ϲ,b]/\(b=tj->On (fs ρ h1) fun ρ2 h2=>∃m',m'<m/\Inv m' ρ2 h2)/\(b=ff->iB ρ h1))(h0:Inv n ρ h):On (Uk ng fT fs ρ h) iB :=Jo Inv iB (λm ρ h I=>let #[b,h1,e,t,f]:=hs m ρ h I;#[b,h1,e,λz=>let #[ρ2,h2,e2,m',l,I2]:=t z;#[ρ2,h2,m',e2,l,I2],f]) h0
end
section
variable {h h' h1:TH}{i k:Nat}{l:Φ}{y:D}{ρ:Rb}{fa fb fc:RE}{fT fU:RT}{b:Bool}{n m:Int}
theorem rq (z:fT ρ h=[ϲ,tj])(u:fU ρ h1=r):Ul fT fU ρ h=r:=by unfold Ul;rw[z];exact u
theorem uS (z:fT ρ h=[ϲ,ff]):Ul fT fU ρ h=[ϲ,ff]:=by unfold Ul;rw[z];rfl
theorem rr (z:fT ρ h=[ϲ,b]):Xa fT ρ h=[ϲ,! b]:=by unfold Xa;rw[z];rfl
theorem CB (e:h[i]?=[ϥ,l]):eS h (.at i)=te:=by unfold eS;dsimp only;rw[aW,e]
theorem CD (z1:fa ρ h=.ok (.at i) h)(e:h[i]?=[ϥ,l])(z2:fb ρ h=.ok NJ h)(e2:Zl l n=Ϥ):Q5 fa fb ρ h=.ok y h:=aD z1 z2 (by unfold Yg eK;dsimp only;rw[aW,e];show QL (eS h (.at i)) _=_;rw[CB e];show QL (Zl l n) _=_;rw[e2];rfl)
theorem hK {l:XK}(z1:fa ρ h=.ok (.at i) h)(e:h[i]?=[ϥ,'K'])(z2:fb ρ h=.ok LV h)(e2:l[k]?=lT):Q5 fa fb ρ h=.ok (g a) h:=CD z1 e z2 (by rw[V7,bo,e2];rfl)
theorem xK (z1:fa ρ h=.ok (.at i) h)(e:h[i]?=[ϥ,l++[y]]):Q5 fa (rUn X9 [΢,1]) ρ h=.ok y h:=CD z1 e rfl (by rw[Cj,Ac])
theorem CG (z:fa ρ h=.ok (.at i) h)(e:h[i]?=[ϥ,l++[y]]):Xl fa ρ h=.ok y [ϧ,.ml l]:=by unfold Xl;rw[z];show QL (UZ h (.at i)) _=_;unfold UZ;dsimp only;rw[aW,e];show QL (eg (l++[y]) (Rx (l++[y])-1)) _=_;rw[aW,aR,show(l++[y])[(l++[y]).length-1]?=Ϥ by simp];show R.ok y (hs h i (.ml (YB (l++[y]))))=_;rw[iD,uM,v9]
theorem pN {l:Zv}(z1:fa ρ h=.ok (.at i) h)(z2:fb ρ h=.ok LV h)(e:h[i]?=[ϥ,l.map .int])(e2:l[k]?=σ)(z3:fc ρ h=.ok NJ h):XH op fa fb fc ρ h=[ϱ,ρ,[ϧ,.ml ((l.set k (op x n)).map .int)]]:=by(have e1:UZ h (.at i)=se (i,l.map .int):=by unfold UZ;dsimp only;rw[aW,e]);unfold XH;rw[z1];show[϶,fb ρ h]=_;rw[z2];show QL (UZ h (.at i)) _=_;rw[e1];show QL (eg 'y' k) _=_;rw[aW,bo,e2];rw[z3];show QL (UZ h (.at i)) _=_;rw[e1];show Q3 (bq k (Rx 'y')) (R.ok Hl (hs h i (.ml (WJ 'y' k (.int (op x n))))))=_;rw[aR,a8,bR.mpr (aH.mp e2).1,iD,eJ,pr];rfl
theorem xL (z1:fa ρ h=.ok y h)(z2:fb ρ h=.ok (.at i) h)(z3:fc ρ h=.ok LV h)(e:h[i]?=[ϥ,l])(hk:k<l.length):XE fa fb fc ρ h=[ϱ,ρ,[ϧ,.ml (l.set k y)]]:=by unfold XE;rw[z1];show[϶,fb ρ h]=_;rw[z2];show[϶,fc ρ h]=_;rw[z3];show(bif Yg (.at i) h then _ else gSet (.at i) LV y ρ h)=_;unfold Yg eK gSet UZ;dsimp only;rw[aW,e];show Q3 (bq k (Rx l)) (R.ok Hl (hs h i (.ml (WJ l k y))))=_;rw[aR,bR.mpr hk,iD,eJ];rfl
theorem sE {f:RS}{κ:Fl->TH->tv}(z:f ρ h=[ϱ,ρ1,h1])(k:κ (.nx ρ1) h1=r):(f ρ h).bnd κ=r:=by rw[z];exact k
theorem On.imp (z:On r P)(f:∀ ρ h,P ρ h->P' ρ h):On r P':=let #[ρ,h,e,q]:=z;#[ρ,h,e,f _ _ q]
theorem uT (l:υ):l=[]\/∃a b,l=a++[b]:=by rcases List.eq_nil_or_concat l with z | ⟨a,b,z⟩;exact .inl z;exact .inr #[a,b,by rw[z,List.concat_eq_append]]
theorem CJ (z:fT ρ h=[ϲ,tj])(u:fa ρ h1=r):Zh fT fa fb ρ h=r:=by unfold Zh;rw[z];exact u
theorem CK (z:fT ρ h=[ϲ,ff])(u:fb ρ h1=r):Zh fT fa fb ρ h=r:=by unfold Zh;rw[z];exact u
theorem za3 (z:fT ρ h=[ν,tj]):Zf fT fU ρ h=[ν,tj]:=by unfold Zf;rw[z];rfl
theorem n9 (z:fT ρ h=[ν,ff]):Zf fT fU ρ h=fU ρ h':=by unfold Zf;rw[z];rfl
theorem xM (c:n=m):SO ff NJ (.int m) h=.ok TE h:=by rw[eq_int,P9 c];rfl
theorem uU (c:¬n=m):SO ff NJ (.int m) h=.ok Nq h:=by rw[eq_int,Qb c];rfl
theorem uV (z:fa ρ h=[ϲ,TE])(u:fb ρ h1=r):Uv fa fb ρ h=r:=by unfold Uv;rw[z];exact u
theorem xO (z:fa ρ h=[ϲ,Nq]):Uv fa fb ρ h=[ϲ,Nq]:=by unfold Uv;rw[z];rfl
theorem Jx (z:fa ρ h=[ϲ,TE]):Ze fa fb ρ h=[ϲ,TE]:=by unfold Ze;rw[z];rfl
theorem zb0 (z:fa ρ h=[ϲ,Nq])(u:fb ρ h1=r):Ze fa fb ρ h=r:=by unfold Ze;rw[z];exact u
theorem zew (z:fa ρ h=.ok (.at i) h)(e:h[i]?=[ϥ,l]):SB fa ρ h=.ok (VE (.at i)) h:=by unfold SB;rw[z];show QL (eS h (.at i)) _=_;rw[CB e];rfl
theorem pO (c:n<m):Y6 NJ (.int m) h=.ok TE h:=by rw[lt_int,P9 c]
theorem ru (c:¬n<m):Y6 NJ (.int m) h=.ok Nq h:=by rw[lt_int,Qb c]
theorem oa (c:m<n):X2 NJ (.int m) h=.ok TE h:=by rw[gt_int,P9 c]
theorem og (c:¬m<n):X2 NJ (.int m) h=.ok Nq h:=by rw[gt_int,Qb c]
theorem oh {h:υ}(e:h[i]?=Υ):[ϧ,p][i]?=ο:=gT '<'.1
theorem pP {h:υ}(e:h[i]?=Υ):[ϧ,o]=h:=by apply i8;grind
theorem ints_set {l:Zv}:'y'.set i Z8=(l.set i x).map D.int:=by rw[pr]
end
section
variable {h h' t:TH}{me aS aP:Nat}{N:NAP.T9}{ac ab:Zv}{o:TM}{e k b:Nat}
theorem QV.ai (p:QV h me aS aP N ac ab)(z1:fa ρ h=.ok (.at me) h)(z2:fb ρ h=.ok KJ h)(hl:N.bB[e]?=te):Q5 (QP 0 4 fa) fb ρ h=.ok (Qu l) h:=eF (aZ z1 p.mi rfl) z2 hl
theorem xP (p:QV h me aS aP N ac ab)(t:NAP.Wd N e k b):SZ [.at me,KJ,LV] h=.ok (.int b) h:=by obtain⟨q,hq,hp⟩:=t;have w:=p.wf.lo k q hq;refine[ώ,sA (eF [ξ,p.mi,rfl] rfl hq) [Ϸ,?_]];rcases hp with ⟨rfl,rfl⟩ | ⟨rfl,rfl⟩;exact CJ (aQ [Ψ,rfl,xM rfl]) rfl;exact CK (aQ [Ψ,rfl,uU (by lia)]) rfl
theorem xQ (p:QV h me aS aP N ac ab)(hk:k<ac.length):Ue [.at me,KJ,LV] h=.ok (.bl (goB N ac e k)) h:=by refine[ώ,[Ϸ,?_]];unfold goB;by_cases c:e<N.G;rw[P9 c];exact Jx (aD rfl [ξ,p.mi,rfl] (pO Τ));rw[Qb c];exact zb0 (aD rfl [ξ,p.mi,rfl] (ru Τ)) [Ψ,hK [ξ,p.mi,rfl] p.st rfl (NAM.getD_at hk),gt_int]
theorem CL (p:QV h me aS aP N ac ab):Re [.at me] h=.ok (Qu (rest N ab)) h:=by have hg:=p.wf.gle;have jp:=p.sm;have qn:=p.lp;exact[ώ,[Ϸ,cM (rk [Ω,[ξ,p.mi,rfl]] (NAG.gl115 hg jp)) rg (by grind) (λg hg=>#[_,rfl,aQ [Ψ,hK [ξ,p.mi,rfl] p.sp rfl (NAM.getD_at (by grind)),gt_int],λ_=>rfl]) rfl]]
theorem xR (p:QV h me aS aP N ac ab)(hl:es.length<1000)(he:∀e∈es,e<N.nE):R7 [.at me,Qu es] h=.ok (.bl (es.any (VR N ab))) h:=by have:=WX (h:=h) (bs:=es.map (VR N ab));rw[wG] at this;refine[ώ,[Ϸ,aK [Ω,cA (v:=λe=>.bl (VR N ab e)) Og cU hl (λe he'=>#[_,rfl,?_]) cj.symm] this]];unfold VR;by_cases c:N.G<=e;rw[P9 c];exact uV (aD rfl [ξ,p.mi,rfl] (ge_int.trans (by rw[P9 Τ]))) [Ψ,hK [ξ,p.mi,rfl] p.sp rfl (NAM.getD_at (by rw[p.lp];exact he e he')),gt_int];rw[Qb c];exact xO (aD rfl [ξ,p.mi,rfl] (ge_int.trans (by rw[Qb Τ])))
theorem zbE (p:QV h me aS aP N ac ab)(hl:aa.length=N.nE)(t:NAP.Wd N e k b):Uo [.at me,KJ,LV,LP] h=.ok (.bl (XQ N ac aa e k b)) h:=by obtain⟨t1,t2,t3⟩:=xf p.wf t;have F:=bh (fa:=ζ) (fA:=[Ϧ,Qc θ Qg]) (ρ:=[se (.at me),[ω,e],[ω,k],[π,ZY]]) rfl p.mi rfl (xP p t);have C:=λ{y:Bool} (z:SO ff (.int (NAP.Lv aa b)) (.int (NAP.Lv aa e+1)) h = .ok (.bl y) h)=>aD (eF (fa:=χ) rfl F (qV Τ)) (aD (o:=S8 ff) (eF (fa:=χ) (fb:=ε) rfl rfl (qV Τ)) (fb:=[΢,1]) rfl rfl) z;refine[ώ,[Ϸ,?_]];unfold XQ;by_cases c:[ZD,b]=[ZD,e]+1;rw[P9 c];exact uV (C (xM c)) [ϊ,p.mi,rfl,xQ p (by rwa [p.ls])];rw[Qb c];exact xO (C (uU c))
inductive SkI (h:TH) (me e tr:Nat) (N:NAP.T9) (ac ab aa:Zv) (g:Nat) (ah:Zv) (es way:Zw) (P:Zv->Prop) (h':TH):Prop
 | mk (aj:Zv) (eh:[O5,tr,WM]=h') (W:NAP.Walk N ac ab aa g aj es way) (hp:[PR,aj]<=[PR,ah]) (hx:∀b,NAP.W4 N ab ah b->NAP.W4 N ab aj b) (p:P aj)
theorem JB (p:QV h me aS aP N ac ab)(n1:tr≠me)(n2:tr≠aS)(n3:tr≠aP)(ht:h[tr]?=[ϥ,IF])(c5:aa.length=N.nE)(W0:NAP.Walk N ac ab aa g ah es way)(qk:es.getLast?=se e)(sw:e<N.nE) :∃aj,SD [.at me,KJ,LP,.at tr] h=[ZW,[O5,tr,WM]]/\NAP.Walk N ac ab aa g aj es way/\[PR,aj]<=[PR,ah]/\(∀b,NAP.W4 N ab ah b->NAP.W4 N ab aj b)/\∃(l:Zw) (t:Nat),N.bB[e]?=te/\aj[e]?=se (t:Int)/\t<=l.length/\∀k b,l[t]?=se k->NAP.Wd N e k b->XQ N ac aa e k b=tj:=by obtain⟨le,hle⟩:∃le,N.bB[e]?=se le:=#[_,aJ (by rwa [p.wf.len])];obtain⟨ρ',h',q,aj,eh,W,hp,hx,t,ht',gQ,hq⟩:=n8 (fT:=Tq) (fs:=Tp) (λm ρ h'=>ρ=[se (.at me),[ω,e],[π,ZY],se (.at tr),se (Qu le)]/\SkI h me e tr N ac ab aa g ah es way (λaj=>m=[PR,aj]) h') (fun ρ h'=>SkI h me e tr N ac ab aa g ah es way (λaj=>∃t:Nat,aj[e]?=se t/\t<=le.length/\∀k b,le[t]?=se k->NAP.Wd N e k b->XQ N ac aa e k b=tj) h') (λm ρ h1 I=>by obtain⟨rfl,aj,eh,W,hp,hx,rfl⟩:=I;have P1:=eh▸p.set n1 n2 n3;have ht1:=eh▸oh ht;obtain⟨z,hz⟩:∃z,aj[e]?=se z:=#[_,aJ (by have:=W.tr.len;simp_all)];obtain⟨z0,z1⟩:=W.tr.ok e le z hle hz;obtain⟨t,rfl⟩:=o0 z0;have A:=hK (fa:=χ) (fb:=ε) (ρ:=[se (.at me),[ω,e],[π,ZY],se (.at tr),se (Qu le)]) rfl ht1 rfl hz;by_cases c:t<le.length;have hk:=aJ c;obtain⟨b,hb⟩:=xg p.wf hle (aG hk);generalize le[t]=k at hk hb;refine#[! XQ N ac aa e k b,h1,rq (aQ (aD A (aK [Ω,rfl] db) (pO Τ))) (rr (aQ [ϊ,P1.mi,[Ϙ,aE (eF rfl A hk) [Ω,rfl]],zbE P1 c5 hb])),λcl=>?_,λcl=>?_];(have nl:∀b',¬NAP.Wf N ac aa e k b':=λb' L=>by have:=hb.uniq p.wf L.1;subst this;rw[(BG p.wf hb p.ls).mpr L] at cl;cases cl);have:=NAP.XJ hle hz c;exact nE (pN rfl rfl ht1 hz rfl) #[_,by exact uh this,rfl,aj.set e (t+1),by rw[<-eh,ja];rfl,W.skip qk hle hz hk nl,by lia,λb' h=>(hx b' h).keep hle hz Τ,rfl];refine#[aj,eh,W,hp,hx,t,hz,Τ,λk' b' cN sJ=>?_];rw[hk] at cN;cases cN;have:=hb.uniq p.wf sJ;subst this;simpa using cl;refine#[ff,h1,uS (aQ (aD A (aK [Ω,rfl] db) (ru Τ))),λz=>(nomatch z),λ_=>#[aj,eh,W,hp,hx,t,hz,Τ,λk' b' cN sJ=>?_]];rw[eG (by exact uf c)] at cN;cases cN) #[rfl,ah,pP ht,W0,ϭ,λb h=>h,rfl];refine#[aj,[ώ,sA (p.ai rfl rfl hle) (sE q (by rw[<-eh];exact bH eD))],W,hp,hx,le,t,hle,ht',gQ,hq]
end
section
variable {h t:TH}{me aS aP i:Nat}{N:NAP.T9}{ac ab:Zv}{o:TM}{e k b:Nat}
theorem mn {h t:υ}{o:α}(l:i<h.length):(h++t).set i o=[ϧ,o]++t:=List.set_append_left i o l
theorem rx {h:υ}(l:i=h.length):(h++[x]).set i y=h++[y]:=Τ
theorem pQ {h:υ}(l:i=h.length):(h++[x])[i]?=σ:=by subst l;rw[gw ϭ,qM];rfl
theorem jm {l:Zv}:∀d∈'y',cd n (m+1) d:=λd hd=>by obtain⟨x,_,rfl⟩:=lP;trivial
theorem ry {l:Zw}:∀d∈JR,cd n (m+1) d:=λd hd=>by obtain⟨x,_,rfl⟩:=lP;trivial
inductive BhI (h:TH) (me st:Nat) (row:Zw) (N:NAP.T9) (ac:Zv) (d:Nat) (aq:Zv) (P:Nat->Nat->Prop) (t4:VK) (ρ:Rb) (h1:TH):Prop
 | mk (aa:Zv) (ap:Zw) (t5 t6:VK) (er:ρ=[se (.at me),se (Qu row),se (.at st),se (.at h.length),t4,t5,t6]) (eh:[O5,st,ZY]++[.ml (ap.map nD)]=h1) (B:NAP.aV N ac d row aq P aa ap) (hu:ap.length+Py=NAP.unr aq)
theorem zem {st d:Nat}(p:QV h me aS aP N ac ab)(c:Ϣ)(n1:st≠me)(n2:st≠aS)(n3:st≠aP)(ly:h[st]?=[ϥ,aq.map .int])(sH:aq.length=N.nE)(tz:row.length<=900)(iV:∀e∈row,NAP.Lv aq e=d) :∃(aa:Zv) (ap:Zw),TU [.at me,Qu row,.at st] h=.ok (Qu ap) [O5,st,ZY]/\NAP.aV N ac d row aq (λa _=>a∈row) aa ap/\ap.length+Py=NAP.unr aq:=by have stl:=(aH.mp ly).1;have jp:=p.sm;obtain⟨ρ2,h2,q,t4,aa,ap,t5,t6,rfl,eh,B,hu⟩:=eM (f:=Ut) (fg:=rN 4) (fi:=Z1) (h:=h++[.ml []]) (λi ρ h1=>∃t4,BhI h me st row N ac d aq (λa _=>a∈NI) t4 ρ h1) rfl (λi ρ h _=>cU i) (NAG.gl12 tz) #[ng,aq,[],ng,ng,rfl,by rw[pP ly];rfl,NAP.aV.start.weak (λa k h=>by simp at h),by simp] (λi e ρ h1 he I=>by obtain⟨t4,aa,ap,t5,t6,rfl,eh,B,hu⟩:=I;have hem:=aG he;have sC:=iV e hem;obtain⟨le,hle⟩:∃le,N.bB[e]?=se le:=#[_,aJ (by rw[p.wf.len];exact by rw[<-sH];exact lZ Τ)];have ll:=p.la e le hle;refine#[_,rfl,(eM (λj=>BhI h me st row N ac d aq (λa k=>a∈NI\/(a=e/\k∈le.take j)) (se (nD e))) (fI ((eh▸(p.set n1 n2 n3).app).ai rfl rfl hle)) (λi ρ h _=>cU i) (NAG.gl12 ll) #[aa,ap,t5,t6,rfl,eh,B.weak (λa k h=>by simpa using h),hu] λj k ρ h1 hk I=>?_).imp fun ρ2 h2 #[aa,ap,t5,t6,e1,eh,B,hu]=>#[_,aa,ap,_,_,e1,eh,B.weakT λa k b h t=>?_,hu]];obtain⟨aa,ap,t5,t6,rfl,eh,B,hu⟩:=I;have P1:=eh▸(p.set n1 n2 n3).app;have eW:=eh▸g9 (oh ly);obtain⟨b,ht⟩:=xg p.wf hle (aG hk);obtain⟨_,hbn,jM⟩:=xf p.wf ht;rw[<-p.ls] at jM;(have c5:aa.length=N.nE:=by rw[B.len,sH]);(have nxt:∀{aa:Zv} {ap:Zw},NAP.aV N ac d row aq (λx y=>(x∈NI\/(x=e/\y∈le.take j))\/(x=e/\y=k)) aa ap->NAP.aV N ac d row aq (λa k=>a∈NI\/(a=e/\k∈le.take (j+1))) aa ap:=λ{aa ap} B=>B.weak λa y h=>by rw[take_snoc hk] at h;rcases h with h | ⟨h1,h2⟩;exact .inl (.inl h);rcases dE.mp h2 with h2 | h2;exact .inl (.inr #[h1,h2]);exact .inr #[h1,cT.mp h2]);have lb:=qV (aa:=aa) (e:=b) Τ;have lE:=qV (aa:=aa) (e:=e) Τ;(have hle1:[ZD,e]=d:=by rwa [B.old e Τ]);rw[hle1] at lE;refine#[_,rfl,nA [ϊ,P1.mi,[Ϙ,[Ω,rfl]],xP P1 ht] ?_];by_cases c1:[ZD,b]<0/\goB N ac e k=tj;obtain⟨c1,c2⟩:=c1;have hu':=NAP.unr_set lb c1 (show(0:Int)<=d+1 from NAG.gl60);have hul:=NAP.unr_len aq;refine nT (rq (aQ [Ψ,hK rfl eW rfl lb,pO c1]) (aQ [ϊ,P1.mi,[Ϙ,[Ω,rfl]],c2▸xQ P1 jM])) (nG (xL [Ψ,hK rfl eW rfl lE,rfl] rfl rfl eW (by rw[a8];simp_all)) (nE (cR (pM rfl (by rw[ee (cI stl),<-eh];exact pQ (by rw[eD])) rfl (by rw[a8];lia))) #[aa.set b (d+1),ap++[b],_,_,rfl,?_,nxt (B.mark p.wf ht ((xb jM).mp c2) hem c1 Τ),by simp;lia]));rw[<-eh,mn (by rwa [eD]),ja,rx (by rw[eD]),pr,cP];rfl;by_cases c2:[ZD,b]<0;(have c3:=by simpa [c2] using c1);exact nF (rq (aQ [Ψ,hK rfl eW rfl lb,pO c2]) (aQ [ϊ,P1.mi,[Ϙ,[Ω,rfl]],c3▸xQ P1 jM])) (nE rfl #[aa,ap,_,_,rfl,eh,nxt (B.skip p.wf ht (.inr λz=>c1 #[c2,(xb jM).mpr z])),hu]);exact nF (uS (aQ [Ψ,hK rfl eW rfl lb,ru c2])) (nE rfl #[aa,ap,_,_,rfl,eh,nxt (B.skip p.wf ht (.inl Τ)),hu]);rw[take_snoc he] at h;rcases dE.mp h with h | h;exact .inl h;have:=cT.mp h;subst this;refine .inr #[rfl,?_];rw[Z9];exact t.mem p.wf hle);refine#[aa,ap,[ώ,sA XM (sG q (sR rfl ?_))],B.weak λa k h=>?_,hu];rw[<-eh,show h.length=(h.set st (TM.ml ZY)).length by rw[eD]];exact pL (c.set jm) ϭ (pQ rfl) ry;rw[Z9];exact h
end
section
variable {h t:TH}{me aS aP i:Nat}{N:NAP.T9}{ac ab:Zv}{e:Nat}
theorem mul_one {n:Nat}(hn:n<=1000):Vs m (.lst [x]) NJ h=mk m (be n x) h:=by show Q3 [K7,n] (mk m (eRep n x) h)=_;rw[eE.mpr (by lia),B2];rfl
theorem QV.ltS (p:QV h me aS aP N ac ab):me<h.length/\aS<h.length/\aP<h.length:=#[(aH.mp p.mi).1,(aH.mp p.st).1,(aH.mp p.sp).1]
theorem xS:List.replicate n (D.int x)=(be n x).map D.int:=by rw[List.map_replicate]
inductive StI (h:TH) (me:Nat) (N:NAP.T9) (ac ab:Zv) (t:VK) (P:Zw->Zv->Prop) (ρ:Rb) (h1:TH):Prop
 | mk (d:Nat) (row:Zw) (aa:Zv) (er:ρ=[se (.at me),se (.at h.length),se (Qu row),t]) (eh:h++[.ml ZY]=h1) (l:aa.length=N.nE) (R:NAP.Rows N ac ab d row aa) (p:P row aa)
theorem CM (p:QV h me aS aP N ac ab)(c:Ϣ) :∃aa:Zv,Sb [.at me] h=.ok LP h/\aa.length=N.nE/\Found N ac ab aa:=by have jp:=p.sm;have hg:=p.wf.gle;obtain⟨l1,l2,l3⟩:=p.ltS;have tz:=BH (N:=N) (ab:=ab);obtain⟨ρ1,h1,q1,aa,t,rfl,eh,c5,sC⟩:=eM (f:=TC) (fg:=rN 3) (fi:=Wp) (h:=h++[.ml ((be N.nE (-1)).map .int)]) (λi ρ h1=>∃(aa:Zv) (t:Option D),ρ=[se (.at me),se (.at h.length),se (Qu (rest N ab)),t]/\h++[.ml ZY]=h1/\aa.length=N.nE/\∀e,[ZD,e]=if e∈(rest N ab).take i then 0 else-1) rfl (λi ρ h _=>cU i) (NAG.gl9 tz hg jp) #[_,ng,rfl,rfl,by rw[nu],λe=>by unfold NAP.Lv;rw[bC,lI];split<;>simp] (λi g ρ h1 hg1 I=>by obtain⟨aa,t,rfl,eh,c5,sC⟩:=I;have iH:=V2.mp (aG hg1);refine#[_,rfl,nE (xL rfl rfl rfl (eh▸pQ rfl) (by rw[a8];exact NAG.gl11 iH c5 hg)) #[aa.set g 0,se (nD g),rfl,by rw[<-eh,rx rfl,pr],by rwa [eD],λe=>?_]];rw[NAP.Yo (NAG.gl11 iH c5 hg),take_snoc hg1];by_cases c:e=g;subst c;simp;rw[oO,sC e];simp[c]);rw[Z9] at sC;obtain⟨ρ2,h2,q2,d,row,steps2,rfl,cO,hsl2,R,hf⟩:=n8 (fT:=TF) (fs:=TB) (ρ:=[se (.at me),se (.at h.length),se (Qu (rest N ab)),t]) (n:=2*Py+(if rest N ab=[]then 0 else 1)) (λm=>StI h me N ac ab t λrow aa=>row.length<=900/\m=2*Py+(if row=[]then 0 else 1)) (StI h me N ac ab t λrow _=>row=[]\/∃e∈row,NAP.RC N ab e) (λm ρ h1 I=>by obtain⟨d,row,aa,rfl,eh,c5,R,iV,rfl⟩:=I;have P1:=eh▸p.app;(have inr:∀e∈row,e<N.nE:=λe he=>by have:=(R.row e).mp he;rw[<-c5];exact lZ Τ);by_cases c0:row=[];exact#[ff,h1,uS (aQ [Ψ,aK [Ω,rfl] db,og (by rw[c0];decide)]),λz=>(nomatch z),λ_=>#[d,row,aa,rfl,eh,c5,R,.inl c0]];have lp:=eY.mpr c0;refine#[! row.any (VR N ab),h1,rq (aQ [Ψ,aK [Ω,rfl] db,oa Τ]) (rr (aQ [ϊ,P1.mi,[Ω,rfl],xR P1 (show row.length<1000 from NAG.gl12 iV) inr])),λca=>?_,λca=>?_];(have oJ:∀e∈row,¬NAP.RC N ab e:=λe he hR=>by have:row.any (VR N ab)=tj:=ia.mpr #[e,he,(pH (by rw[p.lp];exact inr e he)).mpr hR];rw[this] at ca;cases ca);obtain⟨steps2,ap,q,B,hu⟩:=zem P1 (eh▸c.app jm) (by exact eV l1) (by exact eV l2) (by exact eV l3) (eh▸pQ rfl) c5 iV λe he=>(R.row e).mp he;have hul:=NAP.unr_len aa;refine nE (iE [ϊ,P1.mi,[Ϙ,[Ω,rfl]],q] rfl) #[_,?_,d+1,ap,steps2,rfl,by rw[<-eh,rx rfl],by rwa [B.len],R.next B oJ,by lia,rfl];split;simp_all;rename_i hb;have:=eY.mpr hb;lia;obtain⟨e,he,hR⟩:=ia.mp (by simpa using ca);exact#[d,row,aa,rfl,eh,c5,R,.inr #[e,he,(pH (by rw[p.lp];exact inr e he)).mp hR]]) #[0,rest N ab,aa,rfl,eh,c5,ID p.wf c5 p.lp sC,by lia,rfl];refine#[steps2,[ώ,sA (aD rfl (aK [Ω,[ξ,p.mi,rfl]] (mj p.sp)) ?_) (sA [ϊ,p.app.mi,rfl,CL p.app] (sG q1 (sG q2 (sR rfl ?_))))],hsl2,d,row,R,hf];rw[a8,p.lp,mul_one (NAG.gl10 jp),xS];show[J8,D.at Gl,h,_]=_;rw[gF,gG];rw[<-cO];exact pL c ϭ (pQ rfl) jm
end
section
variable {h t:TH}{me aS aP i:Nat}{N:NAP.T9}{ac ab:Zv}{e k b:Nat}
theorem CN {h:υ}(l:i=h.length+1):(h++[x,y])[i]?=Ϥ:=by subst l;rw[gw Τ,show h.length+1-h.length=1 by simp_all];rfl
theorem xT {h:υ}(l:i=h.length):(h++[x,y])[i]?=σ:=by subst l;rw[gw Τ,qM];rfl
theorem CO {h:υ}(l:i=h.length):(h++[x,y]).set i z=h++[z,y]:=Τ
theorem xU {h:υ}(l:i=h.length+1):(h++[x,y]).set i z=h++[x,z]:=Τ
inductive WI (h:TH) (me g tr:Nat) (N:NAP.T9) (ab aa ah:Zv) (P:Zv->Zw->Zw->Prop) (ρ:Rb) (h1:TH):Prop
 | mk (aj:Zv) (es way:Zw) (t6 t7:VK) (er:ρ=[se (.at me),[ω,(g:Int)],[π,ZY],se (.at tr),se (.at h.length),se (.at (h.length+1)),t6,t7]) (eh:[O5,tr,WM]++[.ml Li,.ml Ls]=h1) (hx:∀b,NAP.W4 N ab ah b->NAP.W4 N ab aj b) (p:P aj es way)
theorem CQ (p:QV h me aS aP N ac ab)(c:Ϣ)(n1:tr≠me)(n2:tr≠aS)(n3:tr≠aP)(ht:h[tr]?=[ϥ,IF])(c5:aa.length=N.nE)(tD:[ZD,g]=0)(hgG:g<N.G)(T0:NAP.Tr N ah)(D0:NAP.VX N ac ab aa ah) :∃(way:Zw) (aj:Zv),Tf [.at me,.int g,LP,.at tr] h=.ok Ho [O5,tr,WM]/\NAP.Tr N aj/\NAP.VX N ac ab aa aj/\(∀b,NAP.W4 N ab ah b->NAP.W4 N ab aj b)/\Way N ac ab aa g aj way/\way.length<=900:=by have jp:=p.sm;have trl:tr<h.length:=(aH.mp ht).1;obtain⟨Bn,hBn⟩:=NAP.lv_top aa;obtain⟨ρ1,h1,q1,aj,es,way,t6,t7,rfl,eh,hx,T1,D1,hw,wl⟩:=n8 (fT:=U6) (fs:=U5) (ρ:=[se (.at me),[ω,(g:Int)],[π,ZY],se (.at tr),se (.at h.length),se (.at (h.length+1)),ng,ng]) (h:=h++[.ml [],.ml ([g].map nD)]) (λm=>WI h me g tr N ab aa ah λaj es way=>NAP.Walk N ac ab aa g aj es way/\m=NAP.wm Bn N.bB aj es) (WI h me g tr N ab aa ah λaj es way=>NAP.Tr N aj/\NAP.VX N ac ab aa aj/\Way N ac ab aa g aj way/\way.length<=900) (λm ρ h1 I=>by obtain⟨aj,es,way,t6,t7,rfl,eh,hx,W,rfl⟩:=I;have iy:∀{x:TM},h.length=(h.set tr x).length:=eD.symm;have P1:QV h1 me aS aP N ac ab:=eh▸(p.set n1 n2 n3).app;have he1:h1[h.length+1]?=[ϥ,Ls]:=eh▸CN (by rw[iy]);have hshort:=W.short tD hBn;rcases uT es with c0 | ⟨es0,e,c0⟩;obtain⟨wn,ex⟩:=W.none c0;exact#[ff,h1,uS (aQ [Ψ,aK [Ω,rfl] (mj he1),og (by rw[c0];decide)]),λz=>(nomatch z),λ_=>#[aj,es,way,t6,t7,rfl,eh,hx,W.tr,W.dead,.inl #[wn,ex],by rw[wn];decide]];(have cn:es≠[]:=by rw[c0];simp);(have oN:es.getLast?=se e:=by rw[c0];simp);(have ed:es.dropLast=es0:=by rw[c0];simp);(have tC:h1[h.length+1]?=[ϥ,es0.map nD++[KJ]]:=by rw[he1,c0,cP];rfl);obtain⟨Pt,h0⟩:=W.path cn;have pl:=Pt.len;(have di:es[way.length]?=se e:=by rw[o8] at oN;rwa [show es.length-1=way.length by simp[pl]] at oN);have hlev:=Pt.lev h0 di;(have sw:e<N.nE:=by rw[<-c5];exact lZ Τ);(have esl:es.length<=900:=by(have nd:es.Nodup:=by refine o7.mpr λi j hi hj hij he=>?_;have iz:es[i]?=se es[i]:=aJ hi;(have hj':es[j]?=se es[i]:=by rw[he];exact aJ hj);have:=Pt.inj h0 iz hj';simp_all);(have:=BI (n:=N.nE) nd λx hx=>by obtain⟨i,hi⟩:=bf hx;have:=Pt.lev h0 hi;rw[<-c5];exact lZ Τ);lia);have lpos:=eY.mpr cn;(have rm:R7 [.at me,.lst [KJ]] h1=[ϲ,.bl (VR N ab e)]:=by(have:=xR (es:=[e]) P1 (by simp) λx hx=>by rw[cT.mp hx];exact sw);simpa [Qu,nD] using this);refine#[! VR N ab e,h1,rq (aQ [Ψ,aK [Ω,rfl] (mj he1),oa (by rw[a8];simp[pl])]) (rr (aQ [ϊ,P1.mi,[Ω,im (m:=ff) [Ω,xK rfl tC] rfl],rm])),λcr=>?_,λcr=>?_];(have oJ:¬NAP.RC N ab e:=λhR=>by rw[(pH (by rw[p.lp];exact sw)).mpr hR] at cr;cases cr);obtain⟨tried2,q2,W2,hpot,hx2,l,t,hl,htt,gQ,hlead⟩:=JB P1 n1 n2 n3 (eh▸g9 (oh ht)) c5 W oN sw;have hZ:∀b,NAP.W4 N ab ah b->NAP.W4 N ab tried2 b:=λb h=>hx2 b (hx b h);obtain⟨h2,cO⟩:∃h2,[O5,tr,tried2.map .int]++[.ml Li,.ml Ls]=h2:=#[_,rfl];rw[show h1.set tr (.ml (tried2.map .int))=h2 by rw[<-eh,<-cO,mn (by rwa [<-iy]),ja]] at q2;have P2:QV h2 me aS aP N ac ab:=cO▸(p.set n1 n2 n3).app;have ht2:h2[tr]?=[ϥ,tried2.map .int]:=cO▸g9 (oh ht);have hw2:h2[h.length]?=[ϥ,Li]:=cO▸xT iy;have tw:h2[h.length+1]?=[ϥ,Ls]:=cO▸CN (by rw[iy]);refine nA (xK rfl tC) (nD' [ϊ,P1.mi,[Ϙ,[Ϙ,[Ω,rfl]]],q2] ?_);by_cases ct:t<l.length;have hk:l[t]?=se l[t]:=aJ ct;generalize l[t]=k at hk;obtain⟨b,hb⟩:=xg p.wf hl (aG hk);have W3:=W2.push oN hl htt hk ((BG p.wf hb p.ls).mp (hlead _ b hk hb)) oJ;have hsh:=W3.short tD hBn;rw[eU,vZ] at hsh;(have P3:QV (h2.set h.length (.ml (Li++[LV]))) me aS aP N ac ab:=by obtain⟨a1,a2,a3⟩:=p.ltS;exact P2.set (by exact eV a1) (by exact eV a2) (by exact eV a3));refine nT (aQ (aD (hK rfl ht2 rfl htt) (aK [Ω,P2.ai rfl rfl hl] db) (pO Τ))) (nA (eF (g:=nD) (P2.ai rfl rfl hl) (hK rfl ht2 rfl htt) hk) (nD' (pM rfl hw2 rfl (by rw[a8];lia)) (nE (cR (pM rfl (by rw[ee Τ];exact tw) [Ω,[ϊ,P3.mi,[Ϙ,[Ω,rfl]],xP P3 hb]] (by rw[a8];exact NAG.gl4 esl))) #[_,?_,tried2,es++[b],way++[k],_,_,rfl,?_,hZ,W3,rfl])));unfold NAP.wm;rw[P7 (by simp),P7 cn,eU,vZ];have:=uc (Bn+3) hpot;exact NAG.gl2 this hsh;rw[<-cO,CO iy,xU (by rw[iy]),cP,cP];rfl;rw[show t=l.length from NAG.gl3 gQ ct] at htt;refine nF (aQ (aD (hK rfl ht2 rfl htt) (aK [Ω,P2.ai rfl rfl hl] db) (ru Τ))) (nD' (CG rfl (by rw[tw,c0,cP];rfl)) ?_);have he3:(h2.set (h.length+1) (.ml (es0.map nD)))[h.length+1]?=[ϥ,es0.map nD]:=oh tw;rcases uT es0 with cd | ⟨es1,f,cd⟩;obtain⟨wn,W3⟩:=W2.fin oN (ed.trans cd) hl htt oJ;refine nF (aQ [Ψ,aK [Ω,rfl] (mj he3),og (by rw[cd];decide)]) (nE rfl #[_,?_,tried2,[],[],_,_,rfl,?_,hZ,W3,rfl]);unfold NAP.wm;rw[Cx,P7 cn];simp[hl];rw[<-cO,xU (by rw[iy]),cd,wn];(have cdn:es.dropLast≠[]:=by rw[ed,cd];simp);obtain⟨t2,l2,j1,j2,j3,W3⟩:=W2.pop p.wf oN (f:=f) (by rw[ed,cd];simp) hl htt oJ;rw[ed] at W3 cdn;(have dl:es.length=es0.length+1:=by rw[c0];simp);have hdl:=eY.mpr cdn;(obtain⟨wd,kw,hw⟩:∃wd kw,way=wd++[kw]:=(uT way).resolve_left λz=>by rw[z] at pl;simp at pl;simp_all);rw[hw,v9] at W3;refine nT (aQ [Ψ,aK [Ω,rfl] (mj he3),oa (by rw[a8];simp[*])]) (nD' (CG rfl (by rw[ee Τ,hw2,hw,cP];rfl)) (nE (pN rfl (xK rfl (by rw[ee Τ,he3,cd,cP];rfl)) (by rw[ee (NAG.gl1 trl),ee (by lia)];exact ht2) j2 rfl) #[_,?_,tried2.set f ((t2:Int)+1),es0,wd,_,_,rfl,?_,λb h=>(hZ b h).keep j1 j2 Τ,W3,rfl]));unfold NAP.wm;rw[P7 cdn,P7 cn,dl];have p1:=NAP.XJ j1 j2 j3;have p2:([PR,tried2.set f (t2+1)]+1)*(Bn+3)<=[PR,aj]*(Bn+3):=uc _ Τ;rw[wK] at p2;exact NAG.gl5 p2;rw[<-cO,xU (by rw[iy]),CO iy,mn (by rwa [<-iy]),ja];rfl;have hR:=(pH (by rw[p.lp];exact sw)).mp (show VR N ab e=tj by simpa using cr);refine#[aj,es,way,t6,t7,rfl,eh,hx,W.tr,W.dead,.inr #[?_,es,e,Pt,h0,di,hR],by lia];rintro rfl;rw[show es[0]?=se e from di] at h0;cases h0;have:=hR.1;exact NAG.gl0 hgG this) #[ah,[g],[],ng,ng,rfl,by rw[pP ht];rfl,λb h=>h,#[T0,D0,λ_=>#[#[rfl,λi k hk=>by simp at hk],rfl],λz=>by simp at z,λi k e hk=>by simp at hk],rfl];refine#[way,aj,[ώ,sA XM (sA (h1:=h++[TM.ml [],TM.ml ([g].map nD)]) ?_ (sG q1 (sR rfl ?_)))],T1,D1,hx,hw,wl];show[J8,D.at (hn _),_,_]=_;rw[gF,gG,gb,eU];rfl;rw[<-eh,show h.length=(h.set tr (TM.ml WM)).length by rw[eD]];exact pL (c.set jm) ϭ (xT rfl) ry
end
section
variable {h h' t:TH}{me aS aP i:Nat}{N:NAP.T9}{ac ab sent' ao:Zv}{e k b:Nat}
theorem xV:∀b l,YS JR b=(NAP.Ux b l).map nD| true,[]=>rfl| false,[]=>rfl| true,x::r=>by show nD x::YS (r.map nD) ff=nD x::(NAP.Ux ff r).map nD;rw[xV ff r]| false,x::r=>xV tj r
theorem xW:∀l:Zv,QJ XV 'y'=te:=by intro l;induction l with| nil =>exact rfl| cons x l ih =>exact Qx.mpr #[x,l,rfl,ih,rfl]
theorem QV.putS (p:QV h me aS aP N ac ab)(hl:sent'.length=ac.length):QV [O5,aS,sent'.map .int] me aS aP N sent' ab :=#[by rw[[Hx,p.nS]];exact p.mi,oh p.st,by rw[ee p.ne];exact p.sp,p.ne,p.nS,p.nP,p.wf,hl.trans p.ls,p.lp,p.sm,p.sk,p.la]
theorem QV.putP (p:QV h me aS aP N ac ab)(hl:ao.length=ab.length):QV [O5,aP,ao.map .int] me aS aP N ac ao :=#[by rw[[Hx,p.nP]];exact p.mi,by rw[[Hx,p.ne]];exact p.st,oh p.sp,p.ne,p.nS,p.nP,p.wf,p.ls,hl.trans p.lp,p.sm,p.sk,p.la]
theorem xX {b:Bool}(z:fa ρ h=.ok (Qu l) h):SB (Yz ff b fa) ρ h=.ok (VE (Qu (NAP.Ux b l))) h:=by refine fI ?_;unfold Yz;rw[z];show mk ff (YS JR b) h=_;rw[xV];rfl
theorem CS (p:QV h me aS aP N ac ab)(hd:∀x,op x a=x+d)(hi:fi [se (.at me),x1,x2,x3,[ω,a],x5] h=.ok (VE (Qu ks)) h)(hl:ks.length<=900)(hk:∀k∈ks,k<ac.length) :On (Sj fi (rN 5) (XH op [ϑ,0,2] ϐ μ) [se (.at me),x1,x2,x3,[ω,a],x5] h) fun ρ h'=>(∃t,ρ=[se (.at me),x1,x2,x3,[ω,a],t])/\[O5,aS,(NAP.SA d ac ks).map .int]=h':=by(refine(eM (λi ρ h'=>(∃t,ρ=[se (.at me),x1,x2,x3,[ω,a],t])/\[O5,aS,(NAP.SA d ac Wm).map .int]=h') hi (λi ρ h _=>cU i) (NAG.gl12 hl) #[#[_,rfl],pP p.st] λi k ρ h2 cN I=>?_).imp fun ρ h' I=>by rwa [Z9] at I);obtain⟨⟨t,rfl⟩,eh⟩:=I;have P:=p.putS (sent':=NAP.SA d ac Wm) (by rw[NAP.To]);rw[eh] at P;refine#[_,rfl,nE (pN [ξ,P.mi,rfl] rfl P.st (NAM.getD_at (by rw[NAP.To];exact hk k (aG cN))) rfl) #[#[_,rfl],?_]];rw[<-eh,ja,take_snoc cN,IE,hd]
theorem zbp (p:QV h me aS aP N ac ab)(jX:way.length<=900)(hwn:way≠[])(hF:NAP.Flow N aX ac ab)(Pt:NAP.U0 N aa ac es way)(h0:es[0]?=se g)(h1:es[way.length]?=se f)(hR:NAP.RC N ab f)(hg:g<N.G)(hsg:0<[CX,g]) :∃(a:Int) (ao:Zv),SG [.at me,.int g,Ho] h=[ZW,[O5,aS,(NAP.T6 a ac way).map .int].set aP (.ml (ao.map .int))]/\0<a/\NAP.Sent N aX ac ab way g f a ao/\ao.getD g 0<[CX,g]/\∀e,e<N.G->e≠g->ao.getD e 0=[CX,e]:=by have iW:=p.wf.gle;have qn:=p.lp;obtain⟨hfG,y,hy,hy0⟩:=hR;have hfl:=(aH.mp hy).1;(have lr:=by exact NAG.gl37 hg qn iW);have hgs:=NAM.getD_at lr;obtain⟨w0,kl,jM⟩:=(uT way).resolve_left hwn;obtain⟨a0,b0,ea,eb,tie,_,_⟩:=Pt.link w0.length kl (by rw[jM];simp);rw[show w0.length+1=way.length by rw[jM];simp,h1] at eb;cases eb;obtain⟨pe,hpe,hpq⟩:=tie;have sP:=p.wf.lo kl pe hpe;(have hpf:pe.2=f:=by rcases hpq with ⟨_,z⟩ | ⟨_,z⟩<;>lia);(have kin:∀{b:Bool} {k:Nat},k∈NAP.Ux b way->k<ac.length:=λh=>by rw[p.ls];exact Pt.lt (NAP.WY h));have lao:=uB ff way;have lae:=uB tj way;obtain⟨ml,hml⟩:∃ml,ml=(NAP.Ux ff way).map λk=>[Pp,0]:=#[_,rfl];obtain⟨m1,m2,m3⟩:=B8 (y::ml) [CX,g];obtain⟨a,ha⟩:∃a,XR [CX,g] (y::ml)=a:=#[_,rfl];rw[ha] at m1 m2 m3;(have a3:∀k∈NAP.Ux ff way,∀s,ac[k]?=Ϩ->a<=s:=λk hk s hs=>by have:=m2 [Pp,0] (aY _ (hml▸aO.mpr #[k,hk,rfl]));rwa [show[Pp,0]=s by simp[gU,hs]] at this);(have av:0<a:=by rcases aT.mp m3 with rfl | ha;exact hsg;rcases aT.mp ha with rfl | ha;exact hy0;rw[hml] at ha;obtain⟨k,hk,rfl⟩:=aO.mp ha;obtain⟨s,hs,qi⟩:=Pt.back p.wf h0 hg hk;rwa [show[Pp,0]=s by simp[gU,hs]]);obtain⟨_,h2,q1,⟨t1,rfl⟩,cO⟩:=CS (x2:=se Ho) (fi:=SB (Yz ff tj θ)) p (λ_=>rfl) (xX rfl) (by exact b9 lae jX) λk hk=>kin hk;obtain⟨S1,hS1⟩:∃S1,NAP.SA a ac (NAP.Ux tj way)=S1:=#[_,rfl];(have S1l:S1.length=ac.length:=by rw[<-hS1,NAP.To]);rw[hS1] at cO;have P2:=cO▸p.putS S1l;(obtain⟨_,h3,q2,⟨t2,rfl⟩,eh3⟩:=CS (x2:=se Ho) (fi:=SB (Yz ff ff θ)) P2 (λ_=>Int.sub_eq_add_neg) (xX rfl) (by exact b9 lao jX) λk hk=>by rw[S1l];exact kin hk);obtain⟨S2,i3⟩:∃S2,NAP.SA (-a) S1 (NAP.Ux ff way)=S2:=#[_,rfl];rw[i3] at eh3;have P3:=eh3▸P2.putS (by rw[<-i3,NAP.To]);(have hgf:f≠g:=by lia);obtain⟨s1,eW⟩:∃s1,ab.set g ([CX,g]-a)=s1:=#[_,rfl];(have hy2:s1[f]?=Ϥ:=by rwa [<-eW,NAP.UK hgf]);have P4:QV (h3.set aP (.ml (s1.map .int))) me aS aP N S2 s1:=P3.putP (by rw[<-eW,eD]);have S:=hF.ac p.wf Pt h0 h1 hg (by simp[*]) hgs hy (cE av) m1 (m2 _ aI) a3;refine#[a,s1.set f (y-a),[ώ,sA [Ψ,eF [ξ,p.mi,rfl] (Ci rfl rfl ?_) hpe,hpf▸rfl] (sA (aK (xs:=[.lst (([CX,g]::y::ml).map .int)]) [Ω,aD (e:=.lst (ml.map .int)) (im (aE (hK [ξ,p.mi,rfl] p.sp rfl hgs) [Ω,hK [ξ,p.mi,rfl] p.sp rfl hy]) rfl) (cA (xX rfl) cU (NAG.gl115 lao jX) (λk hk=>#[_,rfl,hK [ξ,p.mi,rfl] p.st rfl (NAM.getD_at (kin hk))]) ?_) ?_] ?_) (sG q1 (sG q2 (sG (eW▸pN [ξ,P3.mi,rfl] rfl P3.sp hgs rfl) (sE (pN [ξ,P4.mi,rfl] rfl P4.sp hy2 rfl) ?_)))))],av,eW▸S,?_,λe he heg=>?_];rw[jM,cP];exact(Cj).trans Ac;rw[hml,cj];rfl;(have mll:ml.length=(NAP.Ux ff way).length:=by rw[hml,a8]);show Q3 [K7,Rx [D.int [CX,g],D.int y]+Rx (ml.map D.int)] (mk ff (YH [D.int [CX,g],D.int y] (ml.map D.int)) h)=_;rw[aR,aR,a8,eE.mpr (by simp;lia),gY];rfl;show QL (QJ XV (([CX,g]::y::ml).map D.int)) _=_;rw[xW];show R.ok (D.int (XR [CX,g] (y::ml))) h=_;rw[ha];rw[ja,<-eh3,<-cO,ja,<-i3,<-hS1];exact bH (by rw[eD,eD]);(have:(s1.set f (y-a)).getD g 0=[CX,g]-a:=by rw[bC,NAP.UK (Ne.symm hgf),<-eW,gT lr];rfl);lia;rw[bC,NAP.UK (NAG.gl105 he hfG),<-eW,NAP.UK heg,<-bC]
end
section
variable {h t:TH}{me aS aP i:Nat}{N:NAP.T9}{ac ab ao:Zv}{e:Nat}
noncomputable def hh (h:TH) (aS aP:Nat) (s q:Zv):TH:=[O5,aS,s.map .int].set aP (.ml (q.map .int))
theorem oi:(hh h aS aP s q).length=h.length:=by unfold hh;rw[eD,eD]
theorem QV.hh (p:QV h me aS aP N ac ab)(h1:s.length=ac.length)(h2:q.length=ab.length):QV (NAY.hh h aS aP s q) me aS aP N s q:=(p.putS h1).putP h2
theorem QV.self (p:QV h me aS aP N ac ab):NAY.hh h aS aP ac ab=h:=by unfold NAY.hh;rw[pP p.st,pP p.sp]
theorem CU (ne:aS≠aP):hh (hh h aS aP s q) aS aP s' q'=hh h aS aP s' q':=by unfold hh;rw[List.set_comm _ _ (Ne.symm ne),ja,ja]
theorem JE (l1:aS<h.length)(l2:aP<h.length):hh (h++t) aS aP s q=hh h aS aP s q++t:=by unfold hh;rw[mn l1,mn (by rw[eD];exact l2)]
theorem uW (c:Ϣ):Cl (hh h aS aP s q):=NAL.RX.Cl.set (NAL.RX.Cl.set c jm) jm
inductive PhI (h:TH) (me aS aP:Nat) (N:NAP.T9) (aX aa ax ak:Zv) (l:Zw) (t3 t4:VK) (P:Zv->Zv->Zv->Prop) (ρ:Rb) (h1:TH):Prop
 | mk (ac ab ah:Zv) (er:ρ=[se (.at me),[π,ZY],se (.at h.length),t3,t4]) (eh:hh h aS aP ac ab++[.ml IF]=h1) (Ph:NAP.VV N aX aa ax ak l ac ab ah) (p:P ac ab ah)
theorem zcj (p:QV h me aS aP N ax ak)(c:Ϣ)(c5:aa.length=N.nE)(hF:NAP.Flow N aX ax ak)(hS:NAP.XW N ax ak aa) :∃ac ab,SY [.at me,LP] h=[ZW,hh h aS aP ac ab]/\NAP.Flow N aX ac ab/\(∀(e:Nat) x y,ak[e]?=σ->ab[e]?=Ϥ->y<=x)/\(∀e,0<=[ZD,e]->NAP.RC N ak e->ab.sum<ak.sum):=by have jp:=p.sm;have iW:=p.wf.gle;have qn:=p.lp;obtain⟨l1,l2,l3⟩:=p.ltS;have tz:=BH (N:=N) (ab:=ak);have P0:=p.app (t:=[.ml ((be N.nE 0).map .int)]);obtain⟨ρ2,h2,q2,t3,t4,s2,sp2,tr2,rfl,cO,Ph,same2⟩:=eM (f:=TD) (fg:=rN 3) (fi:=SB [Ϗ,0,Re,Qg]) (ρ:=[se (.at me),[π,ZY],se (.at h.length),ng,ng]) (λi ρ h1=>∃t3 t4,PhI h me aS aP N aX aa ax ak ((rest N ak).take i) t3 t4 (λ_ ab _=>∀e,e<N.G->e∉(rest N ak).take i->[CX,e]=ak.getD e 0) ρ h1) (fI [ϊ,P0.mi,rfl,CL P0]) (λi ρ h _=>cU i) (NAG.gl9 tz iW jp) #[ng,ng,ax,ak,_,rfl,by rw[p.self],#[hF,tr0 p.wf,zcJ,λe x y h1 h2=>by rw[h1] at h2;cases h2;exact ϳ,.inl #[rfl,rfl,λg hg=>Τ]],λe _ _=>rfl] (λi g ρ h1 hg I=>by obtain⟨t3,t4,ac,ab,ah,rfl,eh,Ph,same⟩:=I;have iH:=V2.mp (aG hg);have tD:=hS.aF g _ iH.1 (NAM.getD_at (NAG.gl11 iH qn iW)) iH.2;have sx:∀{ac ab ah:Zv} {h1:TH},hh h aS aP ac ab++[.ml IF]=h1->NAP.Flow N aX ac ab->QV h1 me aS aP N ac ab/\Cl h1/\h1[h.length]?=[ϥ,IF]:=λ{ac ab ah h1} eh F=>#[eh▸(p.hh (by rw[F.ls,hF.ls]) (by rw[F.lp,hF.lp])).app,eh▸NAL.RX.Cl.app (uW c) jm,eh▸pQ (by rw[oi])];obtain⟨P1,C1,T1⟩:=sx eh Ph.flow;obtain⟨way,tried1,qw,TR1,D1,ex1,hway,jX⟩:=CQ P1 C1 (by exact eV l1) (by exact eV l2) (by exact eV l3) T1 c5 tD iH.1 Ph.tr Ph.dead;(have eh1:hh h aS aP ac ab++[.ml (tried1.map .int)]=h1.set h.length (.ml (tried1.map .int)):=by rw[<-eh,rx (by rw[oi])]);refine#[_,rfl,nA [ϊ,P1.mi,[Ϙ,[Ϙ,[Ω,rfl]]],qw] (n8 (λm ρ h1=>∃way,PhI h me aS aP N aX aa ax ak ((rest N ak).take i) [ω,g] (se Ho) (λac ab ah=>way.length<=900/\(∀e,e<N.G->e∉(rest N ak).take i->e≠g->[CX,e]=ak.getD e 0)/\((way=[]/\(NAP.W4 N ab ah g\/ab.sum<ak.sum))\/(way≠[]/\0<[CX,g]/\∃es f,NAP.U0 N aa ac es way/\es[0]?=se g/\es[way.length]?=se f/\NAP.RC N ab f))/\m=[CX,g].toNat) ρ h1) _ (λm ρ h1 I=>?_) #[way,ac,ab,tried1,rfl,eh1,Ph.walked TR1 D1 ex1,jX,λe he hm _=>same e he hm,hway.imp (λz=>#[z.1,.inl z.2]) (λz=>#[z.1,by rw[same g iH.1 (zbM IG hg)];exact iH.2,z.2]),rfl])];obtain⟨way,ac,ab,ah,rfl,eh,Ph,jX,same,hway,rfl⟩:=I;obtain⟨P1,C1,T1⟩:=sx eh Ph.flow;by_cases cw:way=[];refine#[ff,h1,aQ [Ψ,aK [Ω,rfl] db,og (by rw[cw];decide)],λz=>(nomatch z),λ_=>#[_,_,ac,ab,ah,rfl,eh,by rw[take_snoc hg];exact Ph.one (hway.resolve_right (λz=>z.1 cw)).2,λe he hm=>?_]];rw[take_snoc hg] at hm;simp only[dE,cT,not_or] at hm;exact same e he hm.1 hm.2;obtain⟨_,sg,es,f',Pt,p0,p1,pR⟩:=hway.resolve_left (λz=>cw z.1);obtain⟨a,ao,qs,a0,S,hless,oth⟩:=zbp P1 jX cw Ph.flow Pt p0 p1 pR iH.1 sg;have Ph3:=Ph.ac p.wf Pt p0 iH.1 a0 S;have sO:=S.flow.lp;have sn:=S.flow.sp g _ (NAM.getD_at (NAG.gl11 iH sO iW));(have sU:ao.sum<ak.sum:=by have:=S.sum;rcases Ph.prog with ⟨_,rfl,_⟩ | z<;>lia);(have mQ:∀e,e<N.G->e∉(rest N ak).take i->e≠g->ao.getD e 0=ak.getD e 0:=λe he hm c7=>by rw[oth e he c7];exact same e he hm c7);obtain⟨h2,cO⟩:∃h2,hh h aS aP (NAP.T6 a ac way) ao++[.ml IF]=h2:=#[_,rfl];have q2:SG [.at me,.int g,Ho] h1=[ZW,h2]:=qs.trans (by rw[<-cO,<-eh];show R.ok D.non (hh (hh h aS aP ac ab++_) aS aP _ _)=_;rw[JE (by rwa [oi]) (by rwa [oi]),CU p.ne]);obtain⟨P2,C2,T2⟩:=sx cO S.flow;have gs:=NAM.getD_at (show g<ao.length from NAG.gl11 iH sO iW);have lw:=eY.mpr cw;refine#[tj,h1,aQ [Ψ,aK [Ω,rfl] db,oa (by simp[*])],λ_=>nD' [ϊ,P1.mi,[Ϙ,[Ω,rfl]],q2] ?_,λz=>(nomatch z)];have T:=hK (fa:=[ϑ,0,3]) (fb:=χ) (ρ:=[se (.at me),[π,ZY],se (.at h.length),[ω,g],se Ho]) [ξ,P2.mi,rfl] P2.sp rfl gs;by_cases cs:0<ao.getD g 0;obtain⟨way2,tried2,qw2,T3,D3,ex2,hway2,hwl2⟩:=CQ P2 C2 (NAG.gl1 l1) (NAG.gl1 l2) (NAG.gl1 l3) T2 c5 tD iH.1 Ph3.tr Ph3.dead;exact nE (iE (CJ (aQ [Ψ,T,oa cs]) [ϊ,P2.mi,[Ϙ,[Ϙ,[Ω,rfl]]],qw2]) rfl) #[_,by lia,way2,_,ao,tried2,rfl,by rw[<-cO,rx (by rw[oi])],Ph3.walked T3 D3 ex2,hwl2,mQ,hway2.imp (λz=>#[z.1,.inr sU]) (λz=>#[z.1,cs,z.2]),rfl];exact nE (iE (CK (aQ [Ψ,T,og cs]) rfl) rfl) #[_,by lia,[],_,ao,ah,rfl,cO,Ph3,by simp,mQ,.inl #[rfl,.inr sU],rfl]);rw[Z9] at Ph;refine#[s2,sp2,[ώ,sA (aD rfl (aK [Ω,[ξ,p.mi,rfl]] (mj p.sp)) ?_) (sE q2 ?_)],Ph.flow,Ph.le,λe he hR=>Ph.less p.wf hS (λg hg=>?_) he hR];rw[a8,p.lp,mul_one (NAG.gl10 jp),xS];show[J8,D.at Gl,h,_]=_;rw[gF,gG];rw[<-cO];rw[show h.length=(hh h aS aP s2 sp2).length by rw[oi]];exact pK (uW c) trivial;obtain⟨a1,x,a2,a3⟩:=hS.zero g hg;refine V2.mpr #[a1,?_];rwa [show ak.getD g 0=x by simp_all]
end
section
variable {h:TH}{me aS aP i:Nat}{N:NAP.T9}{ac ab:Zv}{e:Nat}
theorem JG {l:Zv}(i:Nat):nEn [Jc,.int] h i=se ((l.zipIdx.map λp=>D.tup [.int p.2,.int p.1])[i]?):=by rw[Co,bo,bo,lJ,lJ,bo];cases l[i]?<;>rfl
noncomputable def WD (aa:Zv):Zw:=(aa.zipIdx.filter λp=>decide (0<=p.1)).map (·.2)
theorem WC:e∈WD aa↔0<=[ZD,e]:=by unfold WD;rw[aO];constructor;rintro⟨⟨x,j⟩,hm,rfl⟩;(have:[ZD,j]=x:=by grind[NAP.Lv,bC]);simp_all;intro z;exact#[([ZD,e],e),bY.mpr #[List.mem_zipIdx_iff_getElem?.mpr (qV (lZ z)),P9 z],rfl]
theorem zer:(WD aa).length<=aa.length:=by unfold WD;rw[a8];refine b9 (gy _ _) ?_;simp_all
inductive FiI (h:TH) (me aS aP:Nat) (N:NAP.T9) (ak:Zv) (P:Zv->Zv->Zv->Prop) (ρ:Rb) (h1:TH):Prop
 | mk (ac ab aa:Zv) (er:ρ=[se (.at me),[π,ZY]]) (eh:hh h aS aP ac ab=h1) (l:aa.length=N.nE) (le:∀(e:Nat) x y,ak[e]?=σ->ab[e]?=Ϥ->y<=x) (p:P ac ab aa)
theorem JI (p:QV h me aS aP N ax ak)(c:Ϣ)(hF:NAP.Flow N aX ax ak) :∃ac ab aa,Wb [.at me] h=.ok (.lst ('/'.map .bl)) (hh h aS aP ac ab)/\NAP.TX N aX ac ab aa/\(∀(e:Nat) x y,ak[e]?=σ->ab[e]?=Ϥ->y<=x)/\aa.length=N.nE:=by have jp:=p.sm;obtain⟨aa,qs,c5,hfd⟩:=CM p c;obtain⟨ρ2,h2,q2,s2,sp2,st2,rfl,cO,sl2,lh,Dn⟩:=n8 (fT:=WA) (fs:=Wy) (ρ:=[se (.at me),[π,ZY]]) (λm=>FiI h me aS aP N ak λac ab aa=>NAP.Flow N aX ac ab/\Found N ac ab aa/\m=ab.sum.toNat) (FiI h me aS aP N ak λac ab aa=>NAP.TX N aX ac ab aa) (λm ρ h1 I=>by obtain⟨ac,ab,aa,rfl,eh,c5,le,hF1,⟨d,row,R,iV⟩,rfl⟩:=I;(have a2:ab.length=ak.length:=by rw[hF1.lp,hF.lp]);have P1:=eh▸p.hh (by rw[hF1.ls,hF.ls]) a2;have rl:=zer (aa:=aa);(have rm:=xR (es:=WD aa) P1 (by lia) λe he=>by rw[<-c5];exact lZ (WC.mp he));refine#[(WD aa).any (VR N ab),h1,aQ [ϊ,P1.mi,[Ω,cM (nZ rfl) JG (by rw[lM];exact NAG.gl101 c5 jp) (λq hq=>#[[[ω,q.2],[ω,q.1]],by unfold VA;rfl,aQ [Ψ,rfl,ge_int],λ_=>rfl]) (by unfold WD;rw[cj];rfl)],rm],λcr=>?_,λcr=>?_];obtain⟨e,he,hR⟩:=ia.mp cr;have he0:=WC.mp he;obtain⟨s2,sp2,q2,F2,lh,less⟩:=zcj P1 (eh▸uW c) c5 hF1 R.st;have sl:=less e he0 ((pH (by rw[P1.lp,<-c5];exact lZ he0)).mp hR);have n0:=NAP.Xz λi x hx=>F2.sp i x hx;(have cO:hh h1 aS aP s2 sp2=hh h aS aP s2 sp2:=by rw[<-eh,CU p.ne]);have P2:=cO▸P1.hh (by rw[F2.ls,hF1.ls]) (by rw[F2.lp,hF1.lp]);obtain⟨st2,q3,sl3,f3⟩:=CM P2 (uW c);rw[cO] at q2;refine nD' [ϊ,P1.mi,[Ω,rfl],q2] (nE (iE [ϊ,P2.mi,rfl,q3] rfl) #[_,by lia,s2,sp2,st2,rfl,rfl,sl3,λe x y h1 h2=>?_,F2,f3,rfl]);have hz:ab[e]?=se (ab[e]'(by have:='S'.1;simp_all)):=aJ _;exact gq (lh e _ _ hz h2) (le e _ _ h1 hz);(have oJ:∀e,0<=[ZD,e]->¬NAP.RC N ab e:=λe he hR=>by have:=ia.mpr #[e,WC.mpr he,(pH (by rw[P1.lp,<-c5];exact lZ he)).mpr hR];rw[this] at cr;cases cr);exact#[ac,ab,aa,rfl,eh,c5,le,R.done hF1 iV oJ]) #[ax,ak,aa,rfl,p.self,c5,λe x y h1 h2=>by rw[h1] at h2;cases h2;exact ϳ,hF,hfd,rfl];refine#[s2,sp2,st2,[ώ,sA [ϊ,p.mi,rfl,qs] (sG q2 (sR (cA (L:=(R8 st2).map .bl) Og cU (NAG.gl101 sl2 jp) (λs hs=>#[[[ω,s]],rfl,[Ψ,rfl,ge_int]]) ?_) ?_))],Dn,lh,sl2];unfold R8;rw[cj];rfl;rw[<-cO];exact bH oi
end
section
variable {h h':TH}{i:Nat}{e k b:Nat}
theorem JJ:∀m i h,h[a]?=[ϥ,l]->i<=l.length->l.length<i+m->Ye (VE (.at a)) ϙ Rf (Rk tj Qg) [ng] m i h=.ok ((aM (l.length-i)).map λk=>.at (h.length+k)) (h++be (l.length-i) (.ml [])):=by intro m;induction m with| zero =>rintro i h _ h1 h2;exact absurd h2 (by simp[*])| succ m ih =>rintro i h ha h1 h2;rw[pI];(have e1:VE (.at a) h i=se (l[i]?):=by show TZ (eS h (.at a)) _=_;unfold eS;dsimp only;rw[aW,ha];show se (eg l i)=_;rw[aW]);rw[e1];by_cases lt:i<l.length;rw[aJ lt];show R.bnd (Ye (VE (.at a)) (rN 0) Rf (Rk tj Qg) [ng] m (i+1) (hp h (.ml []))) (λys h'=>.ok (D.at (hn h)::ys) h')=_;rw[gG,ih (i+1) (h ++ [.ml []]) (g9 ha) lt (NAG.gl13 h2),gF];show R.ok (D.at h.length::_) _=_;rw[show l.length - i=(l.length - (i+1))+1 from NAG.gl14 lt,nz,qC,bA,cj,gb];simp;lia;(have:=by exact NAG.gl3 h1 lt);subst this;simp
noncomputable def hI (h0:TH) (F:Φ) (ss:Zv) (E:Nat) (sp:Nat->Int) (af:Nat->Zw):TH:=h0++([.mi 0 F,L9,.ml (('C'.map sp).map .int)]++'C'.map λe=>.ml ((af e).map nD))
section
variable {h0:TH}{F:Φ}{ss:Zv}{E:Nat}{sp sp':Nat->Int}{af af':Nat->Zw}
theorem xY:(hI h0 F ss E sp af)[h0.length]?=[Ϟ,0,F]:=by unfold hI;rw[gw ϭ,qM];rfl
theorem zbW:(hI h0 F ss E sp af)[h0.length+1]?=[ϥ,Of]:=by unfold hI;simp_all
theorem JL:(hI h0 F ss E sp af)[h0.length+2]?=[ϥ,('C'.map sp).map .int]:=by unfold hI;simp_all
theorem CV (he:e<E):(hI h0 F ss E sp af)[h0.length+3+e]?=[ϥ,(af e).map nD]:=by unfold hI;rw[gw (by lia),show h0.length+3+e-h0.length=3+e from NAG.gl114,gw (by exact kn ..),show 3+e-([.mi 0 F,L9,.ml (('C'.map sp).map .int)]:TH).length=e by simp,nV _ he]
theorem zbe (he:e<E)(v:Int):(hI h0 F ss E sp af).set (h0.length+2) (.ml ((('C'.map sp).map .int).set e (.int v)))=hI h0 F ss E (λx=>if x=e then v else sp x) af:=by unfold hI;rw[o9 _ _ Τ,show h0.length+2-h0.length=2 by simp_all,ints_set,xi];rfl
theorem zbJ (he:e<E)(l:Zw):(hI h0 F ss E sp af).set (h0.length+3+e) (.ml JR)=hI h0 F ss E sp (λx=>if x=e then l else af x):=by unfold hI;rw[o9 _ _ (by lia),show h0.length+3+e-h0.length=3+e from NAG.gl114,o9 _ _ (by exact kn ..),show 3+e-([.mi 0 F,L9,.ml (('C'.map sp).map .int)]:TH).length=e by simp,xi];grind
theorem zan (h1:∀e<E,sp e=sp' e)(h2:∀e<E,af e=af' e):hI h0 F ss E sp af=hI h0 F ss E sp' af':=by unfold hI;have a:=cq λx hx=>h1 x Jg;(have b:('C'.map λe=>TM.ml ((af e).map nD))='C'.map λe=>TM.ml ((af' e).map nD):=cq λx hx=>by rw[h2 x Jg]);rw[a,b]
theorem CW (hF:F=[G,ed,.at (h0.length+1),.at (h0.length+2),.lst ('C'.map λk=>.at (h0.length+3+k))])(he:e<E)(hk:ss[k]?=Ϩ)(hal:(af e).length<=900) :Wx [se (.at h0.length),se gs,se ts,se ti,se sd,[ω,k],se tu,[ω,e]] (hI h0 F ss E sp af)=[ϱ,[se (.at h0.length),se gs,se ts,se ti,se sd,[ω,k],se tu,[ω,e]],hI h0 F ss E (λx=>if x=e then sp e-s else sp x) (λx=>if x=e then af e++[k]else af x)]:=by subst hF;refine(l8 (pN [ξ,xY,rfl] rfl JL (nV _ he) (hK [ξ,xY,rfl] zbW rfl hk))).trans ?_;rw[<-ints_set,zbe he,<-zbJ he];refine cR (d:=D.non) ((pM (Ci [ξ,xY,rfl] rfl (V7.trans (nV (λk=>D.at (h0.length+3+k)) he))) (CV he) rfl (by rw[a8];exact NAG.gl4 hal)).trans ?_);rw[cP];rfl
end
end
section
variable {h h' t:TH}{i:Nat}{N:NAP.T9}{o:TM}{e k b:Nat}
theorem pS {l:XK}(i:Nat):nEn (.lst 'K') h i=se ((l.zipIdx.map λp=>D.tup [.int p.2,g p.1])[i]?):=by rw[Co,bo,bo,lJ,lJ,bo];cases l[i]?<;>rfl
theorem CY (he:fi ρ h=.ok (VE (.tup [x,y])) h)(g1:fg x ρ=ZR)(s1:fs ρ1 h=[ϱ,ρ2,h2])(g2:fg y ρ2=se ρ3)(s2:fs ρ3 h2=[ϱ,ρ4,h4]):Sj fi fg fs ρ h=[ϱ,ρ4,h4]:=by unfold Sj;rw[he];show QL (fg x ρ) _=_;rw[g1];show[϶,fs ρ1 h]=_;rw[s1];show QL (fg y ρ2) _=_;rw[g2];show[϶,fs ρ3 h2]=_;rw[s2];rfl
theorem CZ {a b:υ}(h1:QJ f a=se a')(h2:QJ f b=se b'):QJ f (a++b)=se (a'++b'):=by induction a generalizing a' with| nil=>cases h1;exact h2| cons x a ih =>obtain⟨y,ys,e1,e2,rfl⟩:=Qx.mp h1;exact Qx.mpr #[y,ys++b',e1,ih e2,rfl]
theorem kL {k:γ->β}:∀{l:List γ},(∀x∈l,f (g x)=se (k x))->QJ f 'K'=se (l.map k):=by intro l;induction l with| nil =>rintro _;exact rfl| cons x l ih =>rintro h;exact Qx.mpr #[_,_,h x (.head _),ih λy hy=>h y (.tail _ hy),rfl]
section
variable {h0:TH}{ss:Zv}{E:Nat}{sp:Nat->Int}{af:Nat->Zw}{G:Int}{ed:Zu}
theorem JP (c:Cl h0):[IV,h0.length+3,hI h0 [.int G,Nm,.at (h0.length+1),.at (h0.length+2),.lst ('C'.map λk=>.at (h0.length+3+k))] ss E sp af]=[ZW,h0++[.mi 0 [.int G,Nm,.at (h0.length+1),.at (h0.length+2),.lst ('C'.map λk=>Qu (af k))],L9,.ml (('C'.map sp).map .int)]]:=by by_cases z:E=0;subst z;rw[bH (by unfold hI;simp)];unfold hI;simp;obtain⟨H,eH⟩:∃H,hI h0 [.int G,Nm,.at (h0.length+1),.at (h0.length+2),.lst ('C'.map λk=>.at (h0.length+3+k))] ss E sp af=H:=#[_,rfl];have sx:∀k,k<E->H[h0.length+3+k]?=[ϥ,(af k).map nD]:=λk hk=>eH▸CV hk;unfold trunc;rw[aR,show bJ (hI h0 [.int G,Nm,.at (h0.length+1),.at (h0.length+2),.lst ('C'.map λk=>.at (h0.length+3+k))] ss E sp af).length (h0.length+3)=ff from gj.mpr λy=>by have:=lR y;unfold hI at this;simp at this;trivial];rw[eH];show QL (QJ (fzo H (h0.length+3)) (etk (h0.length+3) H)) _=_;rw[q8];(have tk:H.take (h0.length+3)=h0++[.mi 0 [.int G,Nm,.at (h0.length+1),.at (h0.length+2),.lst ('C'.map λk=>.at (h0.length+3+k))],L9,.ml (('C'.map sp).map .int)]:=by rw[<-eH];unfold hI;rw[<-gb,Ao (by simp)]);rw[tk,CZ (xE λx hx=>rf (nY Τ (c x hx)))];rfl;refine Qx.mpr #[_,_,?_,Qx.mpr #[_,_,rf (n:=h0.length+3) jm,Qx.mpr #[_,_,rf (n:=h0.length+3) (o:=.ml (('C'.map sp).map .int)) jm,rfl,rfl],rfl],rfl];(have f2:fz H (h0.length+3) 9 Nm=[π,ed.map WP]:=fV 9 λd hd=>by obtain⟨x,_,rfl⟩:=lP;intro d hd;simp only[aT,dQ,or_false] at hd;rcases hd with rfl | rfl<;>trivial);have f3:fz H (h0.length+3) 9 (.at (h0.length+1))=se (.at (h0.length+1)):=fV 9 (show h0.length+1<h0.length+3 by simp_all);have f4:fz H (h0.length+3) 9 (.at (h0.length+2))=se (.at (h0.length+2)):=fV 9 (show h0.length+2<h0.length+3 by simp_all);(suffices f5:fz H (h0.length+3) 9 (.lst ('C'.map λk=>.at (h0.length+3+k)))=[π,'C'.map λk=>Qu (af k)]by show TZ (QJ (fz H (h0.length+3) 9) _) _=_;have f1:fz H (h0.length+3) 9 (.int G)=[ω,G]:=rfl;rw[Qx.mpr #[_,_,f1,Qx.mpr #[_,_,f2,Qx.mpr #[_,_,f3,Qx.mpr #[_,_,f4,Qx.mpr #[_,_,f5,rfl,rfl],rfl],rfl],rfl],rfl]];rfl);show TZ (QJ (fz H (h0.length+3) 8) ('C'.map λk=>D.at (h0.length+3+k))) D.lst=_;rw[kL λk hk=>?_];rfl;show(bif bq (h0.length+3+k) (h0.length+3)then se (D.at (h0.length+3+k))else match eg H (h0.length+3+k)with| some (.ml ds)=>TZ (QJ (fz H (h0.length+3) 7) ds) .lst| _=>ng)=_;rw[show bq (h0.length+3+k) (h0.length+3)=ff from gj.mpr λy=>by have:=bR.mp y;lia,aW,sx k (dF.mp hk)];show TZ (QJ (fz H (h0.length+3) 7) ((af k).map nD)) D.lst=_;rw[jh λx hx=>fV 7 (ry x hx)];rfl
end
theorem zdh {e:D}(hn:ds.length=n)(z:On (f (Vj ds k) h) λ_ h'=>h.length+m<=h'.length/\[IV,h.length+m,h']=.ok e h2):fnK m n k f ds h=.ok e h2:=by obtain⟨ρ',h',z,hm,t⟩:=z;unfold fnK;rw[z,aR,hn,show bJ n n=tj from gE n];show Q3 (cf (Rx h+m) (Rx h')) [IV,Rx h+m,h']=_;rwa [aR,aR,eE.mpr hm]
theorem nI {u:TH}(z:v ρ (h++ .mi c F::t)=.ok y (h++ .mi c F::u))(za:fa ρ (h++ .mi c F::u)=.ok (.at h.length) (h++ .mi c F::u))(k:On (g ρ (h++ .mi c (F++[y])::u)) P)(hn:F.length=n:=by rfl):On (Ql (W9 c n fa v) g ρ (h++ .mi c F::t)) P:=by have e:=Cv z za fW hn;grind[uR,nG]
theorem On.mono (z:On r P)(k:∀ ρ h,P ρ h->Q ρ h):On r Q:=let #[ρ,h,e,p]:=z;#[ρ,h,e,k _ _ p]
theorem apN {u:TH}:(h++o::t)++u=h++o::(t++u):=by simp
theorem lnN:(h++o::t).length=h.length+(t.length+1):=by simp
theorem zcO:V6 tj [Z0] h=.ok (.at h.length) (h++[.ml l]):=by show R.ok (D.at Gl) (hp h (.ml l))=_;rw[gF,gG]
theorem zaU {a b:Φ}(hl:a.length+b.length<=1000):S8 tj (.lst a) (.lst b) h=.ok (.at h.length) (h++[.ml (a++b)]):=by show Q3 [K7,Rx a+Rx b] (R.ok (D.at Gl) (hp h (.ml (YH a b))))=_;rw[aR,aR,eE.mpr (by lia),gF,gG,gY];rfl
theorem JT {N:Χ}(z:fa ρ h=.ok (.at i) h)(e:h[i]?=[ϥ,l])(hl:l.length<1000):TV N ff (SB fa) 1 [] ϙ Rf (Rk tj Qg) ρ h=.ok (.lst ((aM l.length).map λk=>.at (h.length+k))) (h++be l.length (.ml [])):=by show VS ff (SB fa) 1 [] ϙ Rf (Rk tj Qg) ρ h=_;unfold VS SB;rw[z];show[϶,QL (eS h (.at i)) _]=_;rw[show eS h (.at i)=te by grind[eS,aW]];show[϶,Ye (VE (.at i)) ϙ Rf (Rk tj Qg) [ng] 1000 0 h]=_;rw[JJ 1000 0 h e (jb _) (by assumption)];rfl
theorem JU (c:Cl h0)(qg:∀p∈ai,p.1<gs.length/\p.2<ts.length)(oX:ss.length=ai.length)(hl:gs.length+ts.length<=900)(gQ:ai.length<=900) :Vb [.at h0.length,Jt,PX,MD,LS] (h0++[.mi 0 []])=[ZW,h0++[.mi 0 [.int gs.length,.lst ([Nk,ai].map WP),.at (h0.length+1),.at (h0.length+2),.lst ([tx,ts.length,ai].bB.map Qu)],L9,.ml (((aM (gs.length+ts.length)).map (WB (gs++ts) [Nk,ai] ss ai.length)).map .int)]]:=by obtain⟨ed,hed⟩:∃ed,[Nk,ai]=ed:=#[_,rfl];(have edl:ed.length=ai.length:=by rw[<-hed];unfold Rw;rw[a8]);(have edp:∀(k:Nat) p,ed[k]?=ο->p.1<gs.length+ts.length/\p.2<gs.length+ts.length/\p.1≠p.2:=λk p hp=>by rw[<-hed] at hp;unfold Rw at hp;rw[bo,jc] at hp;obtain⟨q,hq,rfl⟩:=hp;obtain⟨a,b⟩:=qg q La;refine#[?_,?_,?_]<;>dsimp only<;>lia);refine zdh rfl (nI [ψ,db] rfl (nI (cA Og cU (NAG.gl12 gQ) (λp hp=>#[_,by unfold VA;rfl,fY [Ϙ,[Ω,[Ψ,[ξ,fW,rfl],add_int]]] rfl]) (L:=ed.map WP) (by rw[<-hed];simp[Rw,WP])) rfl (nI ([ψ,zcO].trans (by rw[apN (h:=h0),lnN (h:=h0)])) rfl (nI ([Ψ,rfl,zaU (by simp;lia)].trans (by rw[apN (h:=h0),lnN (h:=h0)])) rfl (nI ((JT [ξ,fW,rfl] VP (by simp;lia)).trans (by rw[apN (h:=h0),lnN (h:=h0)])) rfl ?_)))));obtain⟨F,hF⟩:∃F,F=[D.int (gs.length:Int),Nm,.at (h0.length+1),.at (h0.length+2),.lst ((aM (gs.length+ts.length)).map λk=>.at (h0.length+3+k))]:=#[_,rfl];(have a1:(aM (gs.length+ts.length)).map (WB (gs++ts) ed ss 0)=gs++ts:=by have:=range_getD (gs++ts);rw[eU] at this;refine Eq.trans (cq λx _=>?_) this;simp[WB,NAP.load]);refine On.mono (eM (l:=ed.zipIdx) (λi ρ h1=>∃t5 t6 t7:Option D,ρ=[se (.at h0.length),[π,gs.map .int],[π,ts.map .int],[π,ai.map WP],[π,Of],t5,t6,t7]/\hI h0 F ss (gs.length+ts.length) (WB (gs++ts) ed ss i) (Wu ed i)=h1) (nZ [ξ,fW,rfl]) (λi ρ h _=>pS i) (by rw[lM];exact NAG.gl101 edl gQ) #[_,_,_,rfl,by simp[hI,a1,Wu,hF,Aq]] ?_) ?_;rintro i q ρ h1 hq ⟨t5,t6,t7,rfl,rfl⟩;rw[lJ,jc] at hq;obtain⟨p,hp,rfl⟩:=hq;obtain⟨p1,p2,p3⟩:=edp i p hp;have il:i<ed.length:='c'.1;have hs:ss[i]?=se (ss.getD i 0):=NAM.getD_at Τ;(have al:∀j x,(Wu ed j x).length<=j:=λj x=>by unfold Wu;refine b9 (gy _ _) ?_;rw[jv];exact ϭ);have s1:=CW (h0:=h0) (sp:=WB (gs++ts) ed ss i) (af:=Wu ed i) (gs:=Jt) (ts:=PX) (ti:=MD) (sd:=LS) (tu:=WP p) hF p1 hs (by have:=al i p.1;exact NAG.gl106 this il edl gQ);have s2:=CW (h0:=h0) (sp:=λx=>if x=p.1 then WB (gs++ts) ed ss i p.1-ss.getD i 0 else WB (gs++ts) ed ss i x) (af:=λx=>if x=p.1 then Wu ed i p.1++[i]else Wu ed i x) (gs:=Jt) (ts:=PX) (ti:=MD) (sd:=LS) (tu:=WP p) hF p2 hs (by rw[P7 (Ne.symm p3)];have:=al i p.2;exact NAG.gl106 this il edl gQ);rw[qJ];refine#[_,by unfold VA;rfl,?_];refine nE (CY (x:=.int (p.1:Int)) (y:=.int (p.2:Int)) rfl rfl s1 rfl s2) #[_,_,_,rfl,zan (λe he=>?_) λe he=>?_];(have lt1:(ed.take i).length=i:=by rw[h8];lia);(have lt2:(ss.take i).length=i:=by rw[h8];simp_all);(have ld:[Ic,ed.take (i+1),ss.take (i+1)]=[Ic,ed.take i,ss.take i]+(if NAP.Xo p e then ss.getD i 0 else 0):=by rw[take_snoc hp,take_snoc hs,BJ (by rw[lt1,lt2])]);unfold WB;rw[ld];unfold NAP.Xo;by_cases c1:e=p.1;subst c1;simp;lia;by_cases c2:e=p.2;subst c2;simp[c1];lia;simp[c1,c2,Ne.symm c1,Ne.symm c2];rw[II,show ed.getD i (0,0)=p by simp[gU,hp]];unfold NAP.Xo;by_cases c1:e=p.1;subst c1;simp[p3];by_cases c2:e=p.2;subst c2;simp[c1];simp[c1,c2,Ne.symm c1,Ne.symm c2];rintro ρ h' ⟨t5,t6,t7,rfl,rfl⟩;rw[lM,edl,hF,eU];refine#[by simp[hI];lia,(JP c).trans ?_];subst hed;rw[show[tx,ts.length,ai].bB=(aM (gs.length+ts.length)).map (Wu [Nk,ai] ai.length)from rfl];simp only[cj];rfl
end
section
variable {h:TH}{gs ts ss:Zv}{ai:Zu}
theorem zb6 {n:Nat}:cutD l ng (se n)=l.take n:=by unfold cutD NAH.Ts;dsimp only;rw[P7 Τ,List.drop_zero,Nat.sub_zero,tK];rcases Nat.le_total n l.length with z | z;rw[AE z];rw[AD z,Z9,dL z]
theorem zbD {n:Nat}:cutD l (se n) ng=l.drop n:=by unfold cutD NAH.Ts;dsimp only;rw[P7 Τ,tK];rcases Nat.le_total n l.length with z | z;rw[AE z,dL Τ];rw[AD z,Ab z,Ab ϭ,List.take_nil]
noncomputable def YZ (G:Nat) (ac aa:Zv):D:=.tup [.lst Nv,.tup [.lst (('/'.take G).map .bl),.lst (('/'.drop G).map .bl)]]
theorem xZ (z:fa ρ h=.ok Z8 h):Zp fa ρ h=.ok σ h:=by unfold Zp;rw[z];rfl
theorem C0 (z:fa ρ h=.ok Z0 h)(z1:fl ρ h=.ok x h)(z2:fu ρ h=.ok y h):rSl ff fa fl fu ρ h=.ok (.lst (cutD l x y)) h:=by unfold rSl;rw[z];show[϶,fl ρ h]=_;rw[z1];show[϶,fu ρ h]=_;rw[z2];rfl
theorem zdB (c:Ϣ)(qg:∀p∈ai,p.1<gs.length/\p.2<ts.length)(oX:ss.length=ai.length)(hl:gs.length+ts.length<=900)(gQ:ai.length<=900)(hn:∀(k:Nat) s,ss[k]?=Ϩ->0<=s)(hs:∀e<gs.length+ts.length,0<=WB (gs++ts) [Nk,ai] ss ai.length e) :∃ac ab aa,V9 [Jt,PX,MD,LS] h=.ok (YZ gs.length ac aa) h/\NAP.TX [tx,ts.length,ai] (gs++ts) ac ab aa/\aa.length=gs.length+ts.length/\∀(e:Nat) x y,((aM (gs.length+ts.length)).map (WB (gs++ts) [Nk,ai] ss ai.length))[e]?=σ->ab[e]?=Ϥ->y<=x:=by obtain⟨sn,hsp⟩:∃sn,(aM (gs.length+ts.length)).map (WB (gs++ts) [Nk,ai] ss ai.length)=sn:=#[_,rfl];have F0:=zcv oX hn hs;have I:=JU c qg oX hl gQ;rw[hsp] at F0 I;obtain⟨X,hX⟩:∃X:List D,[.int gs.length,.lst ([Nk,ai].map WP),.at (h.length+1),.at (h.length+2),.lst ([tx,ts.length,ai].bB.map Qu)]=X:=#[_,rfl];rw[hX] at I;obtain⟨h1,e1⟩:∃h1,h++[.mi 0 X,L9,.ml (sn.map .int)]=h1:=#[_,rfl];rw[e1] at I;(have g0:h1[h.length]?=[Ϟ,0,X]:=by rw[<-e1,gw ϭ,qM];rfl);have P:QV h1 h.length (h.length+1) (h.length+2) [tx,ts.length,ai] ss sn:=#[by rw[g0,<-hX];rfl,by rw[<-e1,gw Τ,show h.length+1-h.length=1 by simp_all];rfl,by rw[<-e1,gw Τ,show h.length+2-h.length=2 by simp_all];rfl,Τ,Τ,Τ,xj qg,F0.ls,F0.lp,hl,by show(ai.map _).length<=900;rwa [a8],λe l k7=>by have sK:((aM (gs.length+ts.length)).map (Wu [Nk,ai] ai.length))[e]?=te:=k7;rw[bo,jc] at sK;obtain⟨x,_,rfl⟩:=sK;unfold Wu;refine b9 (gy _ _) ?_;rwa [jv]];(have cX:∀d∈X,cd (h.length+3) 9 d:=λd hd=>by rw[<-hX] at hd;simp only[aT,dQ,or_false] at hd;rcases hd with rfl | rfl | rfl | rfl | rfl;trivial;intro d hd;obtain⟨x,_,rfl⟩:=lP;intro d hd;simp only[aT,dQ,or_false] at hd;rcases hd with rfl | rfl<;>trivial;show h.length+1<h.length+3;simp_all;show h.length+2<h.length+3;simp_all;intro d hd;obtain⟨x,_,rfl⟩:=lP;exact ry);(have C1:Cl h1:=λo ho=>by(have iy:h1.length=h.length+3:=by rw[<-e1];simp);rw[iy];rw[<-e1] at ho;rcases dE.mp ho with ho | ho;exact nY Τ (c o ho);simp only[aT,dQ,or_false] at ho;rcases ho with rfl | rfl | rfl;exact cX;exact jm;exact jm);obtain⟨ac,ab,aa,q,Dn,le,sl⟩:=JI P C1 F0;obtain⟨h2,e2⟩:∃h2,hh h1 (h.length+1) (h.length+2) ac ab=h2:=#[_,rfl];rw[e2] at q;(have e3:h++[.mi 0 X,.ml Nv,.ml (ab.map .int)]=h2:=by rw[<-e2,<-e1];unfold hh;rw[o9 _ _ Τ,o9 _ _ Τ,show h.length+1-h.length=1 by simp_all,show h.length+2-h.length=2 by simp_all];rfl);(have m2:h2[h.length]?=[Ϟ,0,X]:=by rw[<-e3,gw ϭ,qM];rfl);(have m3:h2[h.length+1]?=[ϥ,Nv]:=by rw[<-e3,gw Τ,show h.length+1-h.length=1 by simp_all];rfl);rw[hsp];(have t1:cutD ('/'.map D.bl) ng (se gs.length)=('/'.take gs.length).map D.bl:=by rw[zb6,wD]);(have t2:cutD ('/'.map D.bl) (se gs.length) ng=('/'.drop gs.length).map D.bl:=by rw[zbD,wE]);refine#[ac,ab,aa,[ώ,sA (d:=.at h.length) (h1:=h1) ?_ (sA [ϊ,g0,rfl,q] (sR (d:=.tup [.at (h.length+1),.tup [.lst (('/'.take gs.length).map .bl),.lst (('/'.drop gs.length).map .bl)]]) (h1:=h2) (fY (aE [ξ,m2,by rw[<-hX];rfl] [Ω,fY (aE ?_ [Ω,?_]) rfl]) rfl) ?_))],Dn,sl,le];show V5 0 Vb [Jt,PX,MD,LS] h=_;unfold V5;rw[gF,gG,I];rfl;rw[<-t1];exact C0 rfl rfl (xZ (aK [Ω,rfl] db));rw[<-t2];exact C0 rfl (xZ (aK [Ω,rfl] db)) rfl;rw[<-e3];refine uN c ?_ (by simp);rw[e3];(have f1:fz h2 h.length 8 (.at (h.length+1))=[π,Nv]:=by show(bif[Hh,h.length+1]then se (D.at (h.length+1))else match eg h2 (h.length+1)with| some (.ml ds)=>TZ (QJ [MI,h2,7] ds) .lst| _=>ng)=_;rw[show[Hh,h.length+1]=ff from gj.mpr λy=>by have:=bR.mp y;lia,aW,m3];show TZ (QJ [MI,h2,7] Nv) D.lst=_;rw[jh λx hx=>fV 7 (jm x hx)];rfl);(have f2:fz h2 h.length 8 (.tup [.lst (('/'.take gs.length).map .bl),.lst (('/'.drop gs.length).map .bl)])=se (.tup [.lst (('/'.take gs.length).map .bl),.lst (('/'.drop gs.length).map .bl)]):=fV 8 λd hd=>by simp only[aT,dQ,or_false] at hd;rcases hd with rfl | rfl;intro d hd;obtain⟨x,_,rfl⟩:=lP;trivial;intro d hd;obtain⟨x,_,rfl⟩:=lP;trivial);show TZ (QJ [MI,h2,8] _) D.tup=_;rw[Qx.mpr #[_,_,f1,Qx.mpr #[_,_,f2,rfl,rfl],rfl]];rfl
theorem zeh (c:Ϣ)(qg:∀p∈ai,p.1<gs.length/\p.2<ts.length)(hl:gs.length+ts.length<=900)(gQ:ai.length<=900)(hp:∀g∈gs++ts,0<=g) :∃ac ab aa,WE [Jt,PX,MD] h=.ok (YZ gs.length ac aa) h/\NAP.TX [tx,ts.length,ai] (gs++ts) ac ab aa/\aa.length=gs.length+ts.length:=by(obtain⟨ac,ab,aa,q,Dn,sl,_⟩:=zdB (ss:=be ai.length 0) c qg (by rw[nu]) hl gQ (λk s hk=>by grind) λe he=>by unfold WB;rw[List.take_replicate,BK,Int.sub_zero];have:=NAM.getD_at (by rwa [eU]);exact hp _ (aG this));refine#[ac,ab,aa,[ώ,[Ϸ,aK [Ϙ,[Ϙ,[Ϙ,[Ω,aD rfl (aK [Ω,rfl] db) ?_]]]] q]],Dn,sl];exact(mul_one (NAG.gl10 gQ)).trans (by rw[xS];rfl)
end
section
variable {h:TH}{i:Nat}{ws:Zv}{aC:Zs}{ag ad:Zw}
noncomputable def Xi (ag ad:Zw):D:=.tup [Qu ag,Qu ad]
noncomputable def Wt (n:Nat):QK:=.inl (n:Int)
theorem JZ:∀{d:QK} {ks:List QK},d∉ks->X8 d ks=ff:=by intro d ks;induction ks generalizing d with| nil =>rintro _;exact rfl| cons k ks ih =>rintro h;show(Xr k d||X8 d ks)=ff;rw[ih λz=>h (.tail _ z),nX,Qb (show ¬k=d from λz=>h (by rw[z];exact .head _))];rfl
theorem J0:∀{ks:List QK},ks.Nodup->YL ks=tj:=by intro ks;induction ks with| nil =>rintro _;exact rfl| cons k ks ih =>rintro h;show(!X8 k ks&&YL ks)=tj;obtain⟨h1,h2⟩:=eA.mp h;rw[JZ h1,ih h2];rfl
theorem J3:∀(l:Zw) n x,lk (Wt x) (l.map Wt) ((jw n l.length).map nD)=if x∈l then se (nD (n+l.idxOf x))else none:=by intro l;induction l with| nil =>rintro n x;exact rfl| cons y l ih =>rintro n x;show(bif Xr (Wt y) (Wt x) then se (nD n) else lk (Wt x) (l.map Wt) ((jw (n+1) l.length).map nD))=_;rw[nX,ih (n+1) x];by_cases c:y=x;simp_all;rw[Qb (λz=>c (by have:=z;have:=Sum.inl.inj this;exact NAG.gl87 this))];have e1:(y==x)=ff:=beq_eq_false_iff_ne.mpr c;simp[wy,e1,Ne.symm c,ug,qL 1]
theorem C3 (x:Nat):lk (Wt x) L8 ('G'.map nD)=[JD,x].map nD:=by rw[v8,J3];unfold NAM.placeOf;split;rw[qJ];rfl;rfl
theorem C4 {ag:Zw}{g:Nat}:∀row:Zw,(row.filter λx=>[JD,x].isSome).map (λx=>WP (g,[JD,x].getD 0))=(Uc ag g row).map WP| []=>rfl| x::row=>by have ih:=C4 (ag:=ag) (g:=g) row;unfold Uc at ih ⊢;rw[kg,tQ];cases e:NAM.placeOf ag x with| none=>exact ih| some p=>simp only[Option.isSome_some,if_true,bA,pB,e,AI];rw[ih]
theorem zaW:∀(l:Zw) n,QJ prK ((l.zipIdx n).map λp=>D.tup [nD p.1,nD p.2])=se (l.map Wt)/\QJ prV ((l.zipIdx n).map λp=>D.tup [nD p.1,nD p.2])=se ((jw n l.length).map nD):=by intro l;induction l with| nil =>rintro n;exact#[rfl,rfl]| cons x l ih =>rintro n;obtain⟨h1,h2⟩:=ih (n+1);exact#[Qx.mpr #[_,_,rfl,h1,rfl],Qx.mpr #[_,_,rfl,h2,rfl]]
theorem zbS {l:Zw}(h:l.Nodup):(l.map Wt).Nodup:=by refine List.Pairwise.map _ (λa b h z=>h ?_) h;have:=z;have:=Sum.inl.inj this;exact NAG.gl87 this
theorem za1 (z1:fa ρ h=.ok (.at i) h)(z2:h[i]?=[ϥ,l])(z3:fA ρ h=.ok [.lst es] h)(hl:l.length+es.length<=16777216):rExt fa fA ρ h=[ZW,[ϧ,.ml (l++es)]]:=by(have e1:UZ h (.at i)=se (i,l):=by grind[UZ,aW]);unfold rExt;rw[z1];show QL (UZ h (.at i)) _=_;rw[e1];rw[z3];show QL (UZ h (.at i)) _=_;rw[e1];show Q3 [K7,Rx l+Rx es] _=_;rw[aR,aR,IQ,iD,gY];rfl
theorem J7 {l:Zu}:∀d∈l.map WP,cd n (m+2) d:=λd hd=>by obtain⟨x,_,rfl⟩:=lP;intro d hd;simp only[aT,dQ,or_false] at hd;rcases hd with rfl | rfl<;>trivial
theorem C5 (c:Ϣ)(hd:ag.Nodup)(hl:ag.length<=20)(cl:ad.length<=20)(rl:∀r∈aC,r.length<=20)(ci:∀c∈ad,c<aC.length) :Vv [OA,Xi ag ad] h=.ok (.lst ((Q2 aC ag ad).map WP)) h:=by refine[ώ,sA (aK [Ω,cA (nZ [Ψ,rfl,rfl]) pS (by rw[lM];exact NAG.gl59 hl) (λp hp=>#[_,by unfold VA;rfl,rfl]) (show _=ag.zipIdx.map λp=>.tup [nD p.1,nD p.2]from rfl)] ?_) (sA XM (sL (eM (λi ρ h1=>∃t4 t5:Option D,ρ=[[π,OE],se (Xi ag ad),se (.dic L8 ('G'.map nD)),se (.at h.length),t4,t5]/\h++[.ml ((Tj aC ag ad i).map WP)]=h1) (nZ [Ψ,rfl,rfl]) (λi ρ h _=>pS i) (by rw[lM];exact NAG.gl59 cl) #[_,_,rfl,rfl] ?_) ?_))];obtain⟨k1,k2⟩:=zaW ag 0;show QL (QJ prK _) _=_;rw[k1];show QL (QJ prV _) _=_;rw[k2];show Q3 (YL L8) _=_;rw[J0 (zbS hd),<-v8];rfl;rintro i q ρ h1 hq ⟨t4,t5,rfl,rfl⟩;rw[lJ,jc] at hq;obtain⟨x,hx,rfl⟩:=hq;rw[qJ];obtain⟨row,hr⟩:∃row,aC[x]?=se row:=#[_,aJ (ci x Nw)];(have e1:Tj aC ag ad (i+1)=Tj aC ag ad i++Uc ag i row:=by grind[Tj,Uc,gU]);have oQ:=rl row (aG hr);have il:='+'.1;have tl:=qW (ag:=ag) (ad:=ad) rl i;have rt:=BR ag i row;refine#[_,by unfold VA;rfl,?_];refine nE (cR (za1 (l:=(Tj aC ag ad i).map WP) (es:=(Uc ag i row).map WP) rfl (by simp) [Ω,cM (fI (eF (g:=Qu) rfl rfl hr)) cU (NAG.gl59 oQ) (λy hy=>#[_,rfl,aQ [Ψ,rfl,?_],λhp=>?_]) (C4 row)] (by simp;lia))) #[_,_,rfl,?_];show(match lk (Wt y) L8 ('G'.map nD)with| some _=>[NR,ff^^tj,_]| none=>[NR,ff^^ff,_])=_;rw[C3];cases[JD,y]<;>rfl;have lp:=C3 (ag:=ag) y;obtain⟨pp,hpp⟩:=uj.mp hp;rw[hpp] at lp ⊢;show[϶,[϶,[϶,QL (lk (Wt y) L8 ('G'.map nD)) λd=>R.ok d _]]]=_;rw[lp];rfl;simp_all;rintro ρ h1 ⟨t4,t5,rfl,rfl⟩;exact sR rfl (pL c ϭ (by simp;rfl) J7)
theorem C6 (cl:ad.length<=20)(ci:∀c∈ad,c<ws.length):Vu [NX,Xi ag ad] h=.ok (.int (SQ ws ad)) h:=by refine[ώ,[Ϸ,aK [Ω,cA Og cU (NAG.gl59 cl) (λx hx=>#[_,rfl,eF rfl rfl (NAM.getD_at (ci x hx))]) rfl] ?_]];have:=xW (ad.map λx=>[KK,x]);rw[cj] at this;show QL (QJ XV (ad.map λx=>.int [KK,x])) _=_;rw[show(ad.map λx=>D.int [KK,x])=List.map (D.int∘λx=>[KK,x]) ad from rfl,this];show R.ok (D.int (iSum _)) h=_;rw[B7];rfl
end
section
variable {h t:TH}{ws:Zv}{aC:Zs}{ag ad:Zw}
structure YY (ws:Zv)(aC:Zs):Prop where
 len:aC.length=ws.length
 few:ws.length<=20
 row:∀r∈aC,r.length<=20
 pos:∀x∈ws,1<=x
 bd:∀x∈ws,Bd 300 x
theorem oj (hx:Bd 4096 x)(hy:Bd 4096 y):Vs ff Z8 Ih h=.ok (.int (x*y)) h:=by show Q3 (pMul x y) _=_;unfold pMul;rw[bR.mpr hx,bR.mpr hy];rfl
theorem Bd.up (hx:Bd n x)(h:n<=m):Bd m x:=gz hx (nM (by decide) h)
theorem zbP {n:Nat}(h:n<=1000):Bd 4096 n:=by exact kH h (gz (show 1000<2^10 by decide) (nM (by decide) (by decide)))
theorem C7 (c:Ϣ)(A:YY ws aC)(nd:ag.Nodup)(hl:ag.length<=20)(cl:ad.length<=20)(ci:∀c∈ad,c<ws.length) :∃ac ab aa,Wj [NX,OA,Xi ag ad] h=.ok (YZ (QH ws ag ad).length ac aa) h/\NAP.TX (RH (QH ws ag ad).length [Zy,ag,ad].length (Q2 aC ag ad)) (QH ws ag ad++[Zy,ag,ad]) ac ab aa/\aa.length=(QH ws ag ad).length+[Zy,ag,ad].length:=by(have glen:(QH ws ag ad).length=ad.length:=by unfold QH;simp);(have tlen:[Zy,ag,ad].length=ag.length:=by unfold takesIn;simp);have tl:=qW (ag:=ag) (ad:=ad) A.row ad.length;have wp:=λc hc=>A.pos _ (aG (NAM.getD_at (ci c hc)));obtain⟨ac,ab,aa,q,Dn,sl⟩:=zeh (ts:=[Zy,ag,ad]) (ai:=Q2 aC ag ad) c (λp hp=>by obtain⟨g,t⟩:=p;obtain⟨c,hd,g1,g2,_⟩:=(jz nd g t).mp hp;rw[glen,tlen];grind) (by lia) (by unfold Q2;lia) (λg hg=>by rcases dE.mp hg with hg | hg;unfold QH at hg;obtain⟨c,hc,rfl⟩:=aO.mp hg;have:=wp c hc;exact i6 (by exact LN) Τ;unfold takesIn at hg;rw[zZ hg];unfold SQ;exact NAP.Xz λi x hx=>by grind);have mo:=mul_one (h:=h) (m:=ff) (x:=.int (SQ ws ad)) (n:=ag.length) (NAG.gl15 hl);rw[show[Ji,D.int (SQ ws ad)]=[Zy,ag,ad].map D.int by simp[takesIn]] at mo;refine#[ac,ab,aa,[ώ,sA (aK [Ω,[Ψ,rfl,rfl]] db) (sA (cA (fI [Ψ,rfl,rfl]) cU (NAG.gl59 cl) (λx hx=>#[_,rfl,[Ψ,eF rfl rfl (NAM.getD_at (ci x hx)),oj (Bd.up (A.bd _ (aG (NAM.getD_at (ci x hx)))) (by decide)) (zbP (NAG.gl15 hl))]]) (by simp[QH])) [Ϸ,aK [Ϙ,aE [Ψ,(im [Ω,[ψ,C6 cl ci]] rfl).trans rfl,mo] [Ω,[ψ,C5 c nd hl cl A.row (λx hx=>by rw[A.len];exact ci x hx)]]] q])],Dn,sl]
theorem zbO:SO neg (.bl a) (.bl b) h=.ok (.bl (neg^^(a==b))) h:=by cases neg<;>cases a<;>cases b<;>rfl
theorem C8 (l:υ)(m:Na):('~'.zip (m.map g)).map (λp=>D.tup [p.1,p.2])=(l.zip m).map λp=>D.tup [f p.1,g p.2]:=by rw[List.zip_map,cj];rfl
theorem uX (hl:xs.length<=900):WT [Qu xs,.lst Hs,.bl w] h=.ok (Qu (Ws xs bs w)) h:=by refine pJ rfl (jk (Eq.trans (uO (l:=xs.zip bs) rfl (λi=>by unfold Qu;rw[Cp,C8]) (by grind) λp hp=>#[[se (nD p.1),se (.bl p.2),se (.bl w)],by unfold VA;rfl,aQ [Ψ,rfl,by rw[zbO,kB]],λ_=>rfl]) ?_)) rfl;unfold Qu Ws;rw[cj];rfl
end
section
variable {h h':TH}{ae:Nat}{ws:Zv}{aC:Zs}
noncomputable def Xu (c:NAP.Cr):D:=Xi c.1 c.2
theorem Ka:cd n (m+3) (Xu c):=by intro d hd;simp only[aT,dQ,or_false] at hd;rcases hd with rfl | rfl<;>exact ry
theorem x4 {l:Tm}:∀d∈l.map Xu,cd n (m+3) d:=λd hd=>by obtain⟨x,_,rfl⟩:=lP;exact Ka
theorem C9 (c:Ϣ)(hx:∀n,ct n x)(hy:∀n,ct n y):Cl (h++[x,y]):=by have:=(c.app (hx _)).app (hy _);simp_all
theorem Dc (z:fT ρ h=[ν,tj]):Zh fT fa fb ρ h=fa ρ h':=by unfold Zh;rw[z];rfl
theorem Dd (z:fT ρ h=[ν,ff]):Zh fT fa fb ρ h=fb ρ h':=by unfold Zh;rw[z];rfl
inductive CrI (h:TH) (ws:Zv) (aC:Zs) (ae:Nat) (P:Tm->Tm->Prop) (ρ:Rb) (h1:TH):Prop
 | mk (t5 t6 t7:VK) (Lc U:Tm) (er:ρ=[[π,KH],[π,OE],[ω,(ae:Int)],se (.at h.length),se (.at (h.length+1)),t5,t6,t7]) (eh:h++[.ml (Lc.map Xu),.ml (U.map Xu)]=h1) (p:P Lc U)
theorem zcq (c:Ϣ)(A:YY ws aC)(dk:DoOk ws aC ae):∃L:List NAP.Cr,Ug [NX,OA,O3] h=.ok (.lst NW) h/\UY ws aC ae L:=by have few:=A.few;have k8:=dk.few;obtain⟨ρ2,h2,q2,t5,t6,t7,Lc,_,rfl,cO,rfl,ok⟩:=n8 (fT:=Wz) (fs:=Ww) (ρ:=[[π,KH],[π,OE],[ω,(ae:Int)],se (.at h.length),se (.at (h.length+1)),ng,ng,ng]) (h:=h++[.ml [],.ml ((if 0<ae then[(('3',PG):NAP.Cr)]else[]).map Xu)]) (λm=>CrI h ws aC ae λLc U=>(ae=0->Lc=[]/\U=[])/\(0<ae->NAP.UX LG Hn ae ws.length (Lc++U.reverse))/\(∀c∈Lc,qY ws aC c)/\m=XO U) (CrI h ws aC ae λLc U=>U=[]/\UY ws aC ae Lc) (λm ρ h1 I=>by obtain⟨t5,t6,t7,Lc,U,rfl,rfl,z0,cr0,rst,rfl⟩:=I;refine#[_,_,aQ [Ψ,[ψ,mj VP],gt_int],λz=>?_,λz=>?_];rotate_left;cases(show U=[]by simpa using z);exact#[_,_,_,Lc,_,rfl,rfl,rfl,λz=>(z0 z).1,λz=>by simpa using cr0 z,rst];have cu:=List.ne_nil_of_length_pos (by simpa using z);have m0:=Nat.pos_of_ne_zero λz=>cu (z0 z).2;have cr:=cr0 m0;obtain⟨U',c0,rfl⟩:∃U' c0,U=U'++[c0]:=#[_,_,(zV cu).symm];rw[Ag,List.reverse_singleton,List.singleton_append] at cr;(have kS:c0∈Lc++c0::U'.reverse:=by simp);have hcr:=cr.hr c0 kS;have hcc:=cr.cr c0 kS;(have eX:∀x∈c0.2,x<ws.length:=λx hx=>by have e:=cr.cs x;have:=wj.mpr hx;simp only[cP,kF,bA,cy] at e;split at e<;>lia);(have hhl:=ig hcr λx hx=>by have e:=cr.hs x;have:=wj.mpr hx;simp only[cP,kF,bA,cy] at e;split at e<;>lia);have oP:=ig hcc eX;have lf:=BW cr;rw[eU,fS,Ah] at lf;obtain⟨ac,ab,aa,qp,Dn,c5⟩:=C7 (C9 c (x:=.ml (Lc.map Xu)) (y:=.ml (U'.map Xu)) (λ_=>x4) λ_=>x4) A (nW hcr) (by exact b9 hhl k8) (by exact b9 oP few) eX;obtain⟨nc,nh,C,mc,mh⟩:=zcU hcr hcc eX Dn;(have gl:(QH ws c0.1 c0.2).length=c0.2.length:=by unfold QH;simp);(have tl:[Zy,c0.1,c0.2].length=c0.1.length:=by unfold takesIn;simp);(have l1':('/'.take (QH ws c0.1 c0.2).length).length=c0.2.length:=by simp[R8];simp[*]);(have l2':('/'.drop (QH ws c0.1 c0.2).length).length=c0.1.length:=by simp[R8];simp[*]);unfold YZ at qp;generalize '/'.take (QH ws c0.1 c0.2).length=b1 at mc qp l1';generalize '/'.drop (QH ws c0.1 c0.2).length=b2 at mh qp l2';rw[cP];refine nA (zcf rfl rfl) (nA [Ψ,[ψ,qp],rfl] ?_);by_cases hany:b2.any id=tj;obtain⟨b,hb1,hb2⟩:=ia.mp hany;obtain⟨ib,hib⟩:=bf hb1;have hibl:=(aH.mp hib).1;have hx:c0.1[ib]?=se (c0.1[ib]' Τ):=aJ Τ;have mL:∃h∈c0.1,ϡ=tj:=#[_,Nw,by have e:=mh ib _ hx;rw[hib] at e;cases e;exact hb2];obtain⟨pt,pf⟩:=BU Τ mh;obtain⟨qt,qf⟩:=BU Τ mc;refine nT (aQ [ψ,WX.trans (by rw[hany])]) (nE (CY rfl rfl (cR (l9 rfl rfl [Ω,fY (aE [ψ,uX (NAG.gl26 hhl k8)] [Ω,[ψ,uX (NAG.gl26 oP few)]]) rfl] (by simp;lia))) rfl (cR (l9 rfl rfl [Ω,fY (aE [ψ,uX (NAG.gl26 hhl k8)] [Ω,[ψ,uX (NAG.gl26 oP few)]]) rfl] (by simp;lia)))) #[XO (U'++[NAP.aU c0 nc nh,NAP.Su c0 nc nh]),?_,_,_,_,Lc,U'++[NAP.aU c0 nc nh,NAP.Su c0 nc nh],rfl,?_,λz=>absurd z Τ,λ_=>?_,rst,rfl]);obtain⟨k6,jN,h3'⟩:=mL;obtain⟨r1',r2',r3'⟩:=C.far #[k6,jN,h3'];(have lens:(c0.1.filter nh).length+(c0.1.filter λh=>! ϡ).length=c0.1.length:=by have:=List.length_eq_countP_add_countP nh (l:=c0.1);simp only[List.countP_eq_length_filter,zI,decide_eq_true_eq,Bool.decide_eq_false] at this;exact this.symm);have p1:=qD (bY.mpr #[jN,h3']);have p2:=qD (bY (p:=λh=>! ϡ).mpr #[r2',by rw[r3'];rfl]);unfold XO NAP.aU NAP.Su;simp;exact NAG.gl27 p2 p1 lens;rw[pf,qf,pt,qt];simp[Xu,NAP.aU,NAP.Su,Xi];rw[Ag];exact NAP.UX.cut (qX A.pos) cr C mL;(have jL:∀x∈c0.1,nh x=ff:=λx hx=>by obtain⟨ix,hix⟩:=bf hx;have e:=mh ix x hix;cases z:nh x with| false=>rfl| true =>rw[z] at e;exact absurd (ia.mpr #[tj,aG e,rfl]) hany);refine nF (aQ [ψ,WX.trans (by rw[gj.mpr hany])]) (nE (cR (l9 (k:=0) rfl rfl rfl (by simp;lia))) #[XO U',?_,_,_,_,Lc++[c0],U',rfl,?_,λz=>absurd z Τ,λ_=>?_,λd hd=>?_,rfl]);have:=eY.mpr (cr.ne c0 kS);unfold XO;simp;lia;simp;rwa [gb];rcases dE.mp hd with hd | hd;exact rst d hd;rw[cT.mp hd];exact zcT C jL (cr.own c0 kS)) #[ng,ng,ng,[],_,rfl,rfl,λz=>#[rfl,by rw[P7 Τ]],λz=>by rw[ZL];exact IU dk z,λc hc=>(by cases hc),rfl];refine#[Lc,[ώ,sA XM (sA (d:=.at (h.length+1)) (h1:=h++[.ml [],.ml ((if 0<ae then[(('3',PG):NAP.Cr)]else[]).map Xu)]) ?_ ?_)],ok];by_cases z:0<ae;rw[ZL];refine(Dc (aQ [Ψ,rfl,by rw[gt_int,P9 Τ]])).trans ((im [Ω,fY (aE (Cy (NAG.gl15 k8) rfl) [Ω,Cy (NAG.gl15 few) [ψ,db]]) rfl] rfl).trans ?_);show R.ok (D.at (hn _)) (hp _ _)=_;rw[gF,gG,gb,eU];rfl;rw[ZK];refine(Dd (aQ [Ψ,rfl,by rw[gt_int,Qb (by simp[*])]])).trans (XM.trans ?_);rw[gb,eU];rfl;exact sG q2 (sR rfl (cO▸pL c ϭ (xT rfl) x4))
end
end NAY
namespace NAM
open PySem NAL NAL.EX
noncomputable def Vy (M:Int) (L:List (Nat×(Zx))) (h:Nat):Int:=(L.map λx=>if x.1=h then vl M x.2 else 0).sum
noncomputable def RK (aC:Zs) (kU:Zr):List (Nat×(Zx)):=(aC.zip kU).flatMap λx=>x.1.zip x.2
def LdB (M:Int)(L:List (Nat×(Zx)))(qs:Zt):Prop:=∀(h:Nat) q,qs[h]?=Ϝ->WZ q/\q.1*M=q.2*Vy M L h
theorem De {aC:Zs}{kU:Zr}(hr:aC[i]?=τ)(hs:kU[i]?=Ϩ):[N6,i+1,kU.take (i+1)]=[N6,i,kU.take i]++'V':=by unfold RK;have hi:=(aH.mp hr).1;have hi2:=(aH.mp hs).1;rw[take_snoc hr,take_snoc hs,lO (by rw[h8,h8];exact NAG.gl34 hi hi2),wc];simp
structure ShOk (M:Int)(aC:Zs)(ae:Nat)(kU:Zr):Prop where
 len:kU.length=aC.length
 few:aC.length<=20
 row:∀(i:Nat) r s,aC[i]?=τ->kU[i]?=Ϩ->s.length=r.length/\r.length<=12/\∀h∈r,h<ae
 ok:∀s∈kU,∀p∈s,Yr/\p.2∣M/\Bd 600 p.1
 hM:0<M
 bM:Bd 600 M
def FV (M:Int)(p:Zx)(X:Int):Prop:=Yr/\p.1*M=p.2*X
section
variable {M:Int}{p q:Zx}{X Y:Int}
theorem FV.uniq (hM:0<M)(a:FV M p X)(b:FV M q X):p=q:=by refine xr a.1 b.1 ?_;refine ka (by exact d9 hM) ?_;have e1:=a.2;have e2:=b.2;grind
theorem FV.lt (hM:0<M)(a:FV M p X)(b:FV M q Y):p.1*q.2<q.1*p.2↔X<Y:=by have e1:=a.2;have e2:=b.2;have p1:=a.1.1;have q1:=b.1.1;have pos:0<p.2*q.2:=kC (by assumption) (by assumption);(have c1:p.1*q.2*M=X*(p.2*q.2):=by grind);(have c2:q.1*p.2*M=Y*(p.2*q.2):=by grind);constructor;intro h;have:=mY h hM;simp_all;intro h;have:=mY h pos;rw[<-c1,<-c2] at this;exact tI this (by exact cE hM)
theorem FV.plus (a:FV M p X)(b:FV M q Y)(he:1<=e)(hg:bP n e=1)(h:n*(p.2*q.2)=(p.1*q.2+q.1*p.2)*e):FV M (n,e) (X+Y):=by refine#[#[he,hg],?_];have p1:=a.1.1;have q1:=b.1.1;have pos:=Int.mul_ne_zero (by exact d9 p1) (by exact d9 q1);refine ka pos ?_;(have:n*M*(p.2*q.2)=n*(p.2*q.2)*M:=by grind);rw[this,h];(have:(p.1*q.2+q.1*p.2)*e*M=(p.1*M)*q.2*e+(q.1*M)*p.2*e:=by exact NAG.gl50);rw[this,a.2,b.2];grind
theorem FV.zero:FV M (0,1) 0:=#[#[ϳ,by decide],by simp]
theorem FV.bd (hM:0<M)(bM:Bd 600 M)(bX:Bd 1300 X)(a:FV M p X):Bd 1300 p.1/\Bd 600 p.2:=by have e:=a.2;rw[gu p.2] at e;obtain⟨l1,l2⟩:=BD a.1.2 (by exact d9 hM) e;exact#[bX.of_le l1,bM.of_le l2]
end
structure FVs (M:Int)(ps:Zt)(Xs:Zv):Prop where
 len:ps.length=Xs.length
 at_:∀(i:Nat) p X,ps[i]?=ο->Xs[i]?=se X->FV M p X
 hM:0<M
 bM:Bd 600 M
 bX:∀X∈Xs,Bd 1220 X
 few:Xs.length<=30
theorem FVs.get (f:FVs M ps Xs){i:Nat}(h:ps[i]?=ο):∃X,Xs[i]?=se X/\FV M p X/\Bd 1220 X:=by have hx:Xs[i]?=se (Xs[i]'(by rw[<-f.len];exact 'M'.1)):=aJ _;exact#[_,hx,f.at_ i p _ h hx,f.bX _ Nw]
theorem Kc {k:Nat}:∀(l:Zv),(∀x∈l,Bd k x)->l.sum.natAbs<=l.length*2^k:=by intro r;induction r with| nil =>rintro _;simp| cons x r ih =>rintro h;have a:=h x aI;have b:=ih λy hy=>h y (aY _ hy);rw[cy,fS,wK,wI];have:=zP x r.sum;have a':x.natAbs<2^k:=a;lia
theorem Kd (h:x.natAbs<=n*2^k)(hn:n<=64):Bd (k+7) x:=by show x.natAbs<2^(k+7);have:n*2^k<=64*2^k:=uc _ hn;grind
theorem Ke {l:Zv}(h:∀x∈l,Bd k x)(hl:l.length<=64):Bd (k+7) l.sum:=Kd (Kc l h) hl
theorem zdt (l:Zv)(x:Int):(l++[x]).sum=l.sum+x:=Τ
theorem zee {l:Zv}(h:∀x∈l,Bd k x)(hl:l.length<=64)(i:Nat):Bd (k+7) (l.take i).sum:=Ke (λx hx=>h x (List.mem_of_mem_take hx)) (by grind)
theorem Kh {q:Int}(h1:1<=q)(h2:q<=20):q∣232792560:=by obtain⟨n,rfl⟩:=o0 (show 0<=q by exact cE h1);(have k:∀n:Fin 21,1<=n.val->(n.val:Int)∣232792560:=by decide);exact k #[n,by lia] (by lia)
end NAM
namespace NAY
open PySem NAL NAL.EX NAL.RX NAM
section
variable {h:TH}{a b:Int}{p q:Zx}
noncomputable def Sd (p:Zx):D:=.tup [.int p.1,.int p.2]
theorem fj (h0:y≠0)(hl:y.natAbs.log2<9000):Sg Z8 Ih h=.ok (.int (x.fdiv y)) h:=by show Q3 (pDiv x y) _=_;unfold pDiv;rw[jE,Qb h0,bR.mpr hl];rfl
theorem Df:gAbs [Z8] h=.ok (.int (if x<0 then-x else x)) h:=by show R.ok (D.int (bif X1 x 0 then-x else x)) h=_;rw[gZ];simp_all
theorem x6:TQ [.int a,.int b] h=.ok (.int (bP a b)) h:=by obtain⟨ρ2,h2,q2,rfl,l,r,rfl⟩:=n8 (fT:=V0) (fs:=VY) (λm ρ h1=>h=h1/\∃(g l:Int) (r:Option D),ρ=[[ω,a],[ω,b],[ω,g],[ω,l],r]/\0<=g/\0<=l/\bP g l=bP a b/\m=l.toNat) (fun ρ h1=>h=h1/\∃(l:Int) (r:Option D),ρ=[[ω,a],[ω,b],[ω,bP a b],[ω,l],r]) (λm ρ h1 I=>by obtain⟨rfl,g,l,r,rfl,hg,hl,e,rfl⟩:=I;by_cases c:0<l;have:=kb g c;exact#[tj,h,aQ [Ψ,rfl,oa c],λ_=>nA [Ψ,rfl,mod_int c] (nA rfl (nE (iE rfl rfl) #[(g%l).toNat,NAG.gl24 c this,rfl,l,g%l,_,rfl,hl,kc _ (by exact d9 c),by rw[IA hg c,e],rfl])),λz=>(nomatch z)];(have e0:=by exact NAG.gl23 hl c);subst e0;exact#[ff,h,aQ [Ψ,rfl,og c],λz=>(nomatch z),λ_=>#[rfl,0,r,by rw[<-e,zeD hg]]]) #[rfl,_,_,ng,rfl,BF a,BF b,IB a b,rfl];exact[ώ,sA (aK [Ω,rfl] Df) (sA (aK [Ω,rfl] Df) (sG q2 [Ϸ,rfl]))]
theorem Ki:UP [.int a] h=.ok TE h:=pJ rfl rfl rfl
theorem Dg (hb:b≠0)(hB:Bd 9000 b):∃p,UE [.int a,.int b] h=.ok ZM h/\Yr/\p.1*b=a*p.2:=by obtain⟨j,hj⟩:∃j,j=if b<0 then-((bP a b):Int)else(bP a b):=#[_,rfl];obtain⟨h1,h2,h3,h4,h5⟩:=BB hb hj;have W:∀{x:Int} {fT:RT} {ρ:Rb} {fa:RE},fa ρ h=.ok Z8 h->Zf (Xa (Qy (Q4 UP (Qc fa Qg)))) fT ρ h=fT ρ h:=λz=>n9 (rr (aQ (aK [Ω,z] Ki)));refine#[(a.fdiv j,Kf),[ώ,sF ((W rfl).trans ((W rfl).trans (aQ [Ψ,rfl,uU hb]))) (sA (aK [Ϙ,[Ω,rfl]] x6) (sG (ρ1:=[[ω,a],[ω,b],[ω,j]]) ?_ [Ϸ,fY (aE [Ψ,rfl,fj h1 (uA hB h2 h1)] [Ω,[Ψ,rfl,fj h1 (uA hB h2 h1)]]) rfl]))],#[h3,h4],h5];by_cases c:b<0;rw['>'] at hj;exact(jg (aQ [Ψ,rfl,pO c])).trans (hj▸rfl);rw[oO] at hj;exact(g8 (aQ [Ψ,rfl,ru c])).trans (hj▸rfl)
theorem zdy (hp:Yr)(hq:WZ q)(ba:Bd 4000 p.1)(bb:Bd 4000 p.2)(bc:Bd 4000 q.1)(bd:Bd 4000 q.2):∃r,T7 [ZM,Sd q] h=.ok (Sd r) h/\WZ r/\r.1*(p.2*q.2)=(p.1*q.2+q.1*p.2)*r.2:=by obtain⟨a,b⟩:=p;obtain⟨c,d⟩:=q;obtain⟨m1,m2,m3,m4,m5,m6,m7,m8⟩:=zea hp.1 hq.1 hp.2 hq.2 rfl rfl rfl;have gp:=qU (a:=b) (b:=d) (by lia);have dv1:=x6 (h:=h) (a:=b) (b:=d);generalize hg:(bP b d)=g at *;have lg:=uA (bd.le (by decide)) m2 m1;have bg:=bd.of_le m2;have b1:=bd.of_le (xa gp);have b2:=bb.of_le (xa gp);have ep:=qU (a:=a*Kb+c*Ms) (b:=g) (by assumption);have dv2:=x6 (h:=h) (a:=a*Kb+c*Ms) (b:=g);have q1:=fj (h:=h) (x:=d) m1 lg;have q2:=fj (h:=h) (x:=b) m1 lg;have x1:=oj (h:=h) (ba.le (show 4000<=4096 by decide)) (b1.le (show 4000<=4096 by decide));have x2:=oj (h:=h) (bc.le (show 4000<=4096 by decide)) (b2.le (show 4000<=4096 by decide));generalize he:(bP (a*Kb+c*Ms) g)=e at *;have le:=uA (bg.le (by decide)) m5 m4;have b3:=bd.of_le (xa ep);have q3:=fj (h:=h) (x:=a*Kb+c*Ms) m4 le;have q4:=fj (h:=h) (x:=d) m4 le;have x3:=oj (h:=h) (b2.le (show 4000<=4096 by decide)) (b3.le (show 4000<=4096 by decide));exact#[((a*Kb+c*Ms).fdiv e,Ms*Kq),[ώ,sA (aK [Ϙ,[Ω,rfl]] dv1) (sA (aD (aD rfl [Ψ,rfl,q1] x1) (aD rfl [Ψ,rfl,q2] x2) rfl) (sA (aK [Ϙ,[Ω,rfl]] dv2) [Ϸ,fY (aE [Ψ,rfl,q3] [Ω,aD [Ψ,rfl,q2] [Ψ,rfl,q4] x3]) rfl]))],#[m6,m7],m8]
end
end NAY
namespace NAM
open PySem NAL NAL.EX
theorem lY (h:∀e<n,f e<=g e)(k:[Pr,g]<=[Pr,f]):∀e<n,f e=g e:=by rw[uI,uI] at k;intro e he;exact NAP.sum_eqI (λx hx=>h x Jg) k e (dF.mpr he)
section
variable {gs ts ac ab aa:Zv}{ai:Zu}
theorem rz:(RH G T ai).ends=ai.map λp=>(p.1,G+p.2):=rfl
theorem Dh (W:[tx,ts.length,ai].WF)(F:NAP.Flow [tx,ts.length,ai] (gs++ts) ac ab)(b:Bool):NAP.upTo (λe=>if decide (e<gs.length)=b then[Ic,[tx,ts.length,ai].ends,ac]else 0) (gs.length+ts.length)=ac.sum:=by have lo:=NAP.Wh (S:=λe=>decide (decide (e<gs.length)=b)) W.two F.ls;(have e1:NAP.upTo (λe=>if decide (e<gs.length)=b then[Ic,[tx,ts.length,ai].ends,ac]else 0) (gs.length+ts.length)=NAP.upTo (λe=>if decide (decide (e<gs.length)=b)=tj then[Ic,[tx,ts.length,ai].ends,ac]else 0) (gs.length+ts.length):=NAP.Qm λe he=>by by_cases c:decide (e<gs.length)=b;rw['>',P8 (P9 c)];rw[oO,P7 (λz=>c (Qa z))]);rw[e1];refine lo.trans ?_;rw[<-NAP.WK F.ls];congr 1;refine cq λq hq=>?_;obtain⟨k,hk⟩:=bf (cx hq).1;have:=W.lo k q.1 hk;have g1:q.1.1<gs.length:=this.1;(have g2:¬q.1.2<gs.length:=by have:=this.2.1;exact Nat.not_lt.mpr this);rw[P9 g1,Qb g2];cases b<;>simp
theorem zct (W:[tx,ts.length,ai].WF)(F:NAP.Flow [tx,ts.length,ai] (gs++ts) ac ab)(h:gs.sum<=ac.sum):∀g<gs.length,NAP.load [tx,ts.length,ai].ends ac g=gs.getD g 0:=by have s:=Dh W F tj;have k:=lY (f:=λe=>if decide (e<gs.length)=tj then[Ic,[tx,ts.length,ai].ends,ac]else 0) (g:=λe=>if decide (e<gs.length)=tj then(gs++ts).getD e 0 else 0) (n:=gs.length+ts.length) (λe he=>by split;exact(F.load_le he).1;exact ϳ) (by rw[s,NAP.UG];(have z:NAP.upTo (λe=>if decide (gs.length+e<gs.length)=tj then(gs++ts).getD (gs.length+e) 0 else 0) ts.length=0:=by rw[NAP.Qm (g:=λ_=>0) λe _=>P7 (by simp),NAP.Rs]);(have y:NAP.upTo (λe=>if decide (e<gs.length)=tj then(gs++ts).getD e 0 else 0) gs.length=gs.sum:=by rw[NAP.Qm (g:=λe=>gs.getD e 0) λe he=>by rw[P8 (P9 he),xk he],uI];have:=xw (λx:Int=>x) 0 gs;rw[this,wH]);rw[z,y];simp_all);intro g hg;have:=k g (by lia);rw[P9 hg,Cx,Cx,xk hg] at this;exact this
theorem Kl (W:[tx,ts.length,ai].WF)(F:NAP.Flow [tx,ts.length,ai] (gs++ts) ac ab)(h:ts.sum<=ac.sum):∀t<ts.length,NAP.load [tx,ts.length,ai].ends ac (gs.length+t)=ts.getD t 0:=by have k:=lY (f:=λe=>if decide (e<gs.length)=ff then[Ic,[tx,ts.length,ai].ends,ac]else 0) (g:=λe=>if decide (e<gs.length)=ff then(gs++ts).getD e 0 else 0) (n:=gs.length+ts.length) (λe he=>by split;exact(F.load_le he).1;exact ϳ) (by rw[Dh W F ff,NAP.UG];(have z:NAP.upTo (λe=>if decide (e<gs.length)=ff then(gs++ts).getD e 0 else 0) gs.length=0:=by rw[NAP.Qm (g:=λ_=>0) λe he=>P7 Τ,NAP.Rs]);(have y:NAP.upTo (λe=>if decide (gs.length+e<gs.length)=ff then(gs++ts).getD (gs.length+e) 0 else 0) ts.length=ts.sum:=by rw[NAP.Qm (g:=λe=>ts.getD e 0) λe he=>by rw[P8 (by simp),xm],uI];have:=xw (λx:Int=>x) 0 ts;rw[this,wH]);simp_all);intro t ht;have:=k (gs.length+t) Τ;rwa [Qb Τ,Cx,Cx,xm] at this
theorem Km (hn:c.1.Nodup)(cn:c.2.Nodup)(rst:qY ws aC c)(wp:∀x∈ws,1<=x)(lg:gs.length=c.2.length)(D:NAP.TX [tx,ts.length,Q2 aC c.1 c.2] (gs++ts) ac ab aa) :∃nh:Nat->Bool,c.1.length*NAP.upTo (λg=>if[ZE,g]then Rn ws (c.2.getD g 0)else 0) c.2.length<=[Ϻ,c]*NAP.cnt c nh/\NAP.cnt c nh<=c.1.length/\0<=NAP.cnt c nh/\∀v:Int,NAP.upTo (λj=>if[ZE,gs.length+j]then v else 0) c.1.length=v*NAP.cnt c nh:=by refine#[λh=>[ZE,gs.length+c.1.idxOf h],?_,?_,?_,λv=>?_];refine gq (tH ?_ Τ) (rst λh=>[ZE,gs.length+c.1.idxOf h]);(have e:NAP.upTo (λg=>if[ZE,g]then Rn ws (c.2.getD g 0)else 0) c.2.length=(c.2.map λx=>if[ZE,c.2.idxOf x]then Rn ws x else 0).sum:=by grind[NAP.UB,NAP.Qm,jD,NAP.Tu]);rw[e];unfold NAP.VI;refine NAP.Wg λx hx=>?_;have wpx:=qX wp x;by_cases z:[ZE,c.2.idxOf x]=tj;(have all:(c.1.all λh=>(!(Rz aC x).contains h||[ZE,gs.length+c.1.idxOf h]))=tj:=i9.mpr λh hh=>by cases q:(Rz aC x).contains h with| false=>rfl| true =>have lx:=fH hx;(have gx:c.2[c.2.idxOf x]?=σ:=Τ);(have gh:c.1[c.1.idxOf h]?=se h:=by grind);obtain⟨k,hk⟩:=bf ((jz hn _ _).mpr #[x,h,gx,gh,kf.mp q]);have:=D.ai _ _ _ #[(c.2.idxOf x,gs.length+c.1.idxOf h),by rw[rz,bo,hk];rfl,.inl #[rfl,rfl]] (show c.2.idxOf x<gs.length by simp_all) z;rw[this];rfl);lia;lia;(have:∀l:Zw,(l.map λh=>if[ZE,gs.length+c.1.idxOf h]=tj then(1:Int)else 0).sum<=l.length:=λl=>by induction l with| nil=>simp| cons x r ih =>grind);exact this c.1;refine I3 λx hx=>?_;grind;unfold NAP.cnt;rw[NAP.VF,<-NAP.UB];refine NAP.Qm λg hg=>?_;grind
theorem zdr:NAP.upTo (λg=>wk (c.2.getD g 0)) c.2.length=NAP.Ub wk c:=NAP.UB _
theorem Ko (S:Nat->Bool)(f:Nat->Int)(n:Nat):[Pr,λg=>if S g then 0 else f g]=[Pr,f]-[Pr,λg=>if S g then f g else 0]:=by induction n with| zero=>rfl| succ n ih =>show NAP.upTo (λg=>if S g then 0 else f g) n+(if S n then 0 else f n)=(NAP.upTo f n+f n) - (NAP.upTo (λg=>if S g then f g else 0) n+(if S n then f n else 0));rw[ih];split<;>lia
theorem Di (f:Nat->Int)(k:Int)(n:Nat):[Pr,λg=>f g*k]=[Pr,f]*k:=by induction n with| zero=>show 0=0*k;rw[ni]| succ n ih =>show _+_=(_+_)*k;rw[ih,o6]
theorem Dj {v:Int}(h:j<n):(be n v).getD j 0=v:=Τ
end
noncomputable def Wc (H:Hp) (S:Lh):Hp:=λb=>if b∈S then ng else H b
section
end
noncomputable def TW {α:Type} (aC:Zs) (c:NAP.Cr) (ss:υ):List (Nat×Nat×α):=((Q2 aC c.1 c.2).zip ss).map λt=>(c.2.getD t.1.1 0,(Rz aC (c.2.getD t.1.1 0)).idxOf (c.1.getD t.1.2 0),t.2)
noncomputable def So {α:Type} (aC:Zs) (no:α):N2:=aC.map λr=>be r.length no
noncomputable def Sq {α:Type} (aC:Zs) (L:Tm) (bD:N2) (no:α):N2:=('J'.flatMap λx=>TW aC x.1 x.2).foldl NAP.Tv (So aC no)
section
end
inductive TripAt {α:Type} (aC:Zs) (c:NAP.Cr) (ss:υ) (t:Nat×Nat×α):Prop
 | mk (g p x hd:Nat) (h1:((g,p),t.2.2)∈(Q2 aC c.1 c.2).zip ss) (h2:c.2[g]?=σ) (h3:c.1[p]?=se hd) (h4:hd∈Rz aC x) (h5:t.1=x) (h6:t.2.1=(Rz aC x).idxOf hd)
theorem mu (hn:c.1.Nodup)(h:t∈TW aC c ss):TripAt aC c ss t:=by obtain⟨u,hu,rfl⟩:=NH;obtain⟨x,hd,h1,h2,h3⟩:=(jz hn u.1.1 u.1.2).mp (cx hu).1;refine#[u.1.1,u.1.2,x,hd,hu,h1,h2,h3,IT,?_];rw[IT,NAP.Rt h2]
theorem x7 (aC:Zs)(no:α):NAP.Zo aC.length (λx=>(Rz aC x).length) (So aC no):=by unfold So;refine#[a8 ..,λx hx=>?_];show _=(aC.getD x []).length;simp_all
structure Ys (ws:Zv)(aC:Zs)(c:NAP.Cr):Prop where
 nd:c.1.Nodup
 cn:c.2.Nodup
 hl:c.1.length<=20
 cl:c.2.length<=20
 ci:∀x∈c.2,x<ws.length
 n0:0<c.1.length
 rst:qY ws aC c
noncomputable def UJ {α:Type} (f:α->Int) (ai:Zu) (ss:υ) (P:Nat×Nat->Bool):Int:=((ai.zip ss).map λq=>if P q.1 then f q.2 else 0).sum
theorem zdu (hg:g<G):NAP.load (ai.map λp=>(p.1,G+p.2)) ss g=UJ id ai ss (λp=>p.1==g):=by rw[NAP.XN];rw[wq,cj];congr 1;refine cq λq _=>?_;show(if NAP.Xo (q.1.1,G+q.1.2) g then q.2 else 0)=if(q.1.1==g)=tj then q.2 else 0;(have:NAP.Xo (q.1.1,G+q.1.2) g=(q.1.1==g):=by unfold NAP.Xo;lia);rw[this]
theorem Kr (hp:∀p∈ai,p.1<G):NAP.load (ai.map λp=>(p.1,G+p.2)) ss (G+t)=UJ id ai ss (λp=>p.2==t):=by rw[NAP.XN];rw[wq,cj];congr 1;refine cq λq hq=>?_;have:=hp q.1 (cx hq).1;show(if NAP.Xo (q.1.1,G+q.1.2) (G+t)then q.2 else 0)=if(q.1.2==t)=tj then q.2 else 0;(have:NAP.Xo (q.1.1,G+q.1.2) (G+t)=(q.1.2==t):=by unfold NAP.Xo;lia);rw[this]
theorem UY.crowdP (C:UY ws aC ae L)(hm:ae<=20)(hw:ws.length<=20)(hc:c∈L):Ys ws aC c:=by obtain⟨a,b,d,e,f⟩:=C.lt hc;exact#[nW e,nW f,b9 (ig e a) hm,b9 (ig f b) hw,b,eY.mpr d,C.rst c hc]
theorem x8 {L:Tm}(nd:(L.flatMap f).Nodup){i j x:Nat}(hi:L[i]?=ϓ)(hj:L[j]?=Ϡ)(hx:x∈f c)(hy:x∈f d):i=j:=by have pw:=(v5.mp nd).2;rw[o7] at pw;obtain⟨li,rfl⟩:='l';obtain⟨lj,rfl⟩:='-';rcases lU i j with h | h | h;exact[J4,pw i j li lj h x hx x hy];exact h;exact[J4,pw j i lj li h x hy x hx]
theorem zeB (g:Nat)(nr:row.Nodup):(Uc ag g row).Nodup:=by refine List.Pairwise.filterMap _ (λa b oT p hp q hq=>?_) nr;cases ha:[JD,a]with| none=>simp_all| some u =>cases hb:[JD,b]with| none=>simp_all| some v =>rw[ha] at hp;rw[hb] at hq;cases hp;cases hq;have h1:=xq ha;have h2:=xq hb;lia
theorem Kt (hn:ag.Nodup)(nr:∀r∈aC,r.Nodup):∀i:Nat,(Tj aC ag ad i).Nodup:=by intro i;induction i with| zero =>simp[Tj]| succ i ih =>rw[Tj,kD];refine#[ih,zeB i ?_,λa ha b hb e=>?_];all_goals grind[bC,aJ,kh,eG,BQ,BP]
theorem x9:∀{l:List α} {m:List β},l.Pairwise R->(l.zip m).Pairwise λx y=>R x.1 y.1| [],_,_=>by simp| _::_,[],_=>by simp| a::l,b::m,h=>by have h':=lK.mp h;exact lK.mpr #[λy hy=>h'.1 y.1 (cx hy).1,x9 h'.2]
section
variable {α:Type}{aC:Zs}{L:Tm}{bD:N2}
structure Za (aC:Zs)(L:Tm):Prop where
 nr:∀r∈aC,r.Nodup
 nd:∀c∈L,c.1.Nodup/\c.2.Nodup/\∀x∈c.2,x<aC.length
 cd:(L.flatMap (·.2)).Nodup
 hd:(L.flatMap (·.1)).Nodup
theorem Ku {ss:υ}(nr:∀r∈aC,r.Nodup)(hn:c.1.Nodup)(cn:c.2.Nodup):(TW aC c ss).Pairwise λt u=>¬(t.1=u.1/\t.2.1=u.2.1):=by unfold TW;rw[wt];refine Ax (λ{a b} ha hb oT=>?_) (x9 (m:=ss) (Kt (ad:=c.2) hn nr c.2.length));rintro⟨e1,e2⟩;obtain⟨x,h,h1,h2,h3⟩:=(jz hn a.1.1 a.1.2).mp (cx ha).1;obtain⟨y,k,k1,k2,k3⟩:=(jz hn b.1.1 b.1.2).mp (cx hb).1;dsimp only at e1 e2;rw[IT,NAP.Rt k1] at e1;subst e1;rw[IT,NAP.Rt k1,NAP.Rt h2,NAP.Rt k2] at e2;(have ek:h=k:=by rw[<-tW (fH h3),<-tW (fH k3)];congr 1);subst ek;exact oT (Prod.ext (by rw[<-jD cn h1,<-jD cn k1]) (by rw[<-jD hn h2,<-jD hn k2]))
theorem ya (h:Za aC L)(hl:bD.length=L.length)(w0:∀x k,W x k no=0) :NAP.Zo aC.length (λx=>(Rz aC x).length) (Sq aC L bD no)/\NAP.S2 no aC.length (λx=>(Rz aC x).length) W (Sq aC L bD no)=('J'.map λx=>((TW aC x.1 x.2).map λt=>W t.1 t.2.1 t.2.2).sum).sum:=by(have at0:∀x k,NAP.Yb no (So aC no) x k=no:=λx k=>by simp only[NAP.Yb,So,bC,bo];cases aC[x]? with| none=>rfl| some r=>simp only[pB,AI,lI];split<;>rfl);(have bnd:∀t∈'J'.flatMap λx=>TW aC x.1 x.2,t.1<aC.length/\t.2.1<(Rz aC t.1).length:=λt ht=>by obtain⟨u,hu,hu2⟩:=kj.mp ht;have hc:=h.nd u.1 (cx hu).1;obtain⟨_,_,x,hd,_,z1,_,z3,z4,z5⟩:=mu hc.1 hu2;rw[z4,z5];exact#[hc.2.2 x Ig,fH z3]);(have pw:('J'.flatMap λx=>TW aC x.1 x.2).Pairwise λt u=>¬(t.1=u.1/\t.2.1=u.2.1):=by rw[v5];refine#[λu hu=>?_,?_];have hc:=h.nd u.1 (cx hu).1;exact Ku h.nr hc.1 hc.2.1;refine Ax (λ{a b} ha hb oT t ht u hu=>?_) (x9 (v5.mp h.cd).2);have ca:=h.nd a.1 (cx ha).1;have cb:=h.nd b.1 (cx hb).1;obtain⟨_,_,x,_,_,z1,_,_,z4,_⟩:=mu ca.1 ht;obtain⟨_,_,y,_,_,y1,_,_,y4,_⟩:=mu cb.1 hu;rintro⟨e,_⟩;rw[z4,y4] at e;exact oT x Ig y (aG y1) e);obtain⟨s1,s2⟩:=NAP.fold_S2 w0 _ _ (x7 aC no) bnd pw λt _=>at0 t.1 t.2.1;refine#[s1,?_];(have z0:NAP.S2 no aC.length (λx=>(Rz aC x).length) W (So aC no)=0:=by unfold NAP.S2;simp only[at0,w0,NAP.UD]);unfold Sq;rw[s2,z0,lF];(have fl:∀l:List (NAP.Cr× υ),((l.flatMap λx=>TW aC x.1 x.2).map λt=>W t.1 t.2.1 t.2.2).sum=(l.map λx=>((TW aC x.1 x.2).map λt=>W t.1 t.2.1 t.2.2).sum).sum:=λl=>by induction l with| nil=>rfl| cons a r ih=>simp_all);exact fl _
theorem Kv (h:Za aC L)(hl:bD.length=L.length)(f0:f no=0){i g x:Nat}(hc:L[i]?=ϓ)(hs:bD[i]?=se ss)(hg:c.2[g]?=σ):(((Sq aC L bD no).getD x []).map f).sum=UJ f (Q2 aC c.1 c.2) ss λp=>p.1==g:=by(obtain⟨sh,e⟩:=ya h hl (W:=λy k a=>if y=x then f a else 0) λy k=>by rw[f0];split<;>rfl);have xl:=(h.nd c MQ).2.2 x (aG hg);(have lhs:NAP.S2 no aC.length (λx=>(Rz aC x).length) (λy k a=>if y=x then f a else 0) (Sq aC L bD no)=(((Sq aC L bD no).getD x []).map f).sum:=by unfold NAP.S2;have o:=NAP.Xy (λ_=>0) (λy=>((aM (Rz aC y).length).map λk=>if y=x then f (NAP.Yb no (Sq aC L bD no) y k)else 0).sum) x (λy hy=>by rw[cq (λk _=>P7 hy),NAP.UD]) aC.length xl;rw[NAP.UD,lF,Int.sub_zero] at o;rw[o];simp only[if_true];have ln:((Sq aC L bD no).getD x []).length=(Rz aC x).length:=sh.2 x xl;rw[<-ln];have:=xw f no ((Sq aC L bD no).getD x []);rw[<-this];rfl);rw[lhs] at e;rw[e];rw[NAP.Xx ((bF (z:=(c,ss))).mpr #[hc,hs]) λj z hz hj=>?_];unfold TW UJ;rw[cj];congr 1;refine cq λq hq=>?_;obtain⟨y,hd,h1,h2,h3⟩:=(jz (h.nd c MQ).1 q.1.1 q.1.2).mp (cx hq).1;show(if c.2.getD q.1.1 0=x then f q.2 else 0)=if(q.1.1==g)=tj then f q.2 else 0;rw[IT];have cn:=(h.nd c MQ).2.1;by_cases z:q.1.1=g;simp_all;have:¬y=x:=λe=>z (by rw[<-jD cn h1,<-jD cn hg,e]);simp_all;obtain⟨z1,z2⟩:=(bF).mp hz;(have:∀t∈TW aC z.1 z.2,(λt=>if t.1=x then f t.2.2 else 0) t=0:=λt ht=>by obtain⟨_,_,y,_,_,y1,_,_,y4,_⟩:=mu (h.nd z.1 Ig).1 ht;refine P7 λe=>hj ?_;rw[y4] at e;subst e;exact x8 h.cd z1 hc (aG y1) (aG hg));rw[cq this,NAP.UD]
theorem uY (F:β×γ->Int)(d:β)(e:γ):∀{r:List β} {s:List γ},s.length=r.length->('V'.map F).sum=((aM r.length).map λk=>F (r.getD k d,s.getD k e)).sum:=λ{r s} hl=>by congr 1;refine wv (by simp[hl]) λk h1 h2=>?_;(have h1:=by simpa using h2);simp[bC,h1,hl▸h1]
noncomputable def bagF (f:α->Int) (l:List (Nat×α)) (h:Nat):Int:=(l.map λx=>if x.1=h then f x.2 else 0).sum
noncomputable def Y7 (aC:Zs) (R:N2):List (Nat×α):=(aC.zip R).flatMap λx=>x.1.zip x.2
theorem Kw (h:Za aC L)(hl:bD.length=L.length)(f0:f no=0){i p h0:Nat}(hc:L[i]?=ϓ)(hs:bD[i]?=se ss)(hp:c.1[p]?=se h0):bagF f (Y7 aC (Sq aC L bD no)) h0=UJ f (Q2 aC c.1 c.2) ss λq=>q.2==p:=by(obtain⟨sh,e⟩:=ya h hl (W:=λx k a=>if(Rz aC x).getD k 0=h0 then f a else 0) λy k=>by rw[f0];split<;>rfl);(have lhs:NAP.S2 no aC.length (λx=>(Rz aC x).length) (λx k a=>if(Rz aC x).getD k 0=h0 then f a else 0) (Sq aC L bD no)=bagF f (Y7 aC (Sq aC L bD no)) h0:=by unfold NAP.S2 bagF Y7;(have fl:∀l:List (List Nat× υ),((l.flatMap λx=>x.1.zip x.2).map λx=>if x.1=h0 then f x.2 else 0).sum=(l.map λx=>((x.1.zip x.2).map λx=>if x.1=h0 then f x.2 else 0).sum).sum:=λl=>by induction l with| nil=>rfl| cons a r ih=>simp_all);rw[fl,uY _ [] [] sh.1];congr 1;refine cq λx hx=>?_;rw[uY _ 0 no (show((Sq aC L bD no).getD x []).length=(aC.getD x []).length from sh.2 x Jg)];rfl);rw[lhs] at e;rw[e];(have val:∀{x hd:Nat},hd∈Rz aC x->(Rz aC x).getD ((Rz aC x).idxOf hd) 0=hd:=λ{x hd} hm=>by grind);rw[NAP.Xx ((bF (z:=(c,ss))).mpr #[hc,hs]) λj z hz hj=>?_];unfold TW UJ;rw[cj];congr 1;refine cq λq hq=>?_;have hn:=(h.nd c MQ).1;obtain⟨y,hd,h1,h2,h3⟩:=(jz hn q.1.1 q.1.2).mp (cx hq).1;show(if(Rz aC (c.2.getD q.1.1 0)).getD ((Rz aC (c.2.getD q.1.1 0)).idxOf (c.1.getD q.1.2 0)) 0=h0 then f q.2 else 0)=if(q.1.2==p)=tj then f q.2 else 0;rw[IT,NAP.Rt h2,val h3];by_cases z:q.1.2=p;simp_all;have:¬hd=h0:=λe=>z (by rw[<-jD hn h2,<-jD hn hp,e]);simp_all;obtain⟨z1,z2⟩:=(bF).mp hz;(have:∀t∈TW aC z.1 z.2,(λt=>if(Rz aC t.1).getD t.2.1 0=h0 then f t.2.2 else 0) t=0:=λt ht=>by obtain⟨_,_,y,hd,_,y1,y2,y3,y4,y5⟩:=mu (h.nd z.1 Ig).1 ht;refine P7 λe=>hj ?_;rw[y4,y5,val y3] at e;subst e;exact x8 h.hd z1 hc (aG y2) (aG hp));rw[cq this,NAP.UD]
end
theorem UY.rowsH (C:UY ws aC ae L)(h0:0<ae)(hl:aC.length=ws.length)(nr:∀r∈aC,r.Nodup):Za aC L:=by refine#[nr,λc hc=>?_,?_,?_];obtain⟨a,b,d,e,f⟩:=C.lt hc;exact#[nW e,nW f,λx hx=>by rw[hl];exact b x hx];have:=uF C h0;unfold Vx at this;rw[l6] at this;exact this.nodup_iff.mpr ua;have:=uE C h0;unfold Wi at this;rw[l6] at this;exact this.nodup_iff.mpr ua
theorem zes (C:UY ws aC ae L)(h0:0<ae):∃ps qs,Vd ws L ps/\UW ae L ps qs:=by(have low:∀c∈L,∃p:Zx,Yr/\p.1*c.1.length=[Ϻ,c]*p.2:=λc hc=>by have n0:0<c.1.length:=eY.mpr (C.lt hc).2.2.1;obtain⟨_,_,h3,h4,h5⟩:=BB (NAG.gl28 n0) rfl;exact#[(_,_),#[h3,h4],h5]);(have pf:∃pf:NAP.Cr->Zx,∀c∈L,WZ (pf c)/\(pf c).1*c.1.length=[Ϻ,c]*(pf c).2:=by refine#[λc=>if h:c∈L then Classical.choose (low c h)else(0,1),λc hc=>?_];simp only[hc,dif_pos];exact Classical.choose_spec (low c hc));obtain⟨pf,hpf⟩:=pf;have hp:=uE C h0;unfold Wi at hp;rw[l6] at hp;(have ex:∀h<ae,∃c,c∈L/\h∈c.1:=λh hh=>by obtain⟨c,hc,iI⟩:=kj.mp (hp.mem_iff.mpr (dF.mpr hh));exact#[c,hc,iI]);refine#[L.map pf,'3'.map λh=>if hh:h<ae then pf (Classical.choose (ex h hh))else(0,1),#[a8 ..,λi c p hc cH=>?_],#[by rw[a8,jv],λi c p hc cH h hh=>?_]];rw[bo,hc] at cH;cases cH;exact hpf c MQ;rw[bo,hc] at cH;cases cH;have eX:=(C.lt MQ).1 h hh;rw[bo,ju eX];simp only[pB,eX,dif_pos];obtain⟨z1,z2⟩:=Classical.choose_spec (ex h eX);obtain⟨j,hj⟩:=bf z1;have:=x8 (hp.nodup_iff.mpr ua) hj hc z2 hh;subst this;rw[hc] at hj;cases hj;rfl
theorem zd8 (pc:Ys ws aC c)(wp:∀x∈ws,1<=x) (D:NAP.TX (RH (QH ws c.1 c.2).length [Zy,c.1,c.2].length (Q2 aC c.1 c.2)) (QH ws c.1 c.2++[Zy,c.1,c.2]) ac ab aa) :ac.length=(Q2 aC c.1 c.2).length/\(∀s∈ac,0<=s)/\(∀g<c.2.length,UJ id (Q2 aC c.1 c.2) ac (λp=>p.1==g)=[KK,c.2.getD g 0]*c.1.length)/\∀t<c.1.length,UJ id (Q2 aC c.1 c.2) ac (λp=>p.2==t)=[Ϻ,c]:=by(have gl:(QH ws c.1 c.2).length=c.2.length:=by unfold QH;rw[a8]);(have lt:[Zy,c.1,c.2].length=c.1.length:=by unfold takesIn;rw[nu]);(have ewt:SQ ws c.2=[Ϻ,c]:=by unfold SQ NAP.Ub;rw[cq λx hx=>(uK (pc.ci x hx)).symm]);(have tie:∀p∈Q2 aC c.1 c.2,p.1<c.2.length/\p.2<c.1.length:=λp hp=>by obtain⟨x,h,h1,h2,_⟩:=(jz pc.nd p.1 p.2).mp hp;exact#['S'.1,'f'.1]);(have W:=xj (G:=(QH ws c.1 c.2).length) (T:=[Zy,c.1,c.2].length) λp hp=>by rw[gl,lt];exact tie p hp);obtain⟨nh,k1,k2,k3,k4⟩:=Km pc.nd pc.cn pc.rst wp gl D;have b:=D.bnd W;rw[I4,gl,lt] at b;(have gat:∀g<c.2.length,(QH ws c.1 c.2).getD g 0=Rn ws (c.2.getD g 0)*c.1.length:=λg hg=>by unfold QH;rw[bC,bo,NAP.Tu hg];show[KK,c.2.getD g 0]*_=_;rw[uK (pc.ci _ (aG (NAP.Tu hg)))]);(have e1:NAP.upTo (λe=>if[ZE,e]=tj then 0 else(QH ws c.1 c.2).getD e 0) c.2.length=[Ϻ,c]*c.1.length-NAP.upTo (λg=>if[ZE,g]=tj then Rn ws (c.2.getD g 0)else 0) c.2.length*c.1.length:=by rw[<-zdr,<-Di,<-Di];(have z:NAP.upTo (λg=>(if[ZE,g]=tj then Rn ws (c.2.getD g 0)else 0)*c.1.length) c.2.length=NAP.upTo (λg=>if[ZE,g]=tj then Rn ws (c.2.getD g 0)*c.1.length else 0) c.2.length:=NAP.Qm λg _=>by split;rfl;exact ni _);rw[z,<-Ko];refine NAP.Qm λg hg=>?_;rw[gat g hg]);(have e2:NAP.upTo (λj=>if[ZE,c.2.length+j]=tj then[Zy,c.1,c.2].getD j 0 else 0) c.1.length=[Ϻ,c]*NAP.cnt c nh:=by rw[<-k4,gl];refine NAP.Qm λj hj=>?_;unfold takesIn;rw[Dj hj,ewt]);rw[e1,e2] at b;(have big:[Ϻ,c]*c.1.length<=ac.sum:=by lia);(have gsum:(QH ws c.1 c.2).sum=[Ϻ,c]*c.1.length:=by unfold QH NAP.Ub;rw[NAP.V1];congr 1;refine cq λx hx=>?_;rw[uK (pc.ci x hx)]);(have tsum:[Zy,c.1,c.2].sum=[Ϻ,c]*c.1.length:=by unfold takesIn;rw[ewt];generalize c.1.length=m;induction m with| zero=>simp| succ m ih =>grind);have gv:=zct W D.flow (by rwa [gsum]);have tk:=Kl W D.flow (by rwa [tsum]);rw[gl] at gv;rw[lt,gl] at tk;refine#[by have:=D.flow.ls;rwa [rz,a8] at this,λs hs=>?_,λg hg=>?_,λt ht=>?_];obtain⟨k,hk⟩:=bf hs;exact D.flow.nn k s hk;have:=gv g hg;rwa [rz,zdu hg,gat g hg,uK (pc.ci _ (aG (NAP.Tu hg)))] at this;have:=tk t ht;rw[rz,Kr (λp hp=>(tie p hp).1)] at this;rw[this];unfold takesIn;rw[Dj ht,ewt]
structure Y9 (ws:Zv)(aC:Zs)(c:NAP.Cr)(ss:Zt):Prop where
 len:ss.length=(Q2 aC c.1 c.2).length
 ok:∀p∈ss,Yr/\0<=p.1/\p.2∣(c.1.length:Int)/\Bd 330 p.1
 gv:∀M:Int,(c.1.length:Int)∣M->0<M->∀g<c.2.length,UJ (vl M) (Q2 aC c.1 c.2) ss (λp=>p.1==g)=[KK,c.2.getD g 0]*M
 tk:∀M:Int,(c.1.length:Int)∣M->0<M->∀t<c.1.length,UJ (vl M) (Q2 aC c.1 c.2) ss (λp=>p.2==t)*c.1.length=[Ϻ,c]*M
theorem Kz (pc:Ys ws aC c)(hb:∀s∈ac,Bd 330 s) (h1:ac.length=(Q2 aC c.1 c.2).length) (h2:∀s∈ac,0<=s) (h3:∀g<c.2.length,UJ id (Q2 aC c.1 c.2) ac (λp=>p.1==g)=[KK,c.2.getD g 0]*c.1.length) (h4:∀t<c.1.length,UJ id (Q2 aC c.1 c.2) ac (λp=>p.2==t)=[Ϻ,c]) (sl:ss.length=ac.length) (sp:∀(k:Nat) p s,ss[k]?=ο->ac[k]?=Ϩ->Yr/\p.1*c.1.length=s*p.2):Y9 ws aC c ss:=by(have n0:(0:Int)<c.1.length:=by have:=pc.n0;simp_all);(have one:∀k p s,ss[k]?=ο->ac[k]?=Ϩ->p.2∣(c.1.length:Int)/\∀M,(c.1.length:Int)∣M->vl M p*c.1.length=s*M:=λk p s hp hs=>by obtain⟨l,e⟩:=sp k p s hp hs;have d:=(uw l.2 e).1;refine#[d,λM hM=>?_];have p1:=l.1;refine ka (a:=p.2) (by exact d9 p1) ?_;(have a1:vl M p*(c.1.length:Int)*p.2=vl M p*p.2*c.1.length:=by grind);rw[a1,xu (o5 d hM)];(have a2:p.1*M*(c.1.length:Int)=p.1*c.1.length*M:=by grind);rw[a2,e];grind);(have tl:∀M,(c.1.length:Int)∣M->∀P:Nat×Nat->Bool,UJ (vl M) (Q2 aC c.1 c.2) ss P*c.1.length=UJ id (Q2 aC c.1 c.2) ac P*M:=λM hM P=>by unfold UJ;rw[NAP.V1,NAP.V1];have z:(0,1)=((0:Int),1):=rfl;rw[uY _ (0,0) (0,1) (by rwa [sl]),uY _ (0,0) 0 (by assumption)];congr 1;refine cq λk hk=>?_;grind);refine#[by rwa [sl],λp hp=>?_,λM hM m0 g hg=>?_,λM hM m0 t ht=>?_];obtain⟨k,hk⟩:=bf hp;have jM:=(aH.mp hk).1;have hs:ac[k]?=se [Pp,0]:=getD_at (by rwa [<-sl]);obtain⟨l,e⟩:=sp k p _ hk hs;have p1:=l.1;refine#[l,?_,(one k p _ hk hs).1,(hb _ (aG hs)).of_le (BD l.2 (by exact d9 n0) e).1];refine vP (a:=(c.1.length:Int)) ?_ n0;rw[ni,e];exact i6 (h2 _ (aG hs)) (by exact cE p1);refine ka (a:=(c.1.length:Int)) (by exact d9 n0) ?_;rw[tl M hM,h3 g hg];grind;rw[tl M hM,h4 t ht]
theorem KA:∀(T:List (Nat×Nat × α)) R,NAP.Zo n ln R->(∀t∈T,t.1<n/\t.2.1<ln t.1)->∀x k,NAP.Yb no (T.foldl NAP.Tv R) x k=NAP.Yb no R x k\/∃t∈T,t.1=x/\t.2.1=k/\NAP.Yb no (T.foldl NAP.Tv R) x k=t.2.2:=by intro T;induction T with| nil =>rintro R _ _ x k;exact .inl rfl| cons t T ih =>rintro R s hb x k;obtain⟨b1,b2⟩:=hb t aI;rw[pj];rcases ih (NAP.Tv R t) (s.put b1) (λu hu=>hb u (aY _ hu)) x k with h | ⟨u,hu,h1,h2,h3⟩;rw[h,NAP.WW s b1 b2 x k];split;exact .inr #[t,aI,by simp_all,by simp_all,rfl];exact .inl rfl;exact .inr #[u,aY _ hu,h1,h2,h3]
structure EvenR (ws:Zv)(aC:Zs)(ae:Nat)(R:Zr)(qs:Zt):Prop where
 len:R.length=aC.length
 row:∀(i:Nat) r s,aC[i]?=τ->R[i]?=Ϩ->s.length=r.length
 sum:∀M:Int,0<M->232792560∣M->∀(i:Nat) s,R[i]?=Ϩ->(s.map (vl M)).sum=[KK,i]*M
 ok:∀s∈R,∀p∈s,Yr/\0<=p.1/\p.2∣232792560/\Bd 330 p.1
 load:∀M:Int,0<M->232792560∣M->∀(h:Nat) q,qs[h]?=Ϝ->FV M q (Vy M (RK aC R) h)
 even:∀(i:Nat) r s,aC[i]?=τ->R[i]?=Ϩ->∀(k:Nat) p h,s[k]?=ο->r[k]?=se h->0<p.1->∀h'∈r,∀q q',qs[h]?=Ϝ->qs[h']?=se q'->q.1*q'.2<=q'.1*q.2
theorem KB {ps qs:Zt}(C:UY ws aC ae L)(h0:0<ae)(hm:ae<=20)(hw:ws.length<=20)(hl:aC.length=ws.length)(nr:∀r∈aC,r.Nodup)(wp:∀x∈ws,1<=x)(sl:bD.length=L.length)(pk:∀(i:Nat) c ss,L[i]?=ϓ->bD[i]?=se ss->Y9 ws aC c ss) (lo:Vd ws L ps) (lk:UW ae L ps qs):EvenR ws aC ae (Sq aC L bD (0,1)) qs:=by have rh:=C.rowsH h0 hl nr;have sh:=(ya rh sl (no:=(0,1)) (W:=λ_ _ _=>0) λ_ _=>rfl).1;(have c20:∀c∈L,(c.1.length:Int)∣232792560:=λc hc=>by have p:=C.crowdP hm hw hc;exact Kh (by have:=p.n0;lia) (by have:=p.hl;lia));have v0:∀M,vl M (0,1)=0:=λM=>ni _;(have Ws:∀i c,L[i]?=ϓ->∃ss,bD[i]?=se ss/\Y9 ws aC c ss:=λi c hc=>by have hi:=(aH.mp hc).1;have hs:bD[i]?=se (bD[i]' Τ):=aJ _;exact#[_,hs,pk i c _ hc hs]);(have oQ:∀(i:Nat) r s,aC[i]?=τ->(Sq aC L bD (0,1))[i]?=Ϩ->s.length=r.length:=λi r s hr hs=>by(have es:(Sq aC L bD (0,1)).getD i []=s:=by rw[bC,hs];rfl);(have er:Rz aC i=r:=by unfold Rz;rw[bC,hr];rfl);have:((Sq aC L bD (0,1)).getD i []).length=(Rz aC i).length:=sh.2 i (aH.mp hr).1;rwa [es,er] at this);refine#[sh.1,oQ,λM hM hd i s hs=>?_,?_,λM hM hd h q hq=>?_,λi r s hr hs k p h hp hh pos h' iI q q' hq fO=>?_];(have es:(Sq aC L bD (0,1)).getD i []=s:=by rw[bC,hs];rfl);have cp:=uF C h0;unfold Vx at cp;rw[l6] at cp;obtain⟨c,hc,iI⟩:=kj.mp (cp.mem_iff.mpr (dF.mpr (by rw[<-hl,<-sh.1];exact(aH.mp hs).1)));obtain⟨j,hj⟩:=bf hc;obtain⟨g,hg⟩:=bf iI;obtain⟨ss,oX,pk1⟩:=Ws j c hj;have rs:=Kv rh sl (f:=vl M) (no:=(0,1)) (v0 M) hj oX hg;rwa [es,pk1.gv M (o5 (c20 c hc) hd) hM g (aH.mp hg).1,NAP.Rt hg] at rs;refine NAP.fold_all (P:=λp=>Yr/\0<=p.1/\p.2∣232792560/\Bd 330 p.1) (no:=(0,1)) #[#[by decide,by decide],by decide,by decide,by show(0:Int).natAbs<_;exact Nat.pow_pos (by decide)] ('J'.flatMap λx=>TW aC x.1 x.2) (So aC (0,1)) (λt ht=>?_) (λr hr a ha=>?_);obtain⟨u,hu,hu2⟩:=kj.mp ht;obtain⟨i,hi⟩:=bf hu;obtain⟨z1,z2⟩:=(bF (z:=u)).mp hi;obtain⟨_,_,_,_,z3,_⟩:=mu (rh.nd u.1 Ig).1 hu2;obtain⟨a,b,d,e⟩:=(pk i u.1 u.2 z1 z2).ok _ (cx z3).2;exact#[a,b,o5 d (c20 u.1 Ig),e];unfold So at hr;obtain⟨x,_,rfl⟩:=aO.mp hr;rw[zZ ha];exact#[#[by decide,by decide],by decide,by decide,by show(0:Int).natAbs<_;exact Nat.pow_pos (by decide)];obtain⟨i,c,p,hc,hp,iI,fO⟩:=lk.of_hand lo C h0 (by rw[<-lk.len];exact 'w'.1);rw[hq] at fO;cases fO;obtain⟨t,ht⟩:=bf iI;obtain⟨ss,oX,pk1⟩:=Ws i c hc;have tk:=pk1.tk M (o5 (c20 c MQ) hd) hM t (aH.mp ht).1;rw[<-Kw rh sl (no:=(0,1)) (v0 M) hc oX ht] at tk;obtain⟨l1,l2⟩:=lo.at_ i c q hc hp;refine#[l1,?_];(have n0:0<c.1.length:=by have:=(C.crowdP hm hw MQ).n0;assumption);refine ka (a:=c.1.length) (NAG.gl28 n0) ?_;have eb:Vy M (RK aC (Sq aC L bD (0,1))) h=bagF (vl M) (Y7 aC (Sq aC L bD (0,1))) h:=rfl;rw[eb,iC q.2,tk];(have:q.1*M*c.1.length=q.1*c.1.length*M:=by grind);rw[this,l2];grind;(have bnd:∀t∈'J'.flatMap λx=>TW aC x.1 x.2,t.1<aC.length/\t.2.1<(Rz aC t.1).length:=λt ht=>by obtain⟨u,hu,hu2⟩:=kj.mp ht;have hc:=rh.nd u.1 (cx hu).1;obtain⟨_,_,x,hd,_,z1,_,z3,z4,z5⟩:=mu hc.1 hu2;rw[z4,z5];exact#[hc.2.2 x Ig,fH z3]);(have er:Rz aC i=r:=by unfold Rz;rw[bC,hr];rfl);(have ep:NAP.Yb (0,1) (Sq aC L bD (0,1)) i k=p:=by unfold NAP.Yb;rw[show(Sq aC L bD (0,1)).getD i []=s by rw[bC,hs];rfl,bC,hp];rfl);rcases KA (no:=(0,1)) _ (So aC (0,1)) (x7 aC (0,1)) bnd i k with z | ⟨t,ht,t1,t2,t3⟩;(have:NAP.Yb ((0:Int),(1:Int)) (So aC (0,1)) i k=(0,1):=by unfold NAP.Yb So;rw[bC (l:=aC.map _),bo,hr];show(be r.length ((0:Int),(1:Int))).getD k (0,1)=_;rw[bC,lI];split<;>rfl);unfold Sq at ep;rw[z,this] at ep;rw[<-ep] at pos;exact absurd pos (by decide);obtain⟨u,hu,hu2⟩:=kj.mp ht;obtain⟨j,hj⟩:=bf hu;obtain⟨z1,z2⟩:=(bF (z:=u)).mp hj;obtain⟨g,pp,x,hd,_,y1,y2,y3,y4,y5⟩:=mu (rh.nd u.1 Ig).1 hu2;rw[t1] at y4;subst y4;(have ek:hd=h:=by rw[t2,er] at y5;rw[er] at y3;(have q1:r[r.idxOf hd]?=se hd:=by rw[aJ (fH y3)];simp);rw[<-y5,hh] at q1;exact(c8 q1).symm);subst ek;(have M0:0<XI ps:=BX λp cH=>by obtain⟨a,ha⟩:=bf cH;have hal:=(aH.mp ha).1;rw[lo.len] at hal;exact(lo.at_ a _ p (aJ hal) ha).1.1);have S:=lk.sol lo C h0 wp M0 λp cH=>qZ cH;obtain⟨j2,d,jle,hd2,hin2⟩:=S.up j u.1 z1 i (aG y1) h' (by rwa [er]);(have dv:∀g q,qs[g]?=Ϝ->WZ q/\q.2∣XI ps:=λg q hg=>by obtain⟨a,c,p,b1,b2,b3,b4⟩:=lk.of_hand lo C h0 (by rw[<-lk.len];exact(aH.mp hg).1);rw[hg] at b4;cases b4;exact#[(lo.at_ a c q b1 b2).1,qZ (aG b2)]);obtain⟨q1,q2⟩:=dv hd q hq;obtain⟨q3,q4⟩:=dv h' q' fO;exact zb8 M0 q1.1 q3.1 (xt hq q2) (xt fO q4) (S.falls (j-j2) j2 hd2 (by rwa [show j2+(j-j2)=j by simp_all]) h' hin2 hd (aG y2))
end NAM
namespace NAY
open PySem NAL NAL.EX NAL.RX NAM
section
variable {h h':TH}{i:Nat}{ws:Zv}{aC:Zs}{c:NAP.Cr}
theorem yb {γ δ:Type}{emb:δ->D}{P:γ->δ->Prop}{l:XK}{g:γ->D}{nx:Nx}{fi:RI}{fg:RG}{fa:RE}{ρ:Rb}{N:Χ}{n:Nat}{fr:Zw}{b:Bool}(he:fi ρ h=[ν,nx])(hx:∀i,nx h' i=se ('K'[i]?))(hl:l.length<1000)(hs:∀a∈l,∃ ρ1 x,fg (g a) (be n ng++Yp ρ fr)=ZR/\fa ρ1 h'=[ν,emb x]/\P a x) :∃xs:List δ,TV N b fi n fr fg Rf fa ρ h=mk b (xs.map emb) h'/\xs.length=l.length/\∀(i:Nat) a x,l[i]?=lT->xs[i]?=σ->P a x:=by cases l with| nil=>exact#[[],uP (v:=λ_=>.non) he hx hl λa ha=>(by cases ha),rfl,λi a x z=>by simp at z]| cons a0 l =>obtain⟨_,x0,_⟩:=hs a0 Ix;(have:∃v:γ->δ,∀a∈a0::l,∃ ρ1,fg (g a) (be n ng++Yp ρ fr)=ZR/\fa ρ1 h'=[ν,emb (v a)]/\P a (v a):=by(have K:∀a,∃x,a∈a0::l->∃ ρ1,fg (g a) (be n ng++Yp ρ fr)=ZR/\fa ρ1 h'=[ν,emb x]/\P a x:=λa=>by by_cases m:a∈a0::l;obtain⟨ρ1,x,q⟩:=hs a m;exact#[x,λ_=>#[ρ1,q]];exact#[x0,λz=>absurd z m]);exact#[λa=>Classical.choose (K a),λa ha=>Classical.choose_spec (K a) ha]);obtain⟨v,hv⟩:=this;refine#[(a0::l).map v,?_,by rw[a8],λi a x h1 h2=>?_];rw[cj];exact uP he hx hl λa ha=>let #[ρ1,e1,e2,_]:=hv a ha;#[ρ1,e1,e2];rw[bo,h1] at h2;cases h2;obtain⟨_,_,_,z⟩:=hv a (aG h1);exact z
theorem zd0 (cl:Ϣ)(A:YY ws aC)(pc:Ys ws aC c):∃ss:Zt,U7 [NX,OA,Xu c] h=.ok (.lst (ss.map Sd)) h/\Y9 ws aC c ss:=by have hl:=pc.hl;have mN:=pc.cl;have n0:=pc.n0;obtain⟨ac,ab,aa,q,D,c5⟩:=C7 cl A pc.nd hl mN pc.ci;obtain⟨e1,e2,e3,e4⟩:=zd8 pc A.pos D;(have sb:∀s∈ac,Bd 330 s:=λs hs=>by obtain⟨k,hk⟩:=bf hs;have jM:=(aH.mp hk).1;have ht:(Q2 aC c.1 c.2)[k]?=se ((Q2 aC c.1 c.2)[k]' Τ):=aJ _;generalize(Q2 aC c.1 c.2)[k]'(by rwa [<-e1])=tp at ht;obtain⟨x,hd,z1,z2,_⟩:=(jz pc.nd tp.1 tp.2).mp (aG ht);(have gl:(QH ws c.1 c.2).length=c.2.length:=by unfold QH;rw[a8]);(have tl:[Zy,c.1,c.2].length=c.1.length:=by unfold takesIn;rw[nu]);have l1:=(aH.mp z1).1;have kz:=BY D.flow.nn (show(RH (QH ws c.1 c.2).length [Zy,c.1,c.2].length (Q2 aC c.1 c.2)).ends[k]?=se (tp.1,(QH ws c.1 c.2).length+tp.2)by rw[rz,bo,ht];rfl) hk;have lh:=(D.flow.load_le (by show tp.1<_+_;rw[gl,tl];exact NAG.gl91 l1)).1;rw[xk (by rwa [gl])] at lh;(have gv:(QH ws c.1 c.2).getD tp.1 0=[KK,x]*c.1.length:=by unfold QH;rw[bC,bo,z1];rfl);have s0:=e2 s hs;refine(((A.bd _ (aG (NAM.getD_at (pc.ci x Ig)))).mul (show Bd 6 c.1.length by show _<_;lia)).le (by decide)).of_le ?_;rw[gv] at lh;dsimp only at kz;lia);have tl:=qW (ag:=c.1) (ad:=c.2) A.row c.2.length;(have sl:ac.length<=400:=by rw[e1];unfold Q2;lia);(obtain⟨ss,qc,ssl,sp⟩:=yb (h:=h) (P:=λs p=>Yr/\p.1*c.1.length=s*p.2) (fi:=JW) (fg:=ϙ) (fa:=Q4 UE [ϯ,Qc (Q4 Rp (Qc [Ϯ,[΢,0]] Qg)) Qg]) (ρ:=[[π,KH],[π,OE],se (Xu c),[π,Nv]]) (n:=1) (fr:=[2]) rfl cU (by lia) λs hs=>by obtain⟨p,qp,lp,ep⟩:=Dg (NAG.gl28 n0) ((show Bd 6 c.1.length by show _<_;lia).le (by decide));exact#[[[ω,s],se (Xu c)],p,rfl,aK [Ϙ,[Ω,aK [Ω,rfl] db]] qp,lp,ep]);exact#[ss,[ώ,sA [Ψ,aK [Ϙ,[Ϙ,[Ω,rfl]]] q,rfl] [Ϸ,qc]],Kz pc sb e1 e2 e3 e4 (by assumption) λk p s hp hs=>sp k s p hs hp]
end
section
variable {h:TH}{i:Nat}{aC:Zs}{c:NAP.Cr}{α:Type}{emb:α->D}{R:N2}
noncomputable def XA (emb:α->D) (ss:υ):D:=.lst (ss.map emb)
noncomputable def hR (emb:α->D) (h:TH) (R:N2):TH:=h++R.map λrow=>.ml (row.map emb)
theorem uZ (e:R[x]?=se row):(hR emb h R)[h.length+x]?=[ϥ,row.map emb]:=by unfold hR;rw[gw Τ,show h.length+x-h.length=x by simp_all,bo,e];rfl
theorem Do:(hR emb h R).set (h.length+x) (.ml (row.map emb))=hR emb h (R.set x row):=by grind[hR,o9,pr]
theorem zdd (c:Ϣ)(he:∀n a,cd n 8 (emb a)):Cl (hR emb h R):=λo ho=>by unfold hR at ho ⊢;rw[eU];rcases dE.mp ho with ho | ho;exact nY (by exact kn ..) (c o ho);obtain⟨row,_,rfl⟩:=aO.mp ho;intro d hd;obtain⟨a,_,rfl⟩:=lP;exact Ck (k:=1) 8 (he _ a)
theorem Dp:∀m i h,(∀r∈aC,r.length<=20)->i<=aC.length->aC.length<i+m->Ye (VE OA) ϙ Rf (Qr (Vs tj) (Rk ff (Qc ε Qg)) (Q4 Rp (Qc ζ Qg))) [ng,se no] m i h=.ok ((aM (aC.length-i)).map λk=>.at (h.length+k)) (h++(aC.drop i).map λr=>.ml (be r.length no))| 0,i,h,_,h1,h2=>absurd h2 (by simp[*])| m+1,i,h,rl,h1,h2=>by rw[pI,cU,bo];by_cases lt:i<aC.length;have e0:=aJ lt;rw[e0];have rl0:=rl _ (aG e0);have ih:=Dp (no:=no) m (i+1) (h++[.ml (be aC[i].length no)]) rl lt Pf;have mo:=mul_one (h:=h) (m:=tj) (x:=no) (NAG.gl15 rl0);have e1:Qr (Vs tj) (Rk ff (Qc ε Qg)) (Q4 Rp (Qc ζ Qg)) [se (Qu aC[i]),se no] h=.ok (.at h.length) (h++[.ml (be aC[i].length no)]):=aD (im [Ω,rfl] rfl) (aK [Ω,rfl] db) (mo.trans (by show[J8,D.at Gl,h,_]=_;rw[gF,gG]));show[϶,R.nox (Qr (Vs tj) (Rk ff (Qc ε Qg)) (Q4 Rp (Qc ζ Qg)) [se (Qu aC[i]),se no] h)]=_;rw[e1];show[϶,Ye (VE OA) ϙ Rf (Qr (Vs tj) (Rk ff (Qc ε Qg)) (Q4 Rp (Qc ζ Qg))) [ng,se no] m (i+1) (h++[.ml (be aC[i].length no)])]=_;rw[ih];show R.ok (D.at h.length::_) _=_;rw[show aC.length-i=(aC.length-(i+1))+1 from NAG.gl14 lt,qC,bA,cj,gb,qz lt,bA];simp[Function.comp_def,qL,AC];simp_all
theorem zd7:∀{l:Zw} {x:Nat},x∈l->XS (x:Int) (l.map λn:Nat=>(n:Int))=se (l.idxOf x):=by intro l;induction l with| nil =>rintro x h;cases h| cons y l ih =>rintro x h;show(bif YG y x then se 0 else TZ (XS x (l.map λn:Nat=>n)) iP)=_;rw[jE,wy];by_cases c:y=x;simp_all;(have hx:x∈l:=by grind);rw[Qb (show ¬(y:Int)=x by lia),ih hx,show(y==x)=ff from beq_eq_false_iff_ne.mpr c];rfl
theorem zek {x:Nat}(z1:fa ρ h=.ok (Qu l) h)(z2:fA ρ h=.ok [Z8] h)(m:x∈l):rIdx fa fA ρ h=.ok (.int (l.idxOf x)) h:=by unfold rIdx;rw[z1];show[϶,fA ρ h]=_;rw[z2];show QL (QJ XV JR) _=_;rw[show JR=(l.map λn:Nat=>(n:Int)).map D.int by rw[cj];rfl,xW];grind[QL,XS,zd7]
theorem zcD (c:Ϣ)(he:∀n a,cd n 7 (emb a)):[Yv,.lst ((aM R.length).map λk=>.at (h.length+k)),hR emb h R]=.ok (.lst [J5,emb]) h:=by by_cases z:R=[];subst z;unfold hR;rw[qG,lN];exact LQ;(have e1:fz (hR emb h R) h.length 9 (.lst ((aM R.length).map λk=>.at (h.length+k)))=[π,[J5,emb]]:=by show TZ (QJ [MI,hR emb h R,8] _) D.lst=_;rw[show[J5,emb]=(aM R.length).map λk=>XA emb (R.getD k [])from by apply i8;intro i;rw[bo,bo];by_cases hi:i<R.length;rw[ju hi,aJ hi];simp[gU,aJ hi];rw[eG Τ,eG Τ];rfl];rw[kL λk hk=>?_];rfl;have hk:=dF.mp hk;(have hr:R[k]?=se (R.getD k []):=by rw[bC,aJ hk];rfl);show(bif[Hh,h.length+k]then se (D.at (h.length+k))else match eg (hR emb h R) (h.length+k)with| some (.ml ds)=>TZ (QJ [MI,hR emb h R,7] ds) .lst| _=>ng)=_;rw[show[Hh,h.length+k]=ff from gj.mpr λy=>by have:=bR.mp y;lia,aW,uZ hr];show TZ (QJ [MI,hR emb h R,7] ((R.getD k []).map emb)) D.lst=_;rw[jh λx hx=>by obtain⟨a,_,rfl⟩:=aO.mp hx;exact fV 7 (he _ a)];rfl);exact uN c e1 Τ
theorem om {g:γ->D}{l:Na}(i:Nat):nZp [[Jc,f],.lst (m.map g)] h i=se (((l.zip m).map λp=>D.tup [f p.1,g p.2])[i]?):=by rw[Cp,C8]
theorem zaY (cl:Ϣ)(he:∀n a,cd n 7 (emb a))(dfew:aC.length<=20)(oK:∀r∈aC,r.length<=20)(kZ:L.length<=20)(lok:∀c∈L,c.1.Nodup/\c.1.length<=20/\c.2.length<=20/\∀x∈c.2,x<aC.length)(sl:bD.length=L.length)(sok:∀(i:Nat) c ss,L[i]?=ϓ->bD[i]?=se ss->ss.length=(Q2 aC c.1 c.2).length) :V8 [OA,.lst NW,.lst (bD.map (XA emb)),emb no] h=.ok (.lst ((Sq aC L bD no).map (XA emb))) h:=by refine[ώ,sA (d:=.lst ('h'.map λk=>.at (h.length+k))) ?_ (sL (eM (λi ρ h1=>∃t5 t6 t7 t8 t9,ρ=[[π,OE],[π,NW],[π,bD.map (XA emb)],se (emb no),[π,'h'.map λk=>.at (h.length+k)],t5,t6,t7,t8,t9]/\NAP.Zo aC.length (λx=>(Rz aC x).length) ((('J'.take i).flatMap λx=>TW aC x.1 x.2).foldl NAP.Tv (So aC no))/\hR emb h ((('J'.take i).flatMap λx=>TW aC x.1 x.2).foldl NAP.Tv (So aC no))=h1) (n6 rfl rfl) (λi ρ h _=>om i) (by rw[kG];exact NAG.gl17 kZ) #[_,_,_,_,_,rfl,x7 aC no,rfl] ?_) ?_)];show[϶,Ye (VE OA) ϙ Rf _ [ng,se (emb no)] 1000 0 h]=_;rw[Dp 1000 0 h oK (jb _) (NAG.gl18 dfew)];show R.ok _ _=R.ok _ _;simp[hR,So];rintro i ⟨c,ss⟩ ρ h1 hp ⟨t5,t6,t7,t8,t9,rfl,sh,rfl⟩;obtain⟨hc,hs⟩:=bF.mp hp;obtain⟨hnd,hl20,cl20,cin⟩:=lok c MQ;have tl:=qW (ag:=c.1) (ad:=c.2) oK c.2.length;(have ef:(('J'.take (i+1)).flatMap λx=>TW aC x.1 x.2).foldl NAP.Tv (So aC no)=(TW aC c ss).foldl NAP.Tv ((('J'.take i).flatMap λx=>TW aC x.1 x.2).foldl NAP.Tv (So aC no)):=by rw[take_snoc hp,wc,wo];simp);rw[ef];generalize(('J'.take i).flatMap λx=>TW aC x.1 x.2).foldl NAP.Tv (So aC no)=R0 at sh ⊢;refine#[_,by unfold VA;rfl,?_];(have tln:((Q2 aC c.1 c.2).zip ss).length=(TW aC c ss).length:=by unfold TW;rw[a8]);obtain⟨ρ2,h2,q2,t7',t8',t9',rfl,sh2,cO⟩:=eM (f:=Wv) (ρ:=[[π,OE],[π,NW],[π,bD.map (XA emb)],se (emb no),[π,'h'.map λk=>.at (h.length+k)],se (Xu c),se (XA emb ss),t7,t8,t9]) (λj ρ h2=>∃t7 t8 t9,ρ=[[π,OE],[π,NW],[π,bD.map (XA emb)],se (emb no),[π,'h'.map λk=>.at (h.length+k)],se (Xu c),se (XA emb ss),t7,t8,t9]/\NAP.Zo aC.length (λx=>(Rz aC x).length) (((TW aC c ss).take j).foldl NAP.Tv R0)/\hR emb h (((TW aC c ss).take j).foldl NAP.Tv R0)=h2) (fg:=VA 7 8) (fi:=Zg (Q4 Vv [ϯ,Qc ϐ Qg]) ϸ) (n6 [ψ,C5 (zdd cl λn a=>Ck (k:=1) 7 (he n a)) hnd hl20 cl20 oK cin] rfl) (λi ρ h _=>om i) (by rw[kG];unfold Q2;lia) #[t7,t8,t9,rfl,sh,rfl] (by rintro j ⟨tp,am⟩ ρ h2 hq ⟨t7,t8,t9,rfl,sh1,rfl⟩;obtain⟨ht1,ha1⟩:=bF.mp hq;obtain⟨x0,h0,hx0,hh0,iI⟩:=(jz hnd tp.1 tp.2).mp (aG ht1);have xlt:=cin x0 (aG hx0);(have htr:(TW aC c ss)[j]?=se (x0,(Rz aC x0).idxOf h0,am):=by unfold TW;rw[bo,hq];show se (c.2.getD tp.1 0,(Rz aC (c.2.getD tp.1 0)).idxOf (c.1.getD tp.2 0),am)=_;rw[NAP.Rt hx0,NAP.Rt hh0]);rw[take_snoc htr,wo];generalize((TW aC c ss).take j).foldl NAP.Tv R0=R1 at sh1 ⊢;(have r1:R1[x0]?=se (R1.getD x0 []):=by simp[bC,sh1.1,xlt]);refine#[_,by unfold VA;rfl,nA (eF [Ψ,rfl,rfl] [Ψ,rfl,rfl] hx0) (nE (xL rfl (eF (g:=λk=>.at (h.length+k)) rfl rfl (ju xlt)) (zek (eF rfl rfl (by simp[*])) [Ω,eF (g:=nD) [Ψ,rfl,rfl] [Ψ,rfl,rfl] hh0] iI) (uZ r1) (by rw[a8,sh1.2 x0 xlt];exact fH iI)) #[_,_,_,rfl,sh1.put xlt,?_])];rw[<-pr,Do];rfl);rw[tln,Z9] at sh2 cO;exact nE q2 #[_,_,_,_,_,rfl,sh2,cO];rintro ρ h1 ⟨t5,t6,t7,t8,t9,rfl,sh,rfl⟩;rw[Z9] at sh ⊢;rw[<-sh.1];exact zcD cl he
end
end NAY
namespace NAL.EX
open PySem PyProof.Rows
section
end
section
end
section
end
end NAL.EX
namespace NAM
open PySem NAL NAL.EX
noncomputable def M0:Int:=232792560
theorem fm:0<M0:=by decide
theorem Dq:Bd 600 M0:=by(have:Bd 28 M0:=by show _<_;decide);exact this.le (by decide)
structure XX (aC:Zs)(ae:Nat)(R:Zr):Prop where
 sh:ShOk M0 aC ae R
 nn:∀s∈R,∀p∈s,0<=p.1
 nd:∀r∈aC,r.Nodup
 m20:ae<=20
noncomputable def Q6 (L:List (Nat×(Zx))) (h:Nat):Zt:=(L.filter λx=>x.1==h).map (·.2)
theorem zcw (L:List (Nat×(Zx)))(g:Nat)(p:Zx)(h:Nat):Q6 (L++[(g,p)]) h=Q6 L h++(if g=h then[p]else[]):=by unfold Q6;by_cases c:g=h<;>simp[c]
theorem KL (M:Int)(L:List (Nat×(Zx)))(h:Nat):((Q6 L h).map (vl M)).sum=Vy M L h:=by unfold Q6 Vy;induction L with| nil=>rfl| cons x r ih =>rw[bA,cy,<-ih,kg];by_cases c:x.1=h;rw[P8 c,P8 (by simpa using c),bA,bA,cy];rw[P7 c,P7 (by simp_all),lF]
theorem zd9 (hp:p∈Q6 L h):(h,p)∈L:=by unfold Q6 at hp;simp_all
theorem Dr (L L':List (Nat×(Zx)))(h:Nat):Q6 (L++L') h=Q6 L h++Q6 L' h:=by unfold Q6;simp_all
theorem Ds (h:Nat):∀(r:Zw) s,h∉r->Q6 'V' h=[]| [],s,_=>rfl| x::r,[],_=>rfl| x::r,p::s,hn=>by have ne:x≠h:=λz=>hn (z▸aI);unfold Q6 at *;rw[iM,kg,P7 Τ];exact Ds h r s (λz=>hn (aY _ z))
theorem Dt (h:Nat):∀(r:Zw) s,r.Nodup->(Q6 'V' h).length<=1| [],s,_=>by show 0<=1;simp_all| x::r,[],_=>by show 0<=1;simp_all| x::r,p::s,nd=>by obtain⟨n1,n2⟩:='g';have ih:=Dt h r s n2;by_cases c:x=h;have e:=Ds h r s (c▸n1);unfold Q6 at *;rw[iM,kg,P8 (by simpa using c),bA,e];exact Nat.succ_pos _;unfold Q6 at *;simp_all
theorem Du (ok:XX aC ae R)(h:Nat):∀i:Nat,i<=aC.length->(Q6 [N6,i,IS] h).length<=i:=by intro i;induction i with| zero =>rintro _;exact jb _| succ i ih =>rintro hi;have hr:aC[i]?=se (aC[i]'(by assumption)):=aJ _;have hs:R[i]?=se (R[i]'(by rw[ok.sh.len];assumption)):=aJ _;rw[De hr hs,Dr,eU];have:=ih (by exact gD hi);have:=Dt h _ (R[i]'(by grind)) (ok.nd _ (aG hr));lia
theorem KN (ok:XX aC ae R)(h:Nat):FVs M0 (Q6 (RK aC R) h) ((Q6 (RK aC R) h).map (vl M0)):=by have fw:=Du ok h aC.length ϭ;rw[Z9,dL (by rw[ok.sh.len];exact ϭ)] at fw;have few:=ok.sh.few;(have mem:∀p∈Q6 (RK aC R) h,Yr/\p.2∣M0/\Bd 600 p.1:=λp hp=>by have m:=zd9 hp;obtain⟨x,hx,hm⟩:=kj.mp m;exact ok.sh.ok x.2 'H'.2 p (cx hm).2);refine#[by rw[a8],λi p X hp hX=>?_,fm,Dq,λX hX=>?_,by rw[a8];lia];rw[bo,hp] at hX;cases hX;obtain⟨lo,d,b⟩:=mem p (aG hp);refine#[lo,?_];rw[<-xu d,gu];obtain⟨p,hp,rfl⟩:=aO.mp hX;obtain⟨lo,d,b⟩:=mem p hp;unfold vl Bd;rw[ke];have b1:=b;(have b2:(M0/p.2).natAbs<=2^28:=by have:=Int.natAbs_ediv_le_natAbs M0 p.2;exact b9 this (by decide));have h3:=AF (gD b1) b2;exact kH h3 (by rw[<-Nat.pow_add];exact Nat.pow_lt_pow_right (by decide) (by decide))
theorem XX.of_even {qs:Zt}(e:EvenR ws aC ae R qs)(ro:We ws.length ae aC)(h12:ae<=12)(few:aC.length<=20):XX aC ae R:=by refine#[#[e.len,few,λi r s hr hs=>?_,λs hs p hp=>?_,fm,Dq],λs hs p hp=>(e.ok s hs p hp).2.1,λr hr=>(ro.2 r hr).2.1.imp λh=>cI h,Oh];obtain⟨_,rise,lt⟩:=ro.2 r (aG hr);exact#[e.row i r s hr hs,b9 (ig rise lt) h12,lt];obtain⟨a,b,c,d⟩:=e.ok s hs p hp;exact#[a,c,d.le (by decide)]
theorem LdB.uniq {qs rs:Zt}(hM:0<M)(a:LdB M L qs)(b:LdB M L rs)(hl:qs.length=rs.length):qs=rs:=by refine i8 λi=>?_;cases h:qs[i]? with| none =>simp_all| some q =>have hi:='M'.1;have h2:rs[i]?=se (rs[i]' Τ):=aJ _;rw[h2];obtain⟨a1,a2⟩:=a i q h;obtain⟨b1,b2⟩:=b i _ h2;have fa:FV M q (Vy M L i):=#[a1,a2];rw[fa.uniq hM #[b1,b2]]
end NAM
namespace NAY
open PySem NAL NAL.EX NAL.RX NAM
section
variable {h h' t:TH}{i ae:Nat}{aC:Zs}{c:NAP.Cr}{R:Zr}
theorem Dv:∀m i h,i<=n->n<i+m->Ye (nRg n) ϙ Rf (Rk tj Qg) [ng] m i h=.ok ((aM (n-i)).map λk=>.at (h.length+k)) (h++be (n-i) (.ml []))| 0,i,h,h1,h2=>absurd h2 (by simp[*])| m+1,i,h,h1,h2=>by rw[pI,rg,bo];by_cases lt:i<n;rw[ju lt];have ih:=Dv m (i+1) (h++[.ml []]) lt Pf;show R.bnd (Ye (nRg n) ϙ Rf (Rk tj Qg) [ng] m (i+1) (hp h (.ml []))) (λys h'=>[ν,D.at Gl::ys])=_;rw[gG,ih,gF];show R.ok (D.at h.length::_) _=_;rw[show n-i=(n-(i+1))+1 from NAG.gl14 lt,nz,qC,bA,cj,gb];simp[Function.comp_def,qL,AC];simp_all
theorem zae (f:FVs M ps Xs)(ha:h[a]?=[ϥ,ps.map Sd]):∃p,UO [.at a] h=.ok ZM h/\FV M p Xs.sum:=by have few:=f.few;have fl:=f.len;(have nx:∀i,VE (.at a) h i=se ((ps.map Sd)[i]?):=λi=>by show TZ (eS h (.at a)) _=_;unfold eS;dsimp only;rw[aW,ha];show se (eg _ i)=_;rw[aW]);obtain⟨ρ2,h2,q2,r,t,rfl,rfl,fv⟩:=eM (f:=Vk) (fg:=rN 2) (fi:=G9) (λi ρ h1=>∃(r:Zx) (t:Option D),ρ=[se (.at a),se (Sd r),t]/\h=h1/\FV M r (Xs.take i).sum) (zew rfl ha) (λi ρ h2 I=>by obtain⟨_,_,_,e,_⟩:=I;rw[<-e];exact nx i) (NAG.gl25 fl few) #[(0,1),ng,rfl,rfl,FV.zero] (λi pp ρ h1 hpp I=>by obtain⟨r,t,rfl,rfl,fv⟩:=I;obtain⟨X,hX,fX,bX⟩:=f.get hpp;obtain⟨b1,b2⟩:=fv.bd f.hM f.bM ((zee f.bX (NAG.gl7 few) i).le (by decide));obtain⟨b3,b4⟩:=fX.bd f.hM f.bM (bX.le (by decide));obtain⟨s,qs,ls,es⟩:=zdy fv.1 fX.1 (b1.le (by decide)) (b2.le (by decide)) (b3.le (by decide)) (b4.le (by decide));refine#[_,rfl,nE (iE (aK [Ϙ,[Ω,rfl]] qs) rfl) #[s,_,rfl,rfl,?_]];rw[take_snoc hX,zdt];exact fv.plus fX ls.1 ls.2 es);rw[dL Τ] at fv;exact#[r,[ώ,sA rfl (sG q2 [Ϸ,rfl])],fv]
theorem jF:cd n (m+2) ZM:=by intro d hd;simp only[aT,dQ,or_false] at hd;rcases hd with rfl | rfl<;>trivial
theorem zey (d:α){P:Nat->α->Prop}(n:Nat)(H:∀x,x<n->∃q,P x q):∃qs:List α,qs.length=n/\∀x,x<n->P x (qs.getD x d):=by induction n with| zero=>exact#[[],rfl,λx hx=>absurd hx (kI _)]| succ n ih =>obtain⟨qs,l,p⟩:=ih λx hx=>H x (by exact e9 hx);obtain⟨q,hq⟩:=H n (by simp_all);refine#[qs ++ [q],by simp[l],λx hx=>?_];by_cases e:x=n;subst e l;simpa [bC] using hq;have:=p x (NAG.gl67 hx e);rw[bC] at this ⊢;rwa [i7 (by lia)]
theorem Dw (cl:Ϣ)(ok:XX aC ae R):∃qs:Zt,SF [OA,O3,.lst [J5,Sd]] h=.ok (.lst (qs.map Sd)) h/\qs.length=ae/\LdB M0 (RK aC R) qs:=by have len:=ok.sh.len;have few:=ok.sh.few;have m20:=ok.m20;obtain⟨qs,ql,qp⟩:=zey (0,1) ae λx hx=>zae (KN ok x) (uZ (nV (λx=>Q6 (RK aC R) x) hx));refine#[qs,[ώ,sA ?_ (sL (eM (λi ρ h1=>∃t4 t5 t6 t7:Option D,ρ=[[π,OE],[ω,ae],[π,[J5,Sd]],[π,'3'.map λk=>.at (h.length+k)],t4,t5,t6,t7]/\hR Sd h ('3'.map λx=>Q6 [N6,i,IS] x)=h1) (n6 rfl rfl) (λi ρ h _=>om i) (by rw[kG];exact NAG.gl17 few) #[_,_,_,_,rfl,rfl] ?_) ?_)],ql,λx q hq=>?_];show VS ff (rIr (Qc ε Qg)) 1 [] ϙ Rf (Rk tj Qg) _ h=_;unfold VS;rw[rk rfl (NAG.gl59 m20)];show[J9,Ye (nRg ae) ϙ Rf (Rk tj Qg) [ng] 1000 0 h]=_;rw[Dv 1000 0 h (jb _) (NAG.gl18 m20)];show[LM,_]=[LM,_];simp[hR,RK,Q6,Function.comp_def,Aq];rintro i ⟨r,s⟩ ρ h1 hp ⟨t4,t5,t6,t7,rfl,rfl⟩;obtain⟨mW,eW⟩:=bF.mp hp;dsimp only at mW eW;obtain⟨sr,rlen,rlt⟩:=ok.sh.row i r s mW eW;have il:=(aH.mp mW).1;(have ef:[N6,i+1,R.take (i+1)]=[N6,i,IS]++'V':=by unfold RK;rw[take_snoc mW,take_snoc eW,lO (by rw[h8,h8];simp_all),wc];simp);refine#[_,by unfold VA;rfl,?_];obtain⟨ρ2,h2,q2,t6',t7',rfl,cO⟩:=eM (f:=Us) (h:=hR Sd h ('3'.map λx=>Q6 [N6,i,IS] x)) (fg:=VA 6 7) (fi:=Zg μ ϐ) (λj ρ h2=>∃t6 t7:Option D,ρ=[[π,OE],[ω,ae],[π,[J5,Sd]],[π,'3'.map λk=>.at (h.length+k)],se (Qu r),se (XA Sd s),t6,t7]/\hR Sd h ('3'.map λx=>Q6 ([N6,i,IS]++'V'.take j) x)=h2) (n6 rfl rfl) (λi ρ h _=>om i) (by rw[kG];lia) #[t6,t7,rfl,by simp] (by rintro j ⟨g,p⟩ ρ h2 hq ⟨t6,t7,rfl,rfl⟩;obtain⟨hg,cH⟩:=bF.mp hq;dsimp only at hg cH;have gl:=rlt g (aG hg);(have pl:(Q6 ([N6,i,IS]++'V'.take j) g).length<=1000:=by grind[Dr,eU,Du,Q6,a8,b9,gy,h8,kG]);refine#[_,by unfold VA;rfl,nE (cR (pM (eF (g:=λk=>.at (h.length+k)) rfl rfl (ju gl)) (uZ (nV _ gl)) rfl (by rw[a8];exact NAG.gl63 pl))) #[_,_,rfl,?_]];rw[show∀l,l.map Sd++[ZM]=(l++[p]).map Sd fromλl=>by simp,Do,xi];congr 1;refine cq λx _=>?_;rw[take_snoc hq,<-gb,zcw];by_cases c:x=g;subst c;simp;rw[oO,P7 (Ne.symm c),lN]);rw[Z9] at cO;exact nE q2 #[_,_,_,_,rfl,by rwa [ef]];rintro ρ h1 ⟨t4,t5,t6,t7,rfl,rfl⟩;rw[kG,len,Nat.min_self,Z9,dL Τ];exact sR (cA Og cU (by rw[jv];exact NAG.gl59 m20) (λx hx=>#[_,rfl,[ψ,(qp x Jg).1]]) (Cw ql.symm)) (pK cl λd hd=>by obtain⟨p,_,rfl⟩:=lP;exact jF);have hxl:='w'.1;have:=(qp x Τ).2;rwa [KL,show qs.getD x (0,1)=q by simp[bC,hq]] at this
end
end NAY
namespace NAL.EX
open PySem PySem.Spec PyProof.Rows
section
end
section
end
end NAL.EX
namespace PySem
section
end
end PySem
namespace NAL.EX
open PySem PySem.Spec PyProof.Rows
section
end
section
end
end NAL.EX
namespace NAM
open PySem NAL NAL.EX
structure Td (ws:Zv)(aC:Zs)(ae:Nat)(R:Zr)(qs:Zt):Prop where
 ev:EvenR ws aC ae R qs
 len:qs.length=ae
 ok:∀q∈qs,uJ q
 rows:We ws.length ae aC
 few:ws.length<=20
 h12:ae<=12
theorem Td.rat {qs:Zt}(d:Td ws aC ae R qs):XX aC ae R:=XX.of_even d.ev d.rows d.h12 (by have:=d.rows.1;have:=d.few;simp_all)
theorem Td.ldb {qs:Zt}(d:Td ws aC ae R qs):LdB M0 (RK aC R) qs:=λh q hq=>d.ev.load M0 fm (iK _) h q hq
theorem zda (M:Int)(L L':List (Nat×(Zx)))(h:Nat):Vy M (L++L') h=Vy M L h+Vy M L' h:=by unfold Vy;simp_all
theorem Dx (nn:∀x∈L,0<=vl M0 x.2)(h:Nat):0<=Vy M0 L h:=by induction L with| nil=>exact cQ _| cons x L ih =>show 0<=((x::L).map λx=>if x.1=h then vl M0 x.2 else 0).sum;rw[bA,cy];have h1:=ih λy hy=>nn y (aY _ hy);have h2:=nn x aI;unfold Vy at h1;split<;>lia
theorem yc {L:List (Nat×(Zx))}{h:Nat}(z:0<Vy M0 L h):∃x∈L,x.1=h/\0<vl M0 x.2:=by induction L with| nil=>exact absurd z (qu _)| cons x L ih =>(have e:Vy M0 (x::L) h=(if x.1=h then vl M0 x.2 else 0)+Vy M0 L h:=by unfold Vy;rw[bA,cy]);rw[e] at z;by_cases c:0<Vy M0 L h;obtain⟨y,hy,r⟩:=ih c;exact#[y,aY _ hy,r];by_cases d:x.1=h;rw[P8 d] at z;exact#[x,aI,d,by lia];rw[P7 d] at z;simp_all
theorem Dy (nn:∀x∈L,0<=vl M0 x.2)(hx:x∈L):vl M0 x.2<=Vy M0 L x.1:=by induction L with| nil=>cases hx| cons y L ih =>(have e:Vy M0 (y::L) x.1=(if y.1=x.1 then vl M0 y.2 else 0)+Vy M0 L x.1:=by rfl);have h0:=Dx (λz hz=>nn z (aY _ hz)) x.1;rw[e];rcases aT.mp hx with rfl | hx;rw[P8 rfl];exact Int.le_add_of_nonneg_right h0;have:=ih (λz hz=>nn z (aY _ hz)) hx;split;exact gq this (Int.le_add_of_nonneg_left (nn y aI));rw[lF];exact this
theorem yd:∀{L:List (Nat×(Zx))},(∀x∈L,x.1<ae)->NAP.upTo (λh=>Vy M0 L h) ae=(L.map λx=>vl M0 x.2).sum| [],_=>NAP.Rs ae| x::L,hl=>by have ih:=yd λy hy=>hl y (aY _ hy);rw[bA,cy,<-ih];have e1:=NAP.UH x.1 (vl M0 x.2) ae;rw[P8 (hl x aI)] at e1;rw[<-e1,<-NAP.UI];refine NAP.Qm λh hh=>?_;unfold Vy;rw[bA,cy];by_cases c:x.1=h;rw['>',P8 c.symm];rw[oO,P7 λz=>c z.symm]
noncomputable def Yt (aC:Zs) (R:Zr) (i h:Nat):Int:=Vy M0 ([TS,[]].zip (R.getD i [])) h
theorem Dz (hl:R.length=aC.length)(h:Nat):Vy M0 (RK aC R) h=NAP.upTo (λi=>Yt aC R i h) aC.length:=by(have bn:∀n,n<=aC.length->Vy M0 [N6,n,R.take n] h=[Pr,λi=>Yt aC R i h]:=by intro n;induction n with| zero=>intro _;rfl| succ n ih =>intro hn;have hr:aC[n]?=se (aC[n]'(by assumption)):=aJ _;have hs:R[n]?=se (R[n]'(by rwa [hl])):=aJ _;rw[De hr hs,zda,ih (by exact gD hn)];show _=NAP.upTo (λi=>Yt aC R i h) n+Yt aC R n h;unfold Yt;rw[bC,bC,hr,hs];rfl);have:=bn aC.length ϭ;rwa [Z9,dL Τ] at this
def Xj (p:Zx):Prop:=Yr/\0<=p.1/\p.2∣M0/\Bd 330 p.1
theorem Xj.vn (h:Xj p):0<=vl M0 p:=i6 h.2.1 (zR (by decide) (by have:=h.1.1;exact LN))
theorem Xj.vp (h:Xj p):0<vl M0 p↔0<p.1:=by have h2:=h.2.1;constructor;intro z;by_cases c:0<p.1;exact c;unfold vl at z;lia;intro z;(have z2:0<vl M0 p*p.2:=by rw[xu h.2.2.1];exact kC z fm);by_cases c:0<vl M0 p;exact c;(have:=by have:=h.vn;exact NAG.gl23 this c);simp_all
theorem FV.le (a:FV M0 p X)(b:FV M0 q Y)(h:p.1*q.2<=q.1*p.2):X<=Y:=by rcases gm Y X with z | z;have:=(b.lt fm a).mpr z;exact NAG.gl120 this h;exact z
theorem FV.el (a:FV M0 p X)(b:FV M0 q Y)(h:X<=Y):p.1*q.2<=q.1*p.2:=by rcases gm (q.1*p.2) (p.1*q.2)with z | z;have:=(b.lt fm a).mp z;exact NAG.gl120 this h;exact z
theorem oq {qs:Zt}(d:Td ws aC ae R qs):NAP.Dl ae aC.length (λi h=>h∈[TS,[]]) (λi=>[KK,i]*M0) (Yt aC R) (λh=>Vy M0 (RK aC R) h):=by have len:=d.ev.len;(have at_:∀i<aC.length,∃r s,aC[i]?=τ/\R[i]?=Ϩ/\[TS,[]]=r/\R.getD i []=s:=λi hi=>Τ);(have ok:∀i<aC.length,∀x∈[TS,[]].zip (R.getD i []),Xj x.2:=λi hi x hx=>by obtain⟨r,s,hr,hs,e1,e2⟩:=at_ i hi;rw[e1,e2] at hx;exact d.ev.ok s (aG hs) x.2 'H'.2);refine#[λi hi h hh=>Dx (λx hx=>(ok i hi x hx).vn) h,λi hi h hh z=>?_,λi hi=>?_,λh hh=>Dz len h,λi hi h hh z g hg dg=>?_];obtain⟨x,hx,e,_⟩:=yc z;rw[<-e];exact 'H'.1;obtain⟨r,s,hr,hs,e1,e2⟩:=at_ i hi;have sl:=d.ev.row i r s hr hs;(have:=yd (L:=[TS,[]].zip (R.getD i [])) λx hx=>by rw[e1,e2] at hx;exact(d.rows.2 r (aG hr)).2.2 x.1 'H'.1);show NAP.upTo (λh=>Vy M0 ([TS,[]].zip (R.getD i [])) h) ae=_;rw[this,<-d.ev.sum M0 fm (iK _) i s hs,e1,e2];rw[show(λx=>vl M0 x.2)=(vl M0)∘Prod.snd from rfl,<-cj,ww Τ];obtain⟨x,hx,e,pv⟩:=yc z;have px:=(ok i hi x hx).vp.mp pv;obtain⟨r,s,hr,hs,e1,e2⟩:=at_ i hi;rw[e1,e2] at hx;rw[e1] at dg;obtain⟨k,hk⟩:=bf hx;obtain⟨k1,k2⟩:=(bF).mp hk;have ql:=d.len;have q1:qs[h]?=se (qs[h]' Τ):=aJ _;have q2:qs[g]?=se (qs[g]' Τ):=aJ _;exact FV.le (d.ev.load M0 fm (iK _) h _ q1) (d.ev.load M0 fm (iK _) g _ q2) (d.ev.even i r s hr hs k x.2 x.1 k2 k1 px g dg _ _ (by rwa [e]) q2)
noncomputable def V4 (r:Zw) (o:Np) (qs ys:Zt):Bool:=match o with| none=>ff| some row=>'Q'.any λx=>decide (0<x.2.1)&&decide (qs.getD x.1 (0,1)=ys.getD x.1 (0,1))
noncomputable def Xb (r:Zw) (o:Np) (n:Zt) (qs ys:Zt):Zt:=if V4 r o qs ys then o.getD []else n
noncomputable def Vr (aC:Zs) (ar:Po) (R:Zr) (qs ys:Zt):Zr:='h'.map λi=>Xb [TS,[]] [CC,i] (R.getD i []) qs ys
structure MixOk (ws:Zv)(aC:Zs)(ae:Nat)(R:Zr)(qs:Zt):Prop where
 len:R.length=aC.length
 row:∀(i:Nat) r s,aC[i]?=τ->R[i]?=Ϩ->s.length=r.length
 sum:∀(i:Nat) s,R[i]?=Ϩ->(s.map (vl M0)).sum=[KK,i]*M0
 ok:∀s∈R,∀p∈s,Xj p
 ld:LdB M0 (RK aC R) qs
 even:∀(i:Nat) r s,aC[i]?=τ->R[i]?=Ϩ->∀(k:Nat) p h,s[k]?=ο->r[k]?=se h->0<p.1->∀h'∈r,∀q q',qs[h]?=Ϝ->qs[h']?=se q'->q.1*q'.2<=q'.1*q.2
structure YE (aC:Zs)(ae:Nat)(ar:Po)(ys:Zt):Prop where
 len:ar.length=aC.length
 row:∀(i:Nat) r o,aC[i]?=τ->ar[i]?=se Υ->o.length=r.length
 ok:∀o,Υ∈ar->∀p∈o,Xj p
 yl:ys.length=ae
 P5:∀y∈ys,uJ y
structure Fit (ws:Zv)(aC:Zs)(ae:Nat)(ar:Po)(ys:Zt):Prop where
 old:YE aC ae ar ys
 mix:∀R qs,Td ws aC ae R qs->MixOk ws aC ae (Vr aC ar R qs ys) qs
noncomputable def osF (aC:Zs) (ar:Po) (i h:Nat):Int:=Vy M0 ([TS,[]].zip ([CC,i].getD [])) h
theorem getD_at' {l:υ}(hi:i<l.length)(d:α):l[i]?=se (l.getD i d):=Τ
theorem DC {qs ys:Zt}(d:Td ws aC ae R qs)(O:YE aC ae ar ys) (X:NAP.Xm ae aC.length (λi h=>h∈[TS,[]]) (λi=>[KK,i]*M0) (Yt aC R) (osF aC ar) (λh=>Vy M0 (RK aC R) h) (λi=>V4 [TS,[]] [CC,i] qs ys)):MixOk ws aC ae (Vr aC ar R qs ys) qs:=by have len:=d.ev.len;have oln:=O.len;(have ml:(Vr aC ar R qs ys).length=aC.length:=by unfold Vr;rw[a8,jv]);(have mg:∀i<aC.length,(Vr aC ar R qs ys)[i]?=se (Xb [TS,[]] [CC,i] (R.getD i []) qs ys):=λi hi=>by unfold Vr;rw[bo,ju hi];rfl);(have mlt:∀i s,(Vr aC ar R qs ys)[i]?=Ϩ->i<aC.length:=λi s hs=>by have:=(aH.mp hs).1;simp_all);(have kept:∀i<aC.length,V4 [TS,[]] [CC,i] qs ys=tj->∃o,ar[i]?=se Υ/\[CC,i].getD []=o:=λi hi z=>by have e:=getD_at' (show i<ar.length by rwa [oln]) ng;cases ho:[CC,i]with| none=>rw[ho] at z;cases z| some o=>rw[ho] at e;exact#[o,e,rfl]);(have kW:∀(i:Nat) r s,aC[i]?=τ->(Vr aC ar R qs ys)[i]?=Ϩ->s.length=r.length/\∀p∈s,Xj p:=λi r s hr hs=>by have hi:=mlt i s hs;rw[mg i hi] at hs;cases hs;unfold Xb;by_cases c:V4 [TS,[]] [CC,i] qs ys=tj;rw['>'];obtain⟨o,ho,e⟩:=kept i hi c;rw[e];exact#[O.row i _ o hr ho,O.ok o (aG ho)];rw[oO];have es:=getD_at' (l:=R) (show i<R.length by rwa [len]) [];exact#[d.ev.row i _ _ hr es,λp hp=>d.ev.ok _ (aG es) p hp]);(have kT:∀i<aC.length,∀h,Yt aC (Vr aC ar R qs ys) i h=if V4 [TS,[]] [CC,i] qs ys then osF aC ar i h else Yt aC R i h:=λi hi h=>by unfold Yt osF;rw[bC (l:=Vr aC ar R qs ys),mg i hi];unfold Xb;split<;>rfl);(have mall:∀i r s,aC[i]?=τ->(Vr aC ar R qs ys)[i]?=Ϩ->NAP.upTo (λh=>Yt aC (Vr aC ar R qs ys) i h) ae=(s.map (vl M0)).sum:=λi r s hr hs=>by(have er:[TS,[]]=r:=by rw[bC,hr];rfl);(have es:(Vr aC ar R qs ys).getD i []=s:=by rw[bC,hs];rfl);unfold Yt;rw[er,es,yd λx hx=>(d.rows.2 r (aG hr)).2.2 x.1 'H'.1];rw[show(λx=>vl M0 x.2)=(vl M0)∘Prod.snd from rfl,<-cj,ww (by rw[(kW i r s hr hs).1];exact ϭ)]);have D:=oq d;refine#[ml,λi r s hr hs=>(kW i r s hr hs).1,λi s hs=>?_,λs hs p hp=>?_,λh q hq=>?_,λi r s hr hs k p h hk hh pp h' jZ q q' hq fO=>?_];have hi:=mlt i s hs;rw[<-mall i _ s (getD_at' hi ([])) hs];by_cases c:V4 [TS,[]] [CC,i] qs ys=tj;rw[<-X.sum i hi c];(exact NAP.Qm λh hh=>by rw[kT i hi h,'>']);rw[<-D.sum i hi];(exact NAP.Qm λh hh=>by rw[kT i hi h,oO]);obtain⟨i,hi⟩:=bf hs;exact(kW i _ s (getD_at' (mlt i s hi) []) hi).2 p hp;have hl:='w'.1;rw[d.len] at hl;(have e:Vy M0 (RK aC (Vr aC ar R qs ys)) h=Vy M0 (RK aC R) h:=by rw[Dz ml,<-X.load h hl];exact NAP.Qm λi hi=>kT i hi h);rw[e];exact d.ev.load M0 fm (iK _) h q hq;have hi:=mlt i s hs;(have er:[TS,[]]=r:=by rw[bC,hr];rfl);have lt:=(d.rows.2 r (aG hr)).2.2;have hl:=lt h (aG hh);have k7:=lt h' jZ;(have es:(Vr aC ar R qs ys).getD i []=s:=by rw[bC,hs];rfl);have KR:(h,p)∈'V':=aG ((bF).mpr #[hh,hk]);(have pos:0<Yt aC (Vr aC ar R qs ys) i h:=by unfold Yt;rw[er,es];have fo:=(kW i r s hr hs).2;have:=Dy (λx hx=>(fo x.2 'H'.2).vn) KR;have:=(fo p (aG hk)).vp.mpr pp;exact NAG.gl97 this (by assumption));rw[kT i hi h] at pos;refine FV.el (d.ev.load M0 fm (iK _) h q hq) (d.ev.load M0 fm (iK _) h' q' fO) ?_;by_cases c:V4 [TS,[]] [CC,i] qs ys=tj;rw['>'] at pos;exact X.even i hi c h hl pos h' k7 (by rwa [er]);rw[oO] at pos;exact D.even i hi h hl pos h' k7 (by rwa [er])
section
theorem DD (h:a*M0=b*M0):a=b:=ka (by have:=fm;lia) h
end
noncomputable def ins {α:Type} (a:Nat) (x:α) (l:υ):υ:=l.take a++x::l.drop a
section
end
section
end
end NAM
namespace NAL.EX
open PySem
end NAL.EX
namespace NAM
open PySem NAL NAL.EX
noncomputable def keptS (r:Zw) (o:Np) (bs:NK):Bool:=match o with| none=>ff| some row=>'Q'.any λx=>decide (0<x.2.1)&&[NO,x.1]
end NAM
namespace NAY
open PySem NAL NAL.EX NAL.RX NAM
section
variable {h:TH}{i ae:Nat}{ws:Zv}{aC:Zs}{c:NAP.Cr}{ar:Po}{ys:Zt}
theorem DE (cl:Ϣ)(A:YY ws aC)(h12:ae<=12)(rows:We ws.length ae aC):∃(R:Zr) (qs:Zt),Ud [NX,OA,O3] h=.ok (.lst [J5,Sd]) h/\Td ws aC ae R qs/\∃(L:List NAP.Cr) (ps:Zt),Ug [NX,OA,O3] h=.ok (.lst NW) h/\UY ws aC ae L/\Vd ws L ps/\UW ae L ps qs:=by have dk:=rows.doOk rfl Oh;have few:=A.few;obtain⟨L,q1,co⟩:=zcq cl A dk;have kZ:=co.few dk.few;(obtain⟨bD,q2,sl,sp⟩:=yb (fi:=JW) (fg:=ϙ) (fa:=Q4 U7 [Ϧ,[ZF,Qc ζ Qg]]) (ρ:=[[π,KH],[π,OE],[ω,ae],[π,NW],ng]) (n:=1) (fr:=[0,1]) rfl cU (NAG.gl59 kZ) λc hc=>by obtain⟨ss,qs,ok⟩:=zd0 cl A (co.crowdP dk.few few hc);exact#[[se (Xu c),[π,KH],[π,OE]],ss,rfl,[ψ,qs],ok]);have q3:=zaY (emb:=Sd) (no:=((0,1))) cl (λn a=>jF) (by rwa [A.len]) A.row kZ (λc hc=>by have p:=co.crowdP dk.few few hc;exact#[p.nd,p.hl,p.cl,λx hx=>by rw[A.len];exact p.ci x hx]) sl λi c ss h1 h2=>(sp i c ss h1 h2).len;have run:Ud [NX,OA,O3] h=.ok (.lst ((Sq aC L bD ((0,1))).map (XA Sd))) h:=rj rfl ((l8 (iE [ψ,q1] rfl)).trans ((l8 (iE q2 rfl)).trans (jk [ψ,q3]))) LQ;rcases pA ae with h0 | h0;subst h0;(have dn:aC=[]:=by cases aC with| nil=>rfl| cons r aC =>obtain⟨a,_,b⟩:=rows.2 r Ix;cases r with| nil=>trivial| cons x r=>exact absurd (b x Ix) (kI _));subst dn;have Ln:=co.none rfl;subst Ln;exact#[[],[],run,#[#[rfl,λi r s z=>(by simp at z),λM _ _ i s z=>(by simp at z),λs z=>(by cases z),λM _ _ g q z=>(by simp at z),λi r s z=>(by simp at z)],rfl,λq z=>(by cases z),rows,few,h12],[],[],q1,co,#[rfl,λi c p z=>(by simp at z)],rfl,λi c p z=>(by simp at z)];obtain⟨ps,qs,lo,lk⟩:=zes co h0;have B:=I5 co lo lk h0 Oh A.pos A.bd few;exact#[Sq aC L bD (0,1),qs,run,#[KB co h0 Oh few A.len (λr hr=>(rows.2 r hr).2.1.imp λh=>cI h) A.pos sl sp lo lk,B.len,B.ok,rows,few,h12],L,ps,q1,co,lo,lk]
noncomputable def optR:Np->D| none=>.non| some r=>XA Sd r
theorem DF:SO ff ZM (Sd u) h=.ok [Pn,p=u] h:=by(have e:YI 60 ZM (Sd u)=se (decide (p=u)):=by show(match se (YG p.1 u.1)with| some tj=>(match se (YG p.2 u.2)with| some tj=>JM| some ff=>Jh| none=>ng)| some ff=>Jh| none=>ng)=_;rw[jE,jE];obtain⟨a,b⟩:=p;obtain⟨x,y⟩:=u;by_cases c1:a=x;(.by_cases c2:b=y;all_goals simp_all);simp[c1]);show Q3 (R9 60 ZM&&R9 60 (Sd u)) (QL (YI 60 ZM (Sd u)) _)=_;rw[e];show R.ok (RX.D.bl (ff^^decide (p=u))) h=_;rw[kB]
theorem KS (rl:r.length<=20)(rb:∀h∈r,h<bs.length)(ro:∀row,o=se row->row.length=r.length):Xf [Qu r,optR o,.lst Hs] h=.ok (.bl (keptS r o bs)) h:=by cases o with| none=>exact pJ rfl rfl rfl| some row =>have an:=WX (h:=h) (bs:='Q'.map λx=>decide (0<x.2.1)&&[NO,x.1]);rw[show('Q'.map λx=>decide (0<x.2.1)&&[NO,x.1]).any id=keptS r (se row) bs from wG] at an;refine[ώ,[Ϸ,aK [Ω,cA (n6 rfl rfl) om (by grind) (λx hx=>#[_,by unfold VA;rfl,?_]) (cj).symm] an]];have bg:=getD_at' (rb x.1 'H'.1) ff;show Uv _ _ [[ω,x.1],se (.tup [.int x.2.1,.int x.2.2]),[π,Hs]] h=.ok (.bl (decide (0<x.2.1)&&[NO,x.1])) h;by_cases c:0<x.2.1;exact(uV [Ψ,rfl,oa c] (eF rfl rfl bg)).trans (by rw[P9 c];rfl);exact(xO [Ψ,rfl,og c]).trans (by rw[Qb c];rfl)
theorem KT (cl:Ϣ)(A:YY ws aC)(h12:ae<=12)(rows:We ws.length ae aC)(O:YE aC ae ar ys):∃R qs,Xe [NX,OA,O3,.lst (ar.map optR),.lst (ys.map Sd)] h=.ok (.lst ((Vr aC ar R qs ys).map (XA Sd))) h/\Td ws aC ae R qs:=by obtain⟨R,qs,q1,Dk,_⟩:=DE cl A h12 rows;obtain⟨cg,q2,ql,ld⟩:=Dw cl Dk.rat;cases LdB.uniq fm ld Dk.ldb (ql.trans Dk.len.symm);have few:=A.few;have dl:=A.len;have Rl:=Dk.ev.len;have Ol:=O.len;obtain⟨bs,hbs⟩:∃bs,bs=(qs.zip ys).map λx=>decide (x.1=x.2):=#[_,rfl];(have ebs:((qs.zip ys).map λx=>D.bl (decide (x.1=x.2)))=bs.map D.bl:=by rw[hbs,cj];rfl);(have bsl:bs.length=ae:=by rw[hbs,a8,kG,ql,O.yl,Nat.min_self]);(have bsg:∀x<ae,[NO,x]=decide (qs.getD x (0,1)=ys.getD x (0,1)):=λx hx=>by grind);refine#[R,qs,[ώ,sA [ψ,q1] (sA [ψ,q2] (sA (cA (n6 rfl rfl) om (by rw[kG];lia) (λx hx=>#[_,by unfold VA;rfl,[Ψ,rfl,DF]]) ebs) [Ϸ,cA (v:=λj=>XA Sd (Xb (aC.getD j []) [CC,j] (R.getD j []) qs ys)) (CA rfl rfl rfl) (λi=>by rw[Cq];congr 2;apply i8;intro j;rw[bo,bo];by_cases hj:j<aC.length;rw[ju hj];rw[(bF (z:=(Qu (aC.getD j []),optR [CC,j],XA Sd (R.getD j [])))).mpr #[by rw[bo,getD_at' hj ([])];rfl,bF.mpr #[by rw[bo,getD_at' (show j<ar.length by rwa [Ol]) ng];rfl,by rw[bo,getD_at' (show j<R.length by rwa [Rl]) []];rfl]]];rfl;rw[eG Τ,eG (by rw[jv];exact uf hj)];rfl) (by rw[jv];lia) (λj hj=>?_) ?_]))],Dk];have hj:=dF.mp hj;have mW:=getD_at' hj ([]);have lt:=(rows.2 _ (aG mW)).2.2;(have ek:keptS (aC.getD j []) [CC,j] bs=V4 (aC.getD j []) [CC,j] qs ys:=by cases ho:[CC,j]with| none=>rfl| some row =>show List.any _ _=List.any _ _;rw[fG,ia,ia];have bn:∀x∈(aC.getD j []).zip row,[NO,x.1]=decide (qs.getD x.1 (0,1)=ys.getD x.1 (0,1)):=λx hx=>bsg x.1 (lt x.1 'H'.1);exact#[λ#[x,hx,z]=>#[x,hx,by rwa [bn x hx] at z],λ#[x,hx,z]=>#[x,hx,by rwa [bn x hx]]]);have ik:=KS (h:=h) (o:=[CC,j]) (b9 (ig (rows.2 _ (aG mW)).2.1 lt) Oh) (λx hx=>by rw[bsl];exact lt x hx) λrow e=>O.row j _ row mW (by rw[getD_at' (show j<ar.length by rwa [Ol]) ng,e]);rw[ek] at ik;refine#[_,by unfold Yl;rfl,?_];unfold Xb;by_cases c:V4 (aC.getD j []) [CC,j] qs ys=tj;rw[c] at ik;rw['>'];refine(Dc (aQ [ψ,ik])).trans ?_;(cases ho:[CC,j]with| none=>rw[ho] at c;cases c| some row=>rfl);rw[gj.mpr c] at ik;rw[oO];exact(Dd (aQ [ψ,ik])).trans rfl;unfold Vr;rw[cj];rfl
end
end NAY
namespace NAM
open PySem PySem.Spec PyProof.Rows NAL NAL.EX NAL.RX
def lb:Nat->Option (Nat×RE)| 0=>se (1,Qr X2 [ZO,[΢,0]] [΢,0])| _=>ng
def Wl:=Sl ff 1 0 (QU (Uv (Y2 3 ζ) (Uv (XG gLe gLe [΢,1] (Q4 Rp (Qc ζ Qg)) [΢,12]) (Q4 (XT YU) (Qc (TV ["sign"] ff G9 1 [] ϙ Rf (XG gLe gLe [ϰ,"a"] ζ [ϰ,"z"])) Qg)))))
def U8:=Sl ff 1 0 (Rc (Xa (Qy (Q4 Wl (Qc ζ Qg)))) TL Q9)
abbrev zb5:RS:=(Ql [η,TV ["hand","number_of"] ff (SB (Q5 (Q5 (θ) μ) [΢,1])) 1 [3] ϙ [ϗ,JS,ζ,ε] [Ϯ,ζ],5] (Rc [ϗ,X2,Q4 Rp (Qc ϐ Qg),[΢,0]] [ς,TN (Wr [ϑ,1,1] (Qc μ Qg)),TN (Wr [ϑ,1,2] (Qc (Q5 (Q5 (θ) μ) [΢,0]) Qg)),TN (Wr [ϑ,1,3] (Qc ϐ Qg))] Q9))
def Va:=Sl ff 3 3 [ς,W9 1 0 (ζ) (TV ["hand","crew"] ff Z1 1 [1] ϙ (Qy [Ϯ,ζ]) ζ),W9 1 1 (ζ) (Rk tj Qg),[ς,W9 1 2 (ζ) (Rk tj Qg),W9 1 3 (ζ) (Rk tj Qg),Ql [η,Q4 (Vt ff) (Qc (TV ["number","hand"] ff (Y3 [ϑ,1,0]) 2 [] (VA 0 1) Rf (SW [Ϧ,Qc ζ Qg])) Qg),3] (Sj Wp (rN 4) zb5)]]
def Ru:=Sl ff 2 0 (QU (TV ["number","self"] ff Z1 1 [0] ϙ Rf (Q5 (QP 1 0 (ε)) ζ)))
def Tg:=Sl ff 4 2 [ς,[η,Q5 (QP 1 1 (ε)) θ,4],Rc (Zf (Qy [ϟ,μ,χ]) [ϗ,NN,μ,[ϑ,2,2]]) (QU Kk) Q9,[ς,[η,Qo 1 Ru ε (Qc (Q5 (QP 1 3 (ε)) θ) Qg),5],Rc (Qy (Q4 (XT YD) (Qc (TV ["hand","doers"] ff (SB (Q5 [ϑ,2,2] μ)) 1 [5] ϙ Rf (Qr NN ζ ε)) Qg))) (QU Kk) Q9,QU (TV ["hand","self","chore"] ff (SB ϐ) 1 [0,4] ϙ Rf (Yd (Q5 (QP 2 2 (ε)) θ) ζ (rC (.tup [JV,X5]))))]]
def Tn:=Sl ff 2 1 (Ql [η,TV ["hand","self","burdens"] ff Z1 1 [0,1] ϙ Rf (SW [ϯ,Qc (Yd (QP 2 3 (ε)) ζ (rC (.tup [JV,X5]))) (Qc (Q5 (θ) ζ) Qg)]),2] (QU (TV ["change"] ff Wp 1 [] ϙ [ϗ,Js,[ZO,[΢,1]],[ZO,[΢,2]]] ζ)))
abbrev zdg:RS:=(XE (Q4 (Vt ff) (Qc (TV ["pair","is_above"] ff (Zg [Ϗ,1,Ru,Qc ϐ Qg] ϸ) 1 [2] ϙ (Qy (Ym lb ε (Qc [ZO,[΢,1]] Qg))) ζ) Qg)) χ μ)
def Un:=Sl ff 3 4 [ς,[η,XF tj,3],Sj (rIz3 [ϑ,1,1] [ϑ,1,3] ε) (Yl 4 5 6) zdg,QU (rFz χ)]
def RL:=Sl ff 4 7 [ς,[η,Q4 (V5 1 Va) [Ϧ,Qc θ Qg],4],[η,Q4 Rp (Qc (QP 1 0 μ) Qg),5],[ς,[η,TV ["place","self","roll","touched"] ff (rIr (Qc (Q4 Rp (Qc (QP 1 1 μ) Qg)) Qg)) 1 [0,4,3] ϙ Rf (Qo 2 Tg ε [ZF,[ϯ,Qc χ Qg]]),6],[η,TV ["hand","self"] ff (SB (QP 1 0 μ)) 1 [0] ϙ Rf (Yd (QP 2 3 (ε)) ζ (rC (.tup [JV,X5]))),7],[ς,[η,Q4 Xe (Qc (QP 1 2 μ) (Qc (QP 1 3 μ) [ZG,Qc ϸ (Qc (rV 7) Qg)])),8],[η,Q4 (Vt tj) (Qc (TV ["hand"] ff Z1 1 [] ϙ Rf (SW [ϯ,Qc (rC (.tup [JV,X5])) Qg])) Qg),9],[ς,YK 9 (TN (rUpd Hb (rDz tj (QP 1 0 μ) (Q4 SF (Qc (QP 1 3 μ) [ZG,Qc tE Qg]))))),[η,[Ϗ,2,Tn,Qc Hb Qg],10],[ς,W9 2 0 (ζ) ε,W9 2 1 (ζ) θ,[ς,W9 2 2 (ζ) [My,1,Un,Qc tE (Qc (rLam 0) Qg)],W9 2 3 (ζ) Hb,Ql (W9 2 4 (ζ) Kk) (QU (rV 10))]]]]]]
def SK:=Sl ff 3 1 [ς,[η,Q4 (Vt tj) (Qc [ϑ,2,0] Qg),3],YK 3 (XE θ χ ε),QU [Ϗ,2,RL,Qc χ (Qc [ϑ,2,1] (Qc Kk Qg))]]
def S9:=Sl ff 2 0 [ς,TN (Q4 U8 (Qc ε Qg)),Rc [ϗ,JS,ε,[ϑ,2,0]] TL Q9,Ql (Rc [ϗ,gGe,Q4 Rp (Qc [ϑ,2,0] Qg),[΢,40]] TL Q9) (QU [Ϗ,2,SK,[Ϧ,Qc (rC TE) Qg]])]
def Rv:=Sl ff 2 0 (Rc [ϗ,NN,ε,[ϑ,2,0]] TL Q9)
def SJ:=Sl ff 4 1 [ς,[η,Q4 (Vt tj) (Qc [ϑ,2,1] Qg),4],YK 4 (XE (SW [ZF,Qc χ Qg]) μ ε),QU [Ϗ,2,RL,Qc [ϑ,2,0] (Qc μ (Qc ε Qg))]]
abbrev X7:RS:=(TN [Ϗ,2,Rv,Qc μ Qg])
def QZ:=Sl ff 4 1 [ς,TN (Q4 U8 (Qc ε Qg)),Rc [ϗ,JS,ε,[ϑ,2,1]] TL Q9,[ς,Rc [ϗ,Y6,θ,[΢,1]] TL Q9,Rc (Qy [ϟ,Q4 Rp (Qc χ Qg),[΢,0]]) TL Q9,[ς,Sj JW (rN 4) X7,Rc [ϗ,Y6,rLs χ,Q4 Rp (Qc χ Qg)] TL Q9,Ql (Rc [ϗ,gGe,Q4 Rp (Qc [ϑ,2,1] Qg),[΢,40]] TL Q9) (QU [Ϗ,2,SJ,[Ϧ,[ZF,Qc (TV ["hand","names"] ff (SB [ϑ,2,0]) 1 [3] ϙ [ϗ,JS,ζ,ε] ζ) Qg]]])]]]
def Sv:=Sl ff 2 0 (Rc [ϗ,NN,ε,[ϑ,2,1]] TL Q9)
def Sy:=Sl ff 2 1 [ς,TN [Ϗ,2,Sv,Qc ε Qg],[η,Q4 (Vt tj) (Qc [ϑ,2,1] Qg),2],Ql (YK 2 (TN (Y4 θ ε))) (QU [Ϗ,2,RL,Qc [ϑ,2,0] [ZF,Qc ε Qg]])]
def Uz:=Sl ff 4 2 [ς,TN [Ϗ,2,Sv,Qc ε Qg],[η,Q5 [ϑ,2,1] ε,4],[ς,[η,[ϻ,Q5 μ [΢,0],Qr JN χ θ],5],Rc (Zf [ϗ,Y6,θ,[΢,1]] [ϗ,Y6,ϐ,[΢,1]]) TL Q9,QU [Ϗ,2,SJ,[Ϧ,[ZG,Qc (Q5 μ [΢,1]) Qg]]]]]
def Sw:=Sl ff 3 0 (QU [Ϗ,2,Uz,[Ϧ,[ZF,Qc [΢,1] Qg]]])
def Si:=Sl ff 3 0 (QU [Ϗ,2,Uz,[Ϧ,[ZF,Qc (rUn X9 [΢,1]) Qg]]])
def Uy:=Sl ff 3 0 [ς,TN [Ϗ,2,Rv,Qc ε Qg],Rc (Qy [ϟ,Q5 [ϑ,2,0] ε,θ]) TL Q9,QU [Ϗ,2,SK,[Ϧ,Qc θ Qg]]]
def Q7:=Sl ff 2 0 (QU [Ϗ,2,Uy,[Ϧ,Qc (rC Nq) Qg]])
def Ry:=Sl ff 2 0 (QU [Ϗ,2,Uy,[Ϧ,Qc (rC TE) Qg]])
def VN:=Sl ff 2 0 (Ql (TN [Ϗ,2,Rv,Qc ε Qg]) (QU (Q5 [ϑ,2,3] ε)))
def Uf:=Sl ff 1 0 (QU (Q4 (V6 ff) (Qc [ϑ,2,0] Qg)))
end NAM
namespace NAY
open PySem NAL NAL.EX NAL.RX NAM
section
variable {α:Type}{h h':TH}{f:α->D}{l:List (Qi×α)}{k:Qi}{a:α}{i n m:Nat}
noncomputable def Ss (l:List (Qi×α)):Ϛ:=l.map λp=>.inr p.1
noncomputable def Ui (f:α->D) (l:List (Qi×α)):Φ:=l.map λp=>f p.2
noncomputable def VU (f:α->D) (l:List (Qi×α)):D:=.dic '%' (Ui f l)
noncomputable def Sr (k:Qi):List (Qi×α)->HM| []=>ng| p::l=>if p.1=k then se p.2 else Sr k l
noncomputable def putS (k:Qi) (a:α):List (Qi×α)->List (Qi×α)| []=>[(k,a)]| p::l=>if p.1=k then(p.1,a)::l else p::putS k a l
theorem fJ:Sr k (p::l)=if p.1=k then se p.2 else Sr k l:=rfl
theorem pU:putS k a (p::l)=if p.1=k then(p.1,a)::l else p::putS k a l:=rfl
theorem rA:Xr (.inr x) (.inr y)=decide (x=y):=l7 x y
theorem u0:lk Px '%' (Ui f l)=(Sr k l).map f:=by induction l with| nil=>rfl| cons p l ih =>show(bif Xr (.inr p.1) (.inr k) then se (f p.2) else lk (.inr k) (Ss l) (Ui f l))=_;rw[rA,ih];rw[fJ];by_cases c:p.1=k;rw[P9 c,P8 c];rfl;rw[Qb c,P7 c];rfl
theorem DG:Uw Px '%'=Ss (putS k a l):=by induction l with| nil=>rfl| cons p l ih =>show(bif Xr (.inr p.1) (.inr k) then Sum.inr p.1::Ss l else Sum.inr p.1::Uw (.inr k) (Ss l))=_;rw[rA,ih];rw[pU];by_cases c:p.1=k;rw[P9 c,P8 c];rfl;rw[Qb c,P7 c];rfl
theorem DH:VT Px (f a) '%' (Ui f l)=Ui f (putS k a l):=by induction l with| nil=>rfl| cons p l ih =>show(bif Xr (.inr p.1) (.inr k) then f a::Ui f l else f p.2::VT (.inr k) (f a) (Ss l) (Ui f l))=_;rw[rA,ih];rw[pU];by_cases c:p.1=k;rw[P9 c,P8 c];rfl;rw[Qb c,P7 c];rfl
noncomputable def Wc (k:Qi) (l:List (Qi×α)):List (Qi×α):=l.filter λp=>decide (p.1≠k)
theorem KU:US Px '%'=Ss (Wc k l):=by induction l with| nil=>rfl| cons p l ih =>show(bif Xr (.inr p.1) (.inr k) then US (.inr k) (Ss l) else Sum.inr p.1::US (.inr k) (Ss l))=_;rw[rA,ih];unfold Wc;by_cases c:p.1=k;rw[P9 c,z8 (by simp_all)];rfl;rw[Qb c,z9 (by simp_all)];rfl
theorem KV:Ur Px '%' (Ui f l)=Ui f (Wc k l):=by induction l with| nil=>rfl| cons p l ih =>show(bif Xr (.inr p.1) (.inr k) then Ur (.inr k) (Ss l) (Ui f l) else f p.2::Ur (.inr k) (Ss l) (Ui f l))=_;rw[rA,ih];unfold Wc;by_cases c:p.1=k;rw[P9 c,z8 (by simp_all)];rfl;rw[Qb c,z9 (by simp_all)];rfl
noncomputable def Qq (l:List (Qi×α)):Χ:=l.map (·.1)
theorem hO (h:Sr k l=lT):(k,a)∈l:=by induction l with| nil=>cases h| cons p l ih =>rw[fJ] at h;grind
theorem UM:Sr k l=ng↔k∉'O':=by induction l with| nil=>exact#[λ_ z=>(by cases z),λ_=>rfl]| cons p l ih =>rw[fJ];by_cases c:p.1=k;grind[absurd,Qq];rw[P7 c,ih];unfold Qq;grind
theorem KW:(Sr k l).isSome=decide (k∈'O'):=by cases e:Sr k l with| none=>rw[Qb (UM.mp e)];rfl| some a=>rw[P9 (show k∈'O' from aO.mpr #[_,hO e,rfl])];rfl
theorem hU (nd:'O'.Nodup)(h:(k,a)∈l):Sr k l=lT:=by induction l with| nil=>cases h| cons p l ih =>rw[fJ];have f8:=eA.mp nd;rcases aT.mp h with z | z;rw[<-z,P8 rfl];rw[P7 λc=>f8.1 (aO.mpr #[(k,a),z,c.symm])];exact ih f8.2 z
theorem u4 (nd:'O'.Nodup):YL '%'=tj:=by induction l with| nil=>rfl| cons p l ih =>have f8:=eA.mp nd;show(!X8 (.inr p.1) (Ss l)&&YL (Ss l))=tj;rw[ih f8.2,zK,jr];refine gj.mpr λz=>f8.1 ?_;obtain⟨q,hq,e⟩:=aO.mp ((B5 _ _).mp z);exact aO.mpr #[q,hq,Sum.inr.inj e]
theorem u5:'%'.length=l.length:=a8 _
theorem ye (h:k∈'O'):Qq (putS k a l)='O':=by induction l with| nil=>cases h| cons p l ih =>rw[pU];by_cases c:p.1=k;rw[P8 c];rfl;grind[Qq,putS]
theorem yf (h:k∉'O'):putS k a l=l++[(k,a)]:=by induction l with| nil=>rfl| cons p l ih =>rw[pU];rw[P7 λc:p.1=k=>h (c▸List.Mem.head _),ih λz=>h (.tail _ z)];rfl
theorem zaB:nKs ks h i=se ((ks.map kd)[i]?):=by show se (TZ (eg ks i) kd)=_;rw[aW,bo];cases ks[i]?<;>rfl
theorem ou (i:Nat):nKs '%' h i=se ((l.map λp=>D.str p.1)[i]?):=by rw[zaB];unfold Ss;rw[cj];rfl
theorem YM:Xd neg (.str k) (VU f l) h=.ok (.bl (neg^^decide (k∈'O'))) h:=by show(match lk Px '%' (Ui f l)with| some _=>[NR,neg^^tj,h]| none=>[NR,neg^^ff,h])=_;rw[u0,<-KW];cases Sr k l<;>rfl
theorem jG (z1:fa ρ h=[ν,VU f l])(z2:fb ρ h'=[ν,.str k])(z3:Sr k l=lT):Q5 fa fb ρ h=[ν,f a]:=aD z1 z2 (by show QL (lk Px '%' (Ui f l)) _=_;rw[u0,z3];rfl)
theorem yg (z1:fa ρ h=[ν,VU f l])(z2:fb ρ h'=[ν,.str k])(z3:fc ρ h'=[ν,f z]):Yd fa fb fc ρ h=[ν,f ((Sr k l).getD z)]:=by unfold Yd;rw[z1];show[϶,fb ρ h']=_;rw[z2];show[϶,fc ρ h']=_;rw[z3];show(match lk Px '%' (Ui f l)with| some d=>R.ok d h'| none=>R.ok (f z) h')=_;rw[u0];cases Sr k l<;>rfl
theorem DI:Rp [VU f l] h=.ok Md h:=by show R.ok [H7,Rx '%'] h=_;rw[aR,u5];rfl
theorem KZ {m:Bool}:V6 m [VU f l] h=mk m ('O'.map .str) h:=by show mk m (kds '%') h=_;(have:kds '%'='O'.map D.str:=by induction l with| nil=>rfl| cons p l ih=>show kd (.inr p.1)::kds (Ss l)=_;rw[ih];rfl);rw[this]
theorem yh {m:Bool}(nd:'O'.Nodup):Vt m [[Jc,λp=>.tup [.str p.1,f p.2]]] h=mkD m '%' (Ui f l) h:=by have e1:QJ prK (l.map λp=>D.tup [.str p.1,f p.2])=se '%':=kL λp _=>rfl;have e2:QJ prV (l.map λp=>D.tup [.str p.1,f p.2])=se (Ui f l):=kL λp _=>rfl;show QL (QJ prK (l.map λp=>D.tup [.str p.1,f p.2])) _=_;rw[e1];show QL (QJ prV (l.map λp=>D.tup [.str p.1,f p.2])) _=_;rw[e2];rw[u4 nd];rfl
theorem YT {m:Bool}:Vt m [VU f l] h=mkD m '%' (Ui f l) h:=rfl
theorem ox (hf:∀a,cd n m (f a)):cd n (m+1) (VU f l):=λd hd=>by obtain⟨p,_,rfl⟩:=lP;exact hf p.2
theorem Yh {ks:Χ}:Xd neg (.str k) (.lst (ks.map .str)) h=.ok (.bl (neg^^decide (k∈ks))) h:=by have e1:QJ Zc 'N'=se Iw:=kL λp _=>rfl;(have e2:vIn (.str k) Iw=se (decide (k∈ks)):=by clear e1;induction ks with| nil=>rfl| cons x ks ih =>show TZ (vIn (.str k) (ks.map V.str)) (λr=>sEq x k||r)=_;rw[ih];show se (sEq x k||decide (k∈ks))=_;rw[l7];congr 1;rw[fG];simp only[mX,decide_eq_true_eq,aT];exact or_congr_left eq_comm);show QL (QJ Zc 'N') _=_;rw[e1];show QL (vIn (.str k) Iw) _=_;rw[e2];rfl
end
abbrev bz:=List (Qi×Bool)
abbrev a9:=List (Qi×(Int× Χ))
noncomputable def tkD (t:Int× Χ):D:=.tup [.int t.1,.lst (t.2.map .str)]
noncomputable def Qj (c:bz):Χ:=Qq (c.filter λp=>p.2)
noncomputable def Vh (p ns:Χ):Zw:=(ns.filter λx=>decide (x∈p)).map λx=>MJ
noncomputable def RD (p:Χ) (t:a9):a9:=t.filter λq=>decide (0<(Vh p q.2.2).length)
noncomputable def dealtD (l:a9):D:=[Jc,λq=>.str q.1]
noncomputable def Xv (l:a9):D:=[Jc,λq=>.int q.2.1]
noncomputable def WH (p:Χ) (l:a9):D:=[Jc,λq=>Qu (Vh p q.2.2)]
noncomputable def SE (c:bz) (t:a9):Φ:=[.lst ('#'.map .str),dealtD [ϕ,t],Xv [ϕ,t],WH '#' [ϕ,t]]
section
variable {h h0 t:TH}{c:bz}{tk:a9}{p:Χ}{i:Nat}{x:Qi}
theorem K0 (nd:p.Nodup):∀{n:Nat},Sr x (p.zipIdx n)=if x∈p then se (MJ+n)else none:=by induction p with| nil=>intro n;rfl| cons y p ih =>intro n;have f8:=eA.mp nd;rw[List.zipIdx_cons,fJ,ih f8.2];by_cases e:x=y;subst e;simp;have e1:(y==x)=ff:=beq_eq_false_iff_ne.mpr (Ne.symm e);simp[e,Ne.symm e,wy,e1,ug,qL 1]
theorem DJ:Qq (p.zipIdx)=p:=by exact Ai 0 p
theorem jH (nd:'0'.Nodup):'#'.Nodup:='A'.nodup nd
theorem DK:'#'.length<=c.length:=by unfold Qj Qq;rw[a8];exact gy _ _
theorem K1 (nd:p.Nodup)(ndt:(Qq tk).Nodup)(hq:q∈tk)(hl:q.2.2.length<1000) :TV ["hand","number_of"] ff (SB (Q5 (Q5 (θ) μ) [΢,1])) 1 [3] ϙ [ϗ,JS,ζ,ε] [Ϯ,ζ] [me,cr,se (VU tkD tk),se (VU nD p.zipIdx),se (.str q.1),y] h=.ok (Qu (Vh p q.2.2)) h:=by(have e:=uO (fi:=SB (Q5 (Q5 (θ) μ) [΢,1])) (fg:=ϙ) (fT:=[ϗ,JS,ζ,ε]) (fa:=[Ϯ,ζ]) (ρ:=[me,cr,se (VU tkD tk),se (VU nD p.zipIdx),se (.str q.1),y]) (N:=["hand","number_of"]) (n:=1) (fr:=[3]) (b:=ff) (v:=λx=>nD MJ) (by have a2:Q5 (Q5 (θ) μ) [΢,1] [me,cr,se (VU tkD tk),se (VU nD p.zipIdx),se (.str q.1),y] h=.ok (.lst (q.2.2.map .str)) h:=[Ψ,jG rfl rfl (hU ndt hq),rfl];unfold SB;rw[a2];rfl) cU hl λx hx=>by refine#[[O7,se (VU nD p.zipIdx)],rfl,aQ [Ψ,rfl,YM.trans ?_],λhp=>?_];rw[DJ,kB];refine jG rfl rfl ?_;rw[K0 nd,P8 (Qa hp)];rfl);rw[e];unfold Vh Qu;rw[cj];rfl
theorem DL:RD p (l++[q])=RD p l++(if 0<(Vh p q.2.2).length then[q]else[]):=by unfold RD;grind
theorem zcF {c:Nat}(cl:Cl h0)(z:fzo (h0++ .mi c ds::t) (h0.length+1) (.mi c ds)=[Ϟ,c,ds'])(nt:t≠[]):[IV,h0.length+1,h0++ .mi c ds::t]=[ZW,h0++[.mi c ds']]:=by unfold trunc;rw[aR,show bJ (h0++ .mi c ds::t).length (h0.length+1)=ff from gj.mpr λy=>Τ];(have tk:etk (h0.length+1) (h0++ .mi c ds::t)=h0++[.mi c ds]:=by rw[q8,Am,dL (lV _),Ay];rfl);rw[tk,CZ (xE λx hx=>rf (nY (lV _) (cl x hx))) (show QJ _ [TM.mi c ds]=se [TM.mi c ds']from Qx.mpr #[_,_,z,rfl,rfl])];rfl
theorem DM (cl:Cl h0)(ndc:'0'.Nodup)(ndt:(Qq tk).Nodup)(lc:c.length<=40)(lt:tk.length<=40)(ln:∀q∈tk,q.2.2.length<=40):V5 1 Va [VU .bl c,VU tkD tk] h0=.ok (.at h0.length) (h0++[.mi 1 (SE c tk)]):=by have pnd:=jH ndc;have pl:=b9 DK lc;(have nl:∀{ρ F t},Rk tj Qg ρ (h0++ .mi 1 F::t)=.ok (.at (h0.length+(t.length+1))) (h0++ .mi 1 F::(t++[.ml []])):=by intros;rw[XM];simp);refine zcQ [ώ,sI (cM rfl ou (NAG.gl32 lc) (λx hx=>#[_,rfl,aQ (jG rfl rfl (hU ndc hx)),λ_=>rfl]) (L:='#'.map .str) (by simp[Qj,Qq])) rfl (sI nl rfl (sI nl rfl (sI nl rfl (sA (aK [Ω,cA (nZ [ξ,fW,rfl]) pS (by rw[lM];exact NAG.gl32 pl) (λx hx=>#[_,by unfold VA;rfl,rfl]) rfl] (yh (f:=nD) (by rwa [DJ]))) ?_))))];refine sZ (eM (λi ρ h=>(∃x y,ρ=[se (.at h0.length),se (VU .bl c),se (VU tkD tk),se (VU nD '#'.zipIdx),x,y])/\h=h0++[.mi 1 [.lst ('#'.map .str),.at (h0.length+1),.at (h0.length+2),.at (h0.length+3)],.ml ([ϕ,Kn].map λq=>.str q.1),.ml ([ϕ,Kn].map λq=>.int q.2.1),.ml ([ϕ,Kn].map λq=>Qu (Vh '#' q.2.2))]) rfl (λi _ _ _=>ou i) (NAG.gl32 lt) #[#[_,_,rfl],rfl] λi q ρ h hq #[#[x,y,e1],e2]=>?_) λh #[ρ,_,e]=>?_;subst e1 e2;have mq:=La;(have sM:tk.take (i+1)=Kn++[q]:=by rw[pq,hq];rfl);have ll:[ϕ,Kn].length<=40:=b9 (gy _ _) (b9 (List.length_take_le' _ _) lt);refine#[_,rfl,nA (K1 pnd ndt mq (by have:=ln q mq;exact NAG.gl32 this)) ?_];by_cases z:0<(Vh '#' q.2.2).length;refine nT (aQ [Ψ,[ψ,db],by rw[gt_int,P9 Τ]]) (nD' (l9 [ξ,fW,rfl] rfl rfl (by simp;exact NAG.gl31 ll)) (nD' (l9 [ξ,fW,rfl] rfl [Ω,[Ψ,jG rfl rfl (hU ndt mq),rfl]] (by simp;exact NAG.gl31 ll)) (nE (cR (l9 [ξ,fW,rfl] rfl rfl (by simp;exact NAG.gl31 ll))) #[#[_,_,rfl],?_])));rw[sM,DL,ZL];simp;refine nF (aQ [Ψ,[ψ,db],by rw[gt_int,Qb (by simp[*])]]) (nE rfl #[#[_,_,rfl],?_]);rw[sM,DL,ZK,lN];rw[e,kE,eU];refine zcF cl ?_ (by simp);refine congrArg (TZ · (TM.mi 1)) (show QJ (fz _ (h0.length+1) 9) _=se (SE c tk)from ?_);exact Qx.mpr #[_,_,fV 9 λd hd=>cdm (λ_=>by trivial) d hd,Qx.mpr #[_,_,xJ Τ VP (cdm λ_=>by trivial),Qx.mpr #[_,_,xJ Τ VP (cdm λ_=>by trivial),Qx.mpr #[_,_,xJ Τ VP (cdm λ_ d hd=>cdm (λ_=>by trivial) d hd),rfl,rfl],rfl],rfl],rfl]
theorem DN (e:h[i]?=[Ϟ,1,.lst (p.map .str)::F])(hr:∀x∈rs,x<p.length)(hl:rs.length<1000):Ru [.at i,Qu rs] h=.ok (.lst ((rs.map λx=>p.getD x "").map .str)) h:=by have q:=uP (fi:=Z1) (fg:=ϙ) (fa:=Q5 (QP 1 0 (ε)) ζ) (ρ:=[se (.at i),se (Qu rs)]) (N:=["number","self"]) (n:=1) (fr:=[0]) (b:=ff) rfl cU hl λx hx=>#[[se (nD x),se (.at i)],rfl,[Ψ,[ξ,e,rfl],by show QL (Zl (p.map D.str) (x:Int)) _=_;rw[V7,bo,getD_at' (hr x hx) ""];rfl]];refine pJ rfl (jk (q.trans ?_)) rfl;rw[cj];rfl
end
abbrev Row:=List (Qi×(Zx))
noncomputable def VJ (c:bz) (t:a9) (rw:List (Qi×Row)) (bu:Row):Φ:=[VU .bl c,VU tkD t,VU (VU Sd) rw,VU Sd bu,.non]
noncomputable def Yj:Jw->D| none=>.non| some x=>ϋ
noncomputable def S4 (p:Χ) (q:Qi×(Int× Χ)):Χ:=q.2.2.filter λx=>decide (x∈p)
noncomputable def Tc (p:Χ) (rw:List (Qi×Row)) (to:Jw) (q:Qi×(Int× Χ)):Np :=if to=se q.1 then ng else match Sr q.1 rw with| none=>ng| some r=>if(Qq r).any λx=>[Ϫ,x,S4 p q]then ng else se ((S4 p q).map λx=>(Sr x r).getD (0,1))
abbrev Yn (x:Qi):Prop:=R9 60 ϋ=tj
section
variable {h h':TH}{c c':bz}{tk bi:a9}{p:Χ}{i j k m:Nat}{x:Qi}{rw:List (Qi×Row)}{bu mK:Row}{q:Qi×(Int× Χ)}{to:Jw}
theorem DO:∀x∈Vh p ns,x<p.length:=λx hx=>by obtain⟨y,hy,rfl⟩:=aO.mp hx;exact fH (Qa (bY.mp hy).2)
theorem zez:(Vh p ns).length<=ns.length:=by unfold Vh;rw[a8];exact gy _ _
theorem ku (hy:y∈p):p.getD L6 ""=y:=by have l:=fH hy;rw[bC,aJ l,tW];rfl
theorem K4:(Vh p ns).map (λx=>p.getD x "")=ns.filter λx=>decide (x∈p):=by unfold Vh;rw[cj];refine(cq λy hy=>?_).trans (nJ _);exact ku (Qa (bY.mp hy).2)
theorem K5 (hx:Yn x)(ht:∀y,to=Ϥ->Yn y):SO ff ϋ (Yj to) h=.ok [Pn,to=σ] h:=by cases to with| none =>show Q3 (R9 60 ϋ&&tj) [NR,ff,h]=_;rw[hx];rfl| some y =>show SO ff ϋ (.str y) h=_;rw[eq_str hx (ht y rfl),kB];congr 2;rw[fG];simp only[decide_eq_true_eq,Option.some.injEq];exact eq_comm
theorem DP (er:h[j]?=[Ϟ,1,SE c' bi])(hl:q.2.2.length<=40):Ru [.at j,Qu (Vh '*' q.2.2)] h=.ok (.lst ((S4 '*' q).map .str)) h:=by have e:=DN (p:='*') (rs:=Vh '*' q.2.2) er DO (by have:=zez (p:='*') (ns:=q.2.2);lia);rw[K4] at e;exact e
theorem yi (z:fa ρ h=[ν,VU f l]):SB fa ρ h=[ν,nKs '%']:=by unfold SB;rw[z];rfl
theorem zds (eh:h[i]?=[Ϟ,2,VJ c tk rw bu])(er:h[j]?=[Ϟ,1,SE c' bi])(hk:[Z4,bi][k]?=Ϝ)(hx:Yn q.1)(ht:∀y,to=Ϥ->Yn y)(hl:q.2.2.length<=40)(rl:∀r,Sr q.1 rw=τ->r.length<=40) :Tg [.at i,.at j,nD k,Yj to] h=.ok (optR (Tc '*' rw to q)) h:=by have t1:=K5 (h:=h) hx ht;have t2:=YM (h:=h) (neg:=tj) (k:=q.1) (f:=VU Sd) (l:=rw);unfold Tg Tc;refine[ώ,sA (eF [ξ,er,rfl] rfl hk) ?_];by_cases z:to=se q.1;rw[ZL];rw[P9 z] at t1;exact sT (za3 (aQ [Ψ,rfl,t1])) [Ϸ,rfl];rw[ZK];rw[Qb z] at t1;cases hr:Sr q.1 rw with| none =>rw[Qb (UM.mp hr)] at t2;exact sT ((n9 (aQ [Ψ,rfl,t1])).trans (aQ (aD rfl [ξ,eh,rfl] t2))) [Ϸ,rfl]| some r =>have rl:=rl r hr;have hn:q.1∈Qq rw:=aO.mpr #[_,hO hr,rfl];rw[P9 hn] at t2;refine sF ((n9 (aQ [Ψ,rfl,t1])).trans (aQ (aD rfl [ξ,eh,rfl] t2))) (sA [ϊ,er,[Ω,eF [ξ,er,rfl] rfl hk],DP er hl] ?_);have an:=WX (h:=h) (bs:=r.map λx=>[Ϫ,x.1,S4 '*' q]);rw[show((r.map λx=>[Ϫ,x.1,S4 '*' q]).any id)=(Qq r).any λx=>[Ϫ,x,S4 '*' q]by simp[Qq,wG,Function.comp_def]] at an;refine sB (aQ (aK [Ω,cA (yi (jG [ξ,eh,rfl] rfl hr)) ou (NAG.gl32 rl) (λx hx=>#[_,rfl,[Ψ,rfl,Yh]]) (by simp)] an)) (λy=>?_) λy=>?_;dsimp only;rw[P8 y];exact[Ϸ,rfl];dsimp only;rw[P7 (by lia)];refine[Ϸ,cA Og cU (kH (gy _ _) (NAG.gl32 hl)) (λx hx=>#[_,rfl,yg (z:=((0,1))) (jG [ξ,eh,rfl] rfl hr) rfl rfl]) ?_];simp
noncomputable def WV (bu mK:Row):List (Qi×(Zx)×(Zx)):=(mK.map λp=>(p.1,(Sr p.1 bu).getD (0,1),p.2)).filter λx=>decide (x.2.1≠x.2.2)
noncomputable def Ya (x:Qi×(Zx)×(Zx)):D:=.tup [.str x.1,Sd x.2.1,Sd x.2.2]
theorem zai {p u:Zx}:SO tj ZM (Sd u) h=.ok [Pn,p≠u] h:=by(have e0:SO tj ZM (Sd u) h=(SO ff ZM (Sd u) h).bnd λx h=>match x with| .bl b=>.ok (.bl (! b)) h| _=>.no:=by show Q3 (R9 60 ZM&&R9 60 (Sd u)) (QL (YI 60 ZM (Sd u)) _)=[϶,Q3 (R9 60 ZM&&R9 60 (Sd u)) (QL (YI 60 ZM (Sd u)) _)];cases R9 60 ZM&&R9 60 (Sd u)with| false=>rfl| true =>cases YI 60 ZM (Sd u)with| none=>rfl| some b=>cases b<;>rfl);rw[e0,DF,decide_not];rfl
theorem K8 (eh:h[i]?=[Ϟ,2,VJ c tk rw bu])(nd:(Qq mK).Nodup)(hl:mK.length<=40):Tn [.at i,VU Sd mK] h=.ok (.lst ((WV bu mK).map Ya)) h:=by refine[ώ,sA (cA rfl ou (NAG.gl32 hl) (λx hx=>#[_,rfl,fY [Ϙ,aE (yg (z:=(0,1)) [ξ,eh,rfl] rfl rfl) [Ω,jG rfl rfl (hU nd hx)]] rfl]) (by simp[Ya])) [Ϸ,cM Og cU (by simp;exact NAG.gl32 hl) (λx hx=>#[_,rfl,aQ [Ψ,rfl,zai],λ_=>rfl]) (show _=(WV bu mK).map Ya from rfl)]]
noncomputable def Wq (p:Χ) (x:(Qi×(Int× Χ))×Zt):Row:=((S4 p x.1).zip x.2).filter λy=>decide (0<y.2.1)
noncomputable def Uu (p:Χ) (z:List ((Qi×(Int× Χ))×Zt)):List (Qi×Row):=z.map λx=>(x.1.1,Wq p x)
noncomputable def So (p:Χ) (l:a9) (R:Zr):List (Qi×Row):=Uu p 'E'
theorem zbk (z1:fa ρ h=.ok (.at m) h)(e:h[m]?=se (.mf 0))(z2:fb ρ h=.ok (Sd u) h):Ym lb fa (Qc fb Qg) ρ h=.ok [Pn,0<u.1] h:=by(have em:eMf h (.at m)=se 0:=by grind[eMf,aW]);unfold Ym;rw[z1];show QL (eMf h (.at m)) _=_;rw[em];rw[[Ω,z2]];show QL (eMf h (.at m)) _=_;rw[em];show R.nox (Qr X2 [ZO,[΢,0]] [΢,0] [se (Sd u)] h)=_;rw[[Ψ,rfl,gt_int]];rfl
theorem yj (z1:fv ρ h=.ok (f a) h)(z2:fx ρ h=.ok (.at i) h)(z3:fy ρ h=.ok (.str kx) h)(e:h[i]?=se (.md '%' (Ui f l)))(nd:'O'.Nodup)(hl:l.length<=1000):XE fv fx fy ρ h=[ϱ,ρ,[ϧ,.md (Ss (putS kx a l)) (Ui f (putS kx a l))]]:=by(have e1:Xg h (.at i)=se (i,'%',Ui f l):=by unfold Xg;dsimp only;rw[aW,e]);(have e2:Yg (.at i) h=tj:=by unfold Yg eK;dsimp only;rw[aW,e]);unfold XE;rw[z1];show[϶,fx ρ h]=_;rw[z2];show[϶,fy ρ h]=_;rw[z3];show(bif Yg (.at i) h then gDput (.at i) (.str kx) (f a) ρ h else _)=_;rw[e2];show QL (Xg h (.at i)) _=_;rw[e1];show Q3 (YL '%'&&bq (Rx '%') 16777216) _=_;rw[u4 nd,aR,u5,bR.mpr (NAG.gl63 hl)];show R.ok Hl (hs h i (.md (Uw (.inr kx) '%') (VT (.inr kx) (f a) '%' (Ui f l))))=_;rw[iD,DG,DH]
theorem zag (z:fa ρ (h++[.md '%' (Ui f l)])=.ok (.at h.length) (h++[.md '%' (Ui f l)])):rFz fa ρ (h++[.md '%' (Ui f l)])=.ok (VU f l) (h++[.no]):=by unfold rFz;rw[z];show QL (Xg _ (.at h.length)) _=_;(have:Xg (h++[.md '%' (Ui f l)]) (.at h.length)=se (h.length,'%',Ui f l):=by unfold Xg;dsimp only;rw[aW,fW];rfl);rw[this];show RX.R.ok (VU f l) (hs _ h.length .no)=_;rw[iD,uR];rfl
theorem Lb:XF tj ρ h=.ok (.at h.length) (h++[.md [] []]):=by show[J8,D.at Gl,h,.md [] []]=_;rw[gF,gG]
theorem DQ:∀{l:List α} {R:List β},((l.map f1).zip ((l.map f2).zip (R.map f3))).map (λp=>D.tup [p.1,p.2.1,p.2.2])='E'.map λx=>.tup [f1 x.1,f2 x.1,f3 x.2]| [],_=>rfl| _::_,[]=>rfl| a::l,b::R=>by show D.tup [f1 a,f2 a,f3 b]::(((l.map f1).zip ((l.map f2).zip (R.map f3))).map λp=>D.tup [p.1,p.2.1,p.2.2])=_;rw[DQ];rfl
theorem Ua:∀{l:List α} {R:List β},('E'.map Prod.fst).Sublist l| [],_=>Τ| _::_,[]=>Τ| a::l,b::R=>.cons₂ a Ua
theorem Ld {x:(Qi×(Int× Χ))×Zt}(nd:x.1.2.2.Nodup):(Qq (Wq p x)).Nodup:=((iL).map Prod.fst).nodup (Ua.nodup (iL.nodup nd))
theorem zbF {R:Zr}(cl:Ϣ)(er:h[j]?=[Ϟ,1,SE c' bi])(em:h[m]?=se (.mf 0))(nd:(Qq bi).Nodup)(hl:∀q∈bi,q.2.2.length<=40/\q.2.2.Nodup)(lt:bi.length<=40) :Un [.at j,.lst [J5,Sd],.at m] h=.ok (VU (VU Sd) (So '*' [Z4,bi] R)) h:=by have lin:∀q∈[Z4,bi],q∈bi:=λq hq=>(bY.mp hq).1;have ll:[Z4,bi].length<=40:=b9 (gy _ _) lt;have lnd:(Qq [Z4,bi]).Nodup:='A'.nodup nd;have e0:(SE c' bi)[1]?=se (dealtD [Z4,bi]):=rfl;have e2:(SE c' bi)[3]?=se (WH '*' [Z4,bi]):=rfl;generalize[Z4,bi]=l at lin ll lnd e0 e2 ⊢;(have DR:∀k,(Qq (Uu '*' ('E'.take k))).Nodup:=λk=>by(have e:Qq (Uu '*' ('E'.take k))=(('E'.take k).map Prod.fst).map Prod.fst:=by simp[Qq,Uu,Function.comp_def]);rw[e];exact(List.Sublist.map Prod.fst (((tY k 'E').map Prod.fst).trans Ua)).nodup lnd);refine[ώ,sA Lb (sL (eM (l:='E') (λi ρ g=>(∃x y z,ρ=[se (.at j),[π,[J5,Sd]],se (.at m),se (.at h.length),x,y,z])/\g=h++[.md (Ss (Uu '*' ('E'.take i))) (Ui (VU Sd) (Uu '*' ('E'.take i)))]) (CA [ξ,g9 er,e0] [ξ,g9 er,e2] rfl) (λi _ _ _=>by rw[Cq,DQ]) (by grind) #[#[_,_,_,rfl],rfl] λi x ρ g hx #[#[a,b,c,e1],e2]=>?_) fun ρ g #[#[a,b,c,e1],e2]=>?_)];subst e1 e2;obtain⟨xs,xn⟩:=hl x.1 (lin x.1 (cx (a:=x.1) Nw).1);(have sM:'E'.take (i+1)='E'.take i++[x]:=by rw[pq,hx];rfl);(have nw:x.1.1∉Qq (Uu '*' ('E'.take i)):=by have z:=DR (i+1);rw[sM] at z;unfold Uu Qq at z;rw[cP,cP] at z;exactλw=>(kD.mp z).2.2 _ w _ (cT.mpr rfl) rfl);have Tnd:=DR i;(have Te:Uu '*' ('E'.take (i+1))=putS x.1.1 (Wq '*' x) (Uu '*' ('E'.take i)):=by rw[sM,yf nw];simp[Uu]);(have Tl:(Uu '*' ('E'.take i)).length<=1000:=by simp[Uu];exact NAG.gl69 ll);rw[Te];generalize Uu '*' ('E'.take i)=T at Tnd Tl ⊢;refine#[_,by unfold Yl;rfl,nE (yj (l:=T) (aK [Ω,cM (n6 [ϊ,g9 er,rfl,DP (g9 er) xs] rfl) om (by grind[kG,gy,Qj,S4]) (λy hy=>#[_,rfl,aQ (zbk rfl (g9 em) rfl),λ_=>rfl]) rfl] (yh (l:=Wq '*' x) (Ld xn))) rfl rfl fW Tnd Tl) #[#[_,_,_,rfl],?_]];rw[uR];rfl;subst e1 e2;rw[kE];exact sR (zag rfl) (pK cl (ox λa=>ox λb=>jF))
end
section
variable {ws:Zv}{aC:Zs}{ae:Nat}{R R':Zr}{qs:Zt}
theorem DS (h:p.2∣M0):vl (M0*k) p=vl M0 p*k:=by grind[vl,iC,gu,M0,Int.mul_ediv_assoc]
theorem Lg {s:Zt}(h:∀p∈s,p.2∣M0):(s.map (vl (M0*k))).sum=(s.map (vl M0)).sum*k:=by induction s with| nil=>rw[qG,wF,qG,wF,ni]| cons p s ih=>rw[bA,cy,bA,cy,ih λq hq=>h q (.tail _ hq),DS (h p (.head _)),o6]
theorem za5 (h:∀x∈L,x.2.2∣M0):Vy (M0*k) L g=Vy M0 L g*k:=by unfold Vy;induction L with| nil=>simp_all| cons p s ih =>rw[bA,cy,bA,cy,ih λq hq=>h q (.tail _ hq),DS (h p (.head _)),o6];lia
theorem DT (d:Td ws aC ae R qs)(x:MixOk ws aC ae R' qs):Td ws aC ae R' qs:=by refine#[#[x.len,x.row,λM hM dM i s hs=>?_,x.ok,λM hM dM g q hq=>?_,x.even],d.len,d.ok,d.rows,d.few,d.h12];obtain⟨k,rfl⟩:=dM;show(s.map (vl (M0*k))).sum=[KK,i]*(M0*k);rw[Lg λp hp=>(x.ok s (aG hs) p hp).2.2.1,x.sum i s hs,iC];obtain⟨k,rfl⟩:=dM;obtain⟨l,e⟩:=x.ld g q hq;refine#[l,?_];show q.1*(M0*k)=q.2*Vy (M0*k) (RK aC R') g;rw[za5 λy hy=>?_,<-iC,e,iC];obtain⟨z,hz,hy⟩:=kj.mp hy;exact(x.ok z.2 (cx hz).2 y.2 (cx hy).2).2.2.1
end
section
variable {α:Type}{f:α->D}{h h' h2:TH}{i j c n:Nat}{ρ:Rb}{fa fb:RE}{l m:List (Qi×α)}
noncomputable def Xw (l m:List (Qi×α)):List (Qi×α):=m.foldl (λl p=>putS p.1 p.2 l) l
theorem zdX:∀{m l:List (Qi × α)},W8 '%' (Ui f l) (Ss m) (Ui f m)=(Ss (Xw l m),Ui f (Xw l m)):=by intro m;induction m with| nil =>exact rfl| cons p m ih =>rintro l;show W8 (Uw (.inr p.1) (Ss l)) (VT (.inr p.1) (f p.2) (Ss l) (Ui f l)) (Ss m) (Ui f m)=_;rw[DG,DH,ih];rfl
theorem zbG:∀{m l:List (Qi × α)},(∀x∈Qq m,x∈'O')->Qq (Xw l m)='O':=by intro m;induction m with| nil =>rintro l _;exact rfl| cons p m ih =>rintro l h;show Qq (Xw (putS p.1 p.2 l) m)=_;have e:=ye (a:=p.2) (h p.1 (.head _));rw[ih λx hx=>by rw[e];exact h x (.tail _ hx),e]
theorem DV:Sr x (putS k a l)=if k=x then lT else Sr x l:=by induction l with| nil=>show Sr x [(k,a)]=_;rw[fJ]| cons p l ih =>rw[pU];by_cases c:p.1=k;rw[P8 c,fJ,fJ];simp_all;rw[P7 c,fJ,fJ,ih];lia
theorem DW:∀{m l:List (Qi × α)},(Qq m).Nodup->Sr x (Xw l m)=(Sr x m).or (Sr x l):=by intro m;induction m with| nil =>rintro l _;exact rfl| cons p m ih =>rintro l nd;have f8:=eA.mp nd;show Sr x (Xw (putS p.1 p.2 l) m)=_;rw[ih f8.2,DV,fJ];by_cases e:p.1=x;rw[P8 e,P8 e,UM.mpr λz=>f8.1 (show p.1∈Qq m from e▸z)];rfl;simp_all
theorem Ll {p:Χ}{qs:υ}(z1:fa ρ h=[ν,.lst (p.map .str)])(z2:fb ρ h'=.ok (.lst (qs.map f)) h2)(nd:p.Nodup)(e:qs.length=p.length)(hl:p.length<=1000):rDz tj fa fb ρ h=.ok (.at h2.length) (h2++[.md Ob (Ui f 'i')]):=by(have k1:Ob=p.map .inr:=by show 'i'.map (Sum.inr∘Prod.fst)=_;rw[<-cj,ub Τ]);(have k2:Ui f 'i'=qs.map f:=by show 'i'.map (f∘Prod.snd)=_;rw[<-cj,ww Τ]);(have e1:QJ dk (p.map D.str)=se Ob:=by rw[k1];exact kL λx _=>rfl);have nk:=u4 (by show('i'.map Prod.fst).Nodup;rw[ub Τ];exact nd);unfold rDz;rw[z1];show[϶,fb ρ h']=_;rw[z2];show QL (QJ dk (p.map D.str)) _=_;rw[e1];show Q3 (YL Ob&&(bJ (Rx Ob) (Rx (qs.map f))&&cf (Rx Ob) 1000)) _=_;rw[nk,aR,aR,k1,a8,a8,e,gE,IQ];show R.ok (D.at (hn h2)) (hp h2 (.md _ _))=_;rw[gF,gG,k2]
theorem pV (e:h[i]?=se (.md ks ds)):Xg h (.at i)=se (i,ks,ds)/\Yg (.at i) h=tj:=by grind[Xg,aW,Yg,eK]
theorem Lm (z1:fa ρ h=.ok (.at i) h)(e1:h[i]?=se (.md '%' (Ui f l)))(z2:fb ρ h=.ok (.at j) h2)(e2:h2[i]?=se (.md '%' (Ui f l)))(e3:h2[j]?=se (.md (Ss m) (Ui f m)))(ne:i≠j)(nd:'O'.Nodup)(hl:l.length+m.length<=1000):rUpd fa fb ρ h=[ZW,h2.set i (.md (Ss (Xw l m)) (Ui f (Xw l m)))]:=by unfold rUpd;rw[z1];show Q3 (Yg (.at i) h) _=_;rw[(pV e1).2];rw[z2];show QL (Xg h2 (.at i)) _=_;rw[(pV e2).1];rw[(pV e3).1];show Q3 (! Nat.beq i j&&(YL '%'&&cf (Rx '%'+Rx (Ss m)) 1000)) _=_;rw[show bJ i j=ff from gj.mpr λz=>ne (lR z),u4 nd,aR,aR,u5,u5,IQ];show R.ok D.non (hs h2 i (.md (W8 '%' (Ui f l) (Ss m) (Ui f m)).1 (W8 '%' (Ui f l) (Ss m) (Ui f m)).2))=_;rw[zdX,iD]
theorem u6 (z:f' ρ h=[ϱ,ρ',h2])(e1:ρ'[n]?=se (se (.at i)))(e2:h2[i]?=se (.md '%' (Ui f l))):YK n f' ρ h=[ϱ,ρ'.set n (se (VU f l)),h2.set i .no]:=by unfold YK;rw[z];show(match eg ρ' n with| some (se d)=>QL (Xg h2 d) λp=>R.ok (Fl.nx (WJ ρ' n (se (.dic p.2.1 p.2.2)))) (hs h2 p.1 .no)| _=>.no)=_;grind[aW,QL,Xg,pV,WJ,VU,hs,eJ,iD]
theorem Lp (z1:fv ρ h=[ν,y])(z2:fa ρ h'=[ν,.at i])(z3:h'[i]?=[Ϟ,c,ds])(hn:n<ds.length):W9 c n fa fv ρ h=[ϱ,ρ,h'.set i (.mi c (ds.set n y))]:=by(have e:Y8 c h' (.at i)=se (i,ds):=by grind[Y8,aW,bJ,gE]);unfold W9;rw[z1];show[϶,fa ρ h']=_;rw[z2];show QL (Y8 c h' (.at i)) _=_;rw[e];show Q3 (cf n NU) _=_;rw[aR,eE.mpr (gD hn),bR.mpr hn];show R.ok Hl (hs h' i (.mi c (WJ ds n y)))=_;rw[iD,eJ]
end
noncomputable def VQ (c:bz) (t:a9):Zv:=[ϕ,t].map λq=>q.2.1
noncomputable def Uh (c:bz) (t:a9):Zs:=[ϕ,t].map λq=>Vh '#' q.2.2
noncomputable def Tw (c:bz) (t:a9) (rw:List (Qi×Row)) (to:Jw):Po:=[ϕ,t].map (Tc '#' rw to)
noncomputable def VG (c:bz) (bu:Row):Zt:='#'.map λx=>(Sr x bu).getD (0,1)
noncomputable def RM (c:bz) (qs:Zt):Row:=Xw (c.map λp=>(p.1,((0,1):Zx))) ('#'.zip qs)
section
variable {h t:TH}{c c':bz}{tk bi:a9}{p:Χ}{i k m:Nat}{o:TM}{x:Qi}{rw:List (Qi×Row)}{bu:Row}{q:Qi×(Int× Χ)}{to:Jw}
theorem DX {l:Χ}:cd n (m+2) [Jc,.str]:=λd hd=>by obtain⟨x,_,rfl⟩:=lP;trivial
theorem ym:ct n (.mi 2 (VJ c tk rw bu)):=λd hd=>by rcases ZQ with rfl | hd;exact ox λ_=>trivial;rcases ZQ with rfl | hd;(exact ox λa d hd=>by rcases ZQ with rfl | hd;trivial;rcases ZQ with rfl | hd;exact DX;cases hd);rcases ZQ with rfl | hd;exact ox λa=>ox λb=>jF;rcases ZQ with rfl | hd;exact ox λb=>jF;rcases ZQ with rfl | hd;trivial;cases hd
theorem yn:ct n (.mi 1 (SE c tk)):=λd hd=>by rcases ZQ with rfl | hd;exact DX;rcases ZQ with rfl | hd;intro d hd;obtain⟨x,_,rfl⟩:=lP;trivial;rcases ZQ with rfl | hd;intro d hd;obtain⟨x,_,rfl⟩:=lP;trivial;rcases ZQ with rfl | hd;intro d hd;obtain⟨x,_,rfl⟩:=lP;intro d hd;obtain⟨y,_,rfl⟩:=lP;trivial;cases hd
theorem DY:ct n (.md ks (Ui Sd bu)):=λd hd=>by obtain⟨x,_,rfl⟩:=lP;exact jF
theorem u7 (ndc:'0'.Nodup){qs:Zt}:Qq (RM c qs)='0':=by unfold RM;rw[zbG];unfold Qq;rw[cj];rfl;intro x hx;have:=Ua.subset hx;unfold Qq;rw[cj];obtain⟨y,hy,rfl⟩:=O0;exact aO.mpr #[y,(bY.mp hy).1,rfl]
theorem Lq (e:h[i]?=Υ):[ϧ,o]=h:=i8 λk=>by by_cases c:i=k;subst c;rw[gT '<'.1,e];rw[ee c]
theorem zah {f:α->D}(nd:'O'.Nodup):Vt tj [[Jc,λp=>.tup [.str p.1,f p.2]]] h=.ok (.at h.length) (h++[.md '%' (Ui f l)]):=by rw[yh nd];show[J8,D.at Gl,h,_]=_;rw[gF,gG]
theorem zd4 (z:fa ρ h=.ok d h):Qc fa (Qc (rLam n) Qg) ρ h=.ok [d,.at h.length] (h++[.mf n]):=by unfold Qc;rw[z];show[J8,[d,.at Gl],h,.mf n]=_;rw[gF,gG]
theorem sW (il:i<h.length)(z1:fv ρ ([ϧ,.mi 2 ds]++t)=.ok y ([ϧ,.mi 2 ds]++t'))(z2:fa ρ ([ϧ,.mi 2 ds]++t')=.ok (.at i) ([ϧ,.mi 2 ds]++t'))(k:(g ρ ([ϧ,.mi 2 (ds.set n y)]++t')).bnd (fin m)=r)(hn:n<ds.length:=by simp[VJ]):(Ql (W9 2 n fa fv) g ρ ([ϧ,.mi 2 ds]++t)).bnd (fin m)=r:=by have e:=Lp (c:=2) z1 z2 (by grind) hn;rw[show([ϧ,.mi 2 ds]++t').set i (.mi 2 (ds.set n y))=[ϧ,.mi 2 (ds.set n y)]++t' by simp_all] at e;exact sG e k
theorem Lu (cl:Ϣ)(eh:h[i]?=[Ϟ,2,VJ c tk rw bu])(ndc:'.'.Nodup)(ndt:(Qq bi).Nodup)(lc:c'.length<=40)(lt:bi.length<=40)(ln:∀q∈bi,q.2.2.length<=40/\q.2.2.Nodup)(nt:∀q∈bi,Yn q.1)(ht:∀y,to=Ϥ->Yn y)(rl:∀x r,Sr x rw=τ->r.length<=40)(A:YY (VQ c' bi) (Uh c' bi))(h12:'*'.length<=12)(rows:We (VQ c' bi).length '*'.length (Uh c' bi))(F:Fit (VQ c' bi) (Uh c' bi) '*'.length (Tw c' bi rw to) (VG c' bu)) :∃R qs,RL [.at i,VU .bl c',VU tkD bi,Yj to] h=.ok (.lst ((WV bu (RM c' qs)).map Ya)) [ϧ,.mi 2 (VJ c' bi (So '*' [Z4,bi] (Vr (Uh c' bi) (Tw c' bi rw to) R qs (VG c' bu))) (RM c' qs))]/\Td (VQ c' bi) (Uh c' bi) '*'.length R qs:=by have il:='F'.1;have jq:=cl.app (yn (c:=c') (tk:=bi));obtain⟨R,qs,s5,Dk⟩:=KT jq A h12 rows F.old;have Dm:=DT Dk (F.mix R qs Dk);refine#[R,qs,?_,Dk];generalize Vr (Uh c' bi) (Tw c' bi rw to) R qs (VG c' bu)=Rm at s5 Dm ⊢;(have e1:(h++[.mi 1 (SE c' bi)])[i]?=[Ϟ,2,VJ c tk rw bu]:=by grind);(have g1:(h++[.mi 1 (SE c' bi)])[h.length]?=[Ϟ,1,SE c' bi]:=by simp);have ll:[Z4,bi].length<=40:=b9 (gy _ _) lt;unfold RL;(have ed:(SE c' bi)[3]?=[π,(Uh c' bi).map Qu]:=by simp[SE,WH,Uh]);refine[ώ,sA [ψ,DM cl ndc ndt lc lt λq hq=>(ln q hq).1] ?_];refine sA (aK [Ω,[ξ,g1,rfl]] db) (sA (cA (rk [Ω,aK [Ω,[ξ,g1,rfl]] db] (NAG.gl32 ll)) rg (by rw[jv];exact NAG.gl32 ll) (λk hk=>?_) (Cw (l:=Tw c' bi rw to) (f:=optR) (d:=ng) (by simp[Tw]))) ?_);have hq:=aJ (dF.mp hk);have mq:=(bY.mp La).1;refine#[_,rfl,[ϊ,e1,rfl,zds e1 g1 hq (nt _ mq) ht (ln _ mq).1 λr hr=>rl _ r hr].trans ?_];simp[Tw,hq];refine sA (cA (fI [ξ,g1,rfl]) cU (NAG.gl33 h12) (λx hx=>#[_,rfl,yg (f:=Sd) (z:=(0,1)) [ξ,e1,rfl] rfl rfl]) (L:=(VG c' bu).map Sd) (by simp[VG])) (sA (aK (aE [ξ,g1,by simp[SE,Xv,VQ]] [Ω,[ξ,g1,ed]]) s5) ?_);(have nl0:Qq (c'.map λp=>(p.1,((0,1):Zx)))='.':=by simp[Qq]);refine sA (aK [Ω,cA rfl ou (NAG.gl32 lc) (λx hx=>#[_,rfl,rfl]) (L:=(c'.map λp=>(p.1,((0,1):Zx))).map λp=>.tup [.str p.1,Sd p.2]) (by simp[Sd])] (zah (nl0▸ndc))) ?_;obtain⟨cg,s7,ql,ld⟩:=Dw (jq.app (DY (ks:=Ss (c'.map λp=>(p.1,((0,1):Zx)))) (bu:=c'.map λp=>(p.1,(0,1))))) Dm.rat;cases LdB.uniq fm ld Dm.ldb (ql.trans Dm.len.symm);generalize sH:(c'.map λp=>(p.1,((0,1):Zx)))=l0 at s7 nl0 ⊢;(have ll0:l0.length=c'.length:=by rw[<-sH,a8]);(have eb:Xw l0 ('*'.zip qs)=RM c' qs:=by rw[<-sH];rfl);(have g2:(h++[.mi 1 (SE c' bi)]++[.md (Ss l0) (Ui Sd l0)])[h.length]?=[Ϟ,1,SE c' bi]:=Τ);refine sGe (h2:=[ϧ,.mi 2 (VJ c tk rw bu)]++[.mi 1 (SE c' bi),.no,.md (Ss ('*'.zip qs)) (Ui Sd ('*'.zip qs))]) (u6 (f:=Sd) (l:=Xw l0 ('*'.zip qs)) (cR (Lm (f:=Sd) (l:=l0) (m:='*'.zip qs) rfl (by simp) (Ll [ξ,g2,rfl] (aK [Ω,[ξ,g2,ed]] s7) (jH ndc) ql (by lia)) (by grind) (by grind) (by simp) (nl0▸ndc) (by grind))) rfl (by simp)) (by rw[Lq eh,ja,gb _ [_] [_],uR,gb];rfl) ?_;rw[eb];have nb:=u7 ndc (qs:=qs);(have lb:(RM c' qs).length=c'.length:=by have:=congrArg qH nb;simpa [Qq] using this);(have hb:∀{ds t},([ϧ,.mi 2 ds]++t)[i]?=[Ϟ,2,ds]:=by grind);(have gr:∀{ds t},([ϧ,.mi 2 ds]++ .mi 1 (SE c' bi)::t)[h.length]?=[Ϟ,1,SE c' bi]:=Τ);refine sA [ϊ,hb,rfl,K8 hb (nb▸ndc) Τ] (sW il rfl rfl (sW il rfl rfl (sW il ([ϊ,gr,zd4 rfl,zbF (Cl.apps (Cl.apps (cl.set ym) ?_) ?_) (g9 gr) (by simp) ndt ln lt].trans (by rw[gb];rfl)) rfl (sW il rfl rfl (sW il rfl rfl (sR rfl ?_))))));simp only[aT,dQ,or_false,forall_eq_or_imp,forall_eq];exact#[yn,trivial,DY];simp only[aT,dQ,or_false,forall_eq];trivial;have tr:=pK (t:=[.mi 1 (SE c' bi),.no,.md (Ss ('*'.zip qs)) (Ui Sd ('*'.zip qs))]++[.mf 0]) (v:=.lst ((WV bu (RM c' qs)).map Ya)) (cl.set (i:=i) (ym (c:=c') (tk:=bi) (rw:=So '*' [Z4,bi] Rm) (bu:=RM c' qs))) (λd hd=>by obtain⟨x,_,rfl⟩:=lP;intro d hd;simp only[aT,dQ,or_false] at hd;rcases hd with rfl | rfl | rfl;trivial;exact jF;exact jF);rwa [eD] at tr
end
section
variable {h:TH}{c:bz}{t:a9}{p ns:Χ}{R:Zr}{qs:Zt}{q:Qi×(Int× Χ)}{x:Qi}
structure CT (c:bz)(t:a9):Prop where
 ndc:'0'.Nodup
 ndt:'b'.Nodup
 lc:c.length<=12
 lt:t.length<=20
 nt:∀q∈t,Yn q.1
 pos:∀q∈t,1<=q.2.1
 bd:∀q∈t,Bd 300 q.2.1
 sub:∀q∈t,q.2.2.Sublist '0'
theorem Lw (nd:'0'.Nodup)(hy:y∈c):y.1∈'#'↔y.2=tj:=by constructor;intro z;obtain⟨w,hw,e⟩:=aO.mp z;obtain⟨w1,w2⟩:=bY.mp hw;have a:=hU nd (show(y.1,y.2)∈c from hy);have b:=hU nd (show(w.1,w.2)∈c from w1);simp_all;exactλz=>aO.mpr #[y,bY.mpr #[hy,z],rfl]
theorem zco (nd:'0'.Nodup):'0'.filter (λx=>decide (x∈'#'))='#':=by unfold Qq;rw[wz];congr 1;refine Aj λy hy=>?_;show decide (y.1∈'#')=y.2;rw[fG,decide_eq_true_iff];exact Lw nd hy
theorem Lz (nd:p.Nodup):p.Pairwise λa b=>p.idxOf a<p.idxOf b:=by rw[o7];intro i j hi hj lt;rw[nd.idxOf_getElem,nd.idxOf_getElem];exact lt
theorem LA (nd:'0'.Nodup)(s:ns.Sublist '0'):(Vh '#' ns).Pairwise (· < ·):=by have s1:=s.filter λx=>decide (x∈'#');rw[zco nd] at s1;unfold Vh;rw[wt];exact(Lz (jH nd)).sublist s1
theorem kM (hq:q∈RD p t):q∈t/\Vh p q.2.2≠[]:=by obtain⟨a,b⟩:=bY.mp hq;exact#[a,λz=>by rw[z] at b;exact absurd (Qa b) (nQ 0)]
theorem CT.p12 (k:CT c t):'#'.length<=12:=b9 DK k.lc
theorem CT.rows (k:CT c t):We (VQ c t).length '#'.length (Uh c t):=by refine#[by unfold Uh VQ;rw[a8,a8],λr hr=>?_];obtain⟨q,hq,rfl⟩:=aO.mp hr;obtain⟨m,ne⟩:=kM hq;exact#[ne,LA k.ndc (k.sub q m),DO]
theorem CT.asks (k:CT c t):YY (VQ c t) (Uh c t):=by have dl:[ϕ,t].length<=20:=b9 (gy _ _) k.lt;refine#[by unfold Uh VQ;rw[a8,a8],by unfold VQ;rw[a8];exact dl,λr hr=>?_,λw hw=>?_,λw hw=>?_];have:=k.rows.2 r hr;exact b9 (ig this.2.1 this.2.2) (b9 k.p12 (by decide));obtain⟨q,hq,rfl⟩:=aO.mp hw;exact k.pos q (kM hq).1;obtain⟨q,hq,rfl⟩:=aO.mp hw;exact k.bd q (kM hq).1
structure Vz (c:bz)(t:a9)(R:Zr)(qs:Zt):Prop where
 ct:CT c t
 deal:Td (VQ c t) (Uh c t) '#'.length R qs
noncomputable def Xk (c:bz) (t:a9) (R:Zr):List (Qi×Row):=So '#' [ϕ,t] R
noncomputable def RJ (c:bz) (t:a9) (R:Zr) (qs:Zt):Φ:=VJ c t (Xk c t R) (RM c qs)
theorem LB {l:a9}(nd:'O'.Nodup){k:Nat}(hq:l[k]?=Ϝ)(hs:R[k]?=Ϩ):Sr q.1 (So p l R)=se (Wq p (q,s)):=by refine hU ?_ ?_;(have e:Qq (So p l R)=('E'.map Prod.fst).map Prod.fst:=by unfold Qq So Uu;simp_all);rw[e];exact(Ua.map Prod.fst).nodup nd;exact aO.mpr #[(q,s),[Jv,#[hq,hs]],rfl]
theorem oy (nd:q.2.2.Nodup):(S4 p q).Nodup:=iL.nodup nd
theorem WQ:(Vh p q.2.2).length=(S4 p q).length:=by unfold Vh S4;rw[a8]
theorem u8 (nd:'b'.Nodup):(Qq (RD p t)).Nodup:='A'.nodup nd
theorem DZ:∀{ps:List Qi} {qs:Zt} {k:Nat},ps.Nodup->ps[k]?=σ->Sr x (ps.zip qs)=qs[k]?| [],_,k,_,h=>by trivial| y::ps,[],k,_,_=>by rfl| y::ps,u::qs,0,_,h=>by cases h;rw[iM,fJ,Cx];rfl| y::ps,u::qs,k+1,nd,h=>by have f8:='g';rw[iM,fJ,P7 λe:y=x=>f8.1 (e▸aG h),DZ f8.2 h];rfl
theorem LC:(Sr x (c.map λp=>(p.1,((0,1):Zx)))).getD (0,1)=(0,1):=by cases e:Sr x (c.map λp=>(p.1,((0,1):Zx)))with| none=>rfl| some u =>obtain⟨y,_,z⟩:=aO.mp (hO e);cases z;rfl
theorem D2 (nd:'#'.Nodup):(Qq ('#'.zip qs)).Nodup:=Ua.nodup nd
theorem yo (ndc:'0'.Nodup){k:Nat}(hx:'#'[k]?=σ)(hu:qs[k]?=TG):(Sr x (RM c qs)).getD (0,1)=u:=by grind[RM,DW,D2,jH,DZ]
theorem D4 (ndc:'0'.Nodup)(hx:x∉'#'):(Sr x (RM c qs)).getD (0,1)=(0,1):=by unfold RM;rw[DW (D2 (jH ndc)),UM.mpr λz=>hx (Ua.subset z)];exact LC
end
end NAY
namespace NAP
section
variable {ae m n:Nat}{D:Nat->Nat->Prop}{w x:Nat->Int}{s os:Nat->Nat->Int}{e r:Nat->Nat}{kp:Nat->Bool}
structure Em (ae m:Nat)(e r:Nat->Nat):Prop where
 up:∀h<ae,e h<m/\r (e h)=h
 dn:∀g<m,r g<ae->e (r g)=g
theorem Em.sum (E:Em ae m e r)(F:Nat->Int):upTo (λg=>if r g<ae then F (r g)else 0) m=[ZX,F]:=by have:=xH (g:=F) r (λg=>decide (r g<ae)) (λi _ h=>Qa h) (λi hi k hk a b z=>by rw[<-E.dn i hi (Qa a),<-E.dn k hk (Qa b),z]) λj hj _=>#[e j,(E.up j hj).1,P9 (by rwa [(E.up j hj).2]),(E.up j hj).2];simp_all
theorem Dl.emb (A:Dl ae n D w s x)(E:Em ae m e r):Dl m n (λi g=>r g<ae/\D i (r g)) w (λi g=>if r g<ae then s i (r g)else 0) (λg=>if r g<ae then x (r g)else 0):=by refine#[λi hi g hg=>?_,λi hi g hg z=>?_,λi hi=>(E.sum λh=>s i h).trans (A.sum i hi),λg hg=>?_,λi hi g hg z k hk #[k1,k2]=>?_];split;exact A.nn i hi _ (by assumption);simp_all;split at z;exact#[by assumption,A.off i hi _ (by assumption) z];simp_all;split;exact A.load _ (by assumption);grind[Rs];split at z;rename_i g1;rw[P8 g1,P8 k1];exact A.even i hi _ g1 z _ k1 k2;simp_all
theorem Xm.res (X:Xm m n (λi g=>r g<ae/\D i (r g)) w (λi g=>if r g<ae then s i (r g)else 0) (λi g=>if r g<ae then os i (r g)else 0) (λg=>if r g<ae then x (r g)else 0) kp)(E:Em ae m e r):Xm ae n D w s os x kp:=by have at_:=E.up;refine#[λi hi k=>(E.sum λh=>os i h).symm.trans (X.sum i hi k),λi hi k h hh z g hg dg=>?_,λh hh=>?_];have a:=at_ h hh;have b:=at_ g hg;have:=X.even i hi k (e h) a.1 Τ (e g) b.1 Τ;simp_all;have a:=at_ h hh;have:=X.load (e h) a.1;simp_all
end
end NAP
namespace NAY
open PySem NAL NAL.EX NAL.RX NAM
section
variable {p N L:Χ}{x y:Qi}{s:Zt}{l:Row}{i g:Nat}
noncomputable abbrev rn (N p:Χ) (g:Nat):Nat:=p.idxOf (N.getD g "")
theorem yp (np:p.Nodup)(h:i<p.length):p.idxOf (p.getD i "")=i:=Τ
theorem rB (nN:N.Nodup)(np:p.Nodup)(sub:∀x∈p,x∈N):NAP.Em p.length N.length (λh=>N.idxOf (p.getD h "")) (rn N p):=by have m:∀{l:List Qi} {i},i<l.length->l.getD i ""∈l:=λ{l i} h=>aG (getD_at' h "");refine#[λh hh=>#[fH (sub _ (m hh)),?_],λg hg h=>?_];show p.idxOf (N.getD (N.idxOf (p.getD h "")) "")=h;rw[ku (sub _ (m hh)),yp np hh];rw[ku (vW.mp h),yp nN hg]
noncomputable def vN (r:Row) (y:Qi):Int:=vl M0 ((Sr y r).getD (0,1))
theorem yq (h:y∉'O'):vN l y=0:=by unfold vN;rw[UM.mpr h];rfl
theorem D5 (hx:x∈p):MJ=L6↔x=y:=by constructor;intro z;have hy:=vW.mp (z▸fH hx);rw[<-ku hx,z,ku hy];rintro rfl;rfl
theorem D6 (sub:∀x∈L,x∈p)(nL:L.Nodup):∀{s:Zt},s.length=L.length->(if L6<p.length then Vy M0 ((L.map λx=>MJ).zip s) L6 else 0)=vN (L.zip s) y:=by induction L with| nil=>intro s _;split<;>rfl| cons a L ih =>intro s hs;match s,hs with| u::s,hs =>have ih:=ih (λx hx=>sub x (.tail _ hx)) (eA.mp nL).2 (by exact jy hs);(have e:Vy M0 (((a::L).map λx=>p.idxOf x).zip (u::s)) (p.idxOf y)=(if p.idxOf a=p.idxOf y then vl M0 u else 0)+Vy M0 ((L.map λx=>p.idxOf x).zip s) (p.idxOf y):=by rfl);(have ev:vN ((a::L).zip (u::s)) y=if a=y then vl M0 u else vN (L.zip s) y:=by unfold vN;rw[iM,fJ];by_cases z:a=y;rw[P8 z,P8 z];rfl;rw[P7 z,P7 z]);rw[e,ev];by_cases z:a=y;subst z;have v0:=yq (l:=L.zip s) λz=>(eA.mp nL).1 (Ua.subset z);have lt:=fH (sub a (.head _));rw[P8 lt] at ih ⊢;rw[P8 rfl,P8 rfl,ih,v0,mZ];rw[P7 z,<-ih,P7 λk=>z ((D5 (sub a (.head _))).mp k),lF]
theorem LD (nn:∀z∈l,0<=z.2.1)(nd:'O'.Nodup):vN (l.filter λz=>decide (0<z.2.1)) y=vN l y:=by induction l with| nil=>rfl| cons z l ih =>have ih:=ih (λz hz=>nn z (.tail _ hz)) (eA.mp nd).2;rw[kg];by_cases pz:0<z.2.1;rw[P8 (P9 pz)];unfold vN at ih ⊢;rw[fJ,fJ];by_cases e:z.1=y;rw[P8 e,P8 e];rw[P7 e,P7 e,ih];rw[P7 (by simp_all),ih];by_cases e:z.1=y;subst e;rw[yq (eA.mp nd).1];unfold vN;rw[fJ,P8 rfl];have:=nn z (.head _);show 0=vl M0 z.2;unfold vl;rw[show z.2.1=0 by lia,ni];unfold vN;rw[fJ,P7 e]
theorem zaZ {f:Qi->Zx}:Sr y (L.zip (L.map f))=if y∈L then se (f y)else none:=by induction L with| nil=>rfl| cons a L ih =>rw[bA,iM,fJ,ih];by_cases z:a=y;simp_all;simp[z,Ne.symm z]
end
section
variable {c c':bz}{t t':a9}{p N:Χ}{R:Zr}{qs:Zt}{q:Qi×(Int× Χ)}{x:Qi}{to:Jw}{s:Zt}{i g j:Nat}{rw:List (Qi×Row)}
theorem u9 (hq:[ϕ,t][i]?=Ϝ):(Uh c t).getD i []=(S4 '#' q).map λx=>'#'.idxOf x:=by unfold Uh;rw[bC,bo,hq];rfl
theorem CT.qnd (K:CT c t)(hq:[ϕ,t][i]?=Ϝ):q.2.2.Nodup:=(K.sub q (kM La).1).nodup K.ndc
theorem jn:∀x∈S4 p q,x∈p:=λx hx=>Qa '7'.2
theorem va (hq:[ϕ,t][i]?=Ϝ):(rn N '#' g<'#'.length/\rn N '#' g∈(Uh c t).getD i [])↔N.getD g ""∈S4 '#' q:=by rw[u9 hq];constructor;rintro⟨_,z⟩;obtain⟨x,hx,e⟩:=aO.mp z;rw[<-(D5 (jn x hx)).mp e];exact hx;intro z;exact#[fH (jn _ z),aO.mpr #[_,z,rfl]]
theorem oz (d:Td (VQ c t) (Uh c t) ae R qs)(hq:[ϕ,t][i]?=Ϝ):∃s,R[i]?=Ϩ/\s.length=(S4 '#' q).length/\∀u∈s,Xj u:=by have hl:='w'.1;(have il:i<R.length:=by rw[d.ev.len];simpa [Uh] using hl);have e:=aJ il;exact#[_,e,(d.ev.row i (Vh '#' q.2.2) _ (by simp[Uh,hq]) e).trans WQ,λu hu=>d.ev.ok _ (aG e) u hu]
theorem rD (K:CT c t)(hq:[ϕ,t][i]?=Ϝ)(hs:R[i]?=Ϩ)(sl:s.length=(S4 '#' q).length)(so:∀u∈s,Xj u):(if rn N '#' g<'#'.length then Yt (Uh c t) R i (rn N '#' g)else 0)=vN (Wq '#' (q,s)) (N.getD g ""):=by unfold Yt;rw[u9 hq,show R.getD i []=s by simp_all];have nd:=oy (p:='#') (K.qnd hq);exact(D6 jn nd sl).trans (LD (λz hz=>(so _ (cx hz).2).2.1) (Ua.nodup nd)).symm
noncomputable abbrev ldV (c:bz) (t:a9) (R:Zr) (N:Χ) (g:Nat):Int:=if rn N '#' g<'#'.length then Vy M0 (RK (Uh c t) R) (rn N '#' g)else 0
theorem zaM (K:CT c t)(d:Td (VQ c t) (Uh c t) '#'.length R qs):FV M0 ((Sr (N.getD g "") (RM c qs)).getD (0,1)) (ldV c t R N g):=by unfold ldV;by_cases z:rn N '#' g<'#'.length;have e:=aJ (by rwa [d.len]);rw[ZL,yo K.ndc Τ e];exact d.ev.load M0 fm (iK _) _ _ e;rw[ZK,D4 K.ndc λm=>z (fH m)];exact#[#[by decide,by decide],rfl]
theorem D7 (K:CT c' t')(hq:[Z4,t'][j]?=Ϝ)(ho:Tc '*' rw to q=Υ):∃r,to≠se q.1/\Sr q.1 rw=τ/\(∀x∈Qq r,x∈S4 '*' q)/\∀g,(if rn N '*' g<'*'.length then osF (Uh c' t') (Tw c' t' rw to) j (rn N '*' g)else 0)=vN r (N.getD g ""):=by(have e:(Tw c' t' rw to).getD j ng=Tc '*' rw to q:=by simp[Tw,hq]);unfold Tc at ho;by_cases z:to=se q.1;simp_all;rw[ZK] at ho;split at ho;cases ho;rename_i r hr;split at ho;cases ho;rename_i a;(have a:=by simpa using a);refine#[r,z,hr,a,λg=>?_];unfold osF;rw[u9 hq,e];(have e2:Tc '*' rw to q=se ((S4 '*' q).map λx=>(Sr x r).getD (0,1)):=by unfold Tc;simp_all);rw[e2];refine(D6 (s:=(S4 '*' q).map λx=>(Sr x r).getD (0,1)) jn (oy (K.qnd hq)) (by simp)).trans ?_;unfold vN;rw[zaZ];by_cases m:N.getD g ""∈S4 '*' q;simp_all;rw[P7 m,UM.mpr λk=>m (a _ k)]
end
end NAY
namespace NAM
open PySem NAL NAL.EX
theorem D8 {qs ys:Zt}(d:Td ws aC ae R qs)(O:YE aC ae ar ys)(Y:Nat->Int)(hY:∀h y,ys[h]?=Ϥ->FV M0 y (Y h))(i:Nat)(hi:i<aC.length) :V4 [TS,[]] [CC,i] qs ys=tj↔[CC,i].isSome=tj/\∃h<ae,0<osF aC ar i h/\Vy M0 (RK aC R) h=Y h:=by have e:=getD_at' (show i<ar.length by have:=O.len;simp_all) ng;unfold osF;cases ho:[CC,i]with| none=>simp[V4]| some o =>rw[ho] at e;have fo:=O.ok o (aG e);show([TS,[]].zip o).any _=tj↔_;rw[ia];(have same:∀h<ae,qs.getD h (0,1)=ys.getD h (0,1)↔Vy M0 (RK aC R) h=Y h:=λh hh=>by have f1:=d.ev.load M0 fm (iK _) h _ (getD_at' (show h<qs.length by rwa [d.len]) (0,1));have f2:=hY h _ (getD_at' (show h<ys.length by rwa [O.yl]) (0,1));constructor;intro z;rw[z] at f1;have c:=f2.1.1;exact zL (a:=(ys.getD h (0,1)).2) (by exact d9 c) (by rw[<-f1.2,<-f2.2]);intro z;rw[z] at f1;exact f1.uniq fm f2);constructor;rintro⟨x,hx,z⟩;simp only[bW,decide_eq_true_eq] at z;have mz:='H';have hl:=(d.rows.2 _ (aG (getD_at' hi ([])))).2.2 x.1 mz.1;refine#[rfl,x.1,hl,?_,(same x.1 hl).mp z.2];have:=Dy (λy hy=>(fo y.2 (cx hy).2).vn) hx;have:=(fo x.2 mz.2).vp.mpr z.1;grind;rintro⟨_,h,hh,z,e2⟩;obtain⟨x,hx,rfl,pv⟩:=yc z;refine#[x,hx,?_];simp only[bW,decide_eq_true_eq];exact#[(fo x.2 'H'.2).vp.mp pv,(same x.1 hh).mpr e2]
theorem zdb:Xj (0,1):=#[#[by decide,by decide],by decide,#[M0,(vS _).symm],by show(0:Int).natAbs<_;trivial]
theorem LJ:uJ (0,1):=#[#[by decide,by decide],by decide,by decide,by show(0:Int).natAbs<_;trivial]
end NAM
namespace NAY
open PySem NAL NAL.EX NAL.RX NAM
section
variable {c c':bz}{t t':a9}{p:Χ}{R:Zr}{qs:Zt}{q:Qi×(Int× Χ)}{x y a:Qi}{to:Jw}{s:Zt}{k:Nat}{r:Row}
theorem jD {l:a9}(nd:'O'.Nodup)(hq:q∈l):l['O'.idxOf q.1]?=Ϝ:=by obtain⟨k,hk⟩:=Hq;(have e:'O'[k]?=se q.1:=by simp[Qq,hk]);have kl:='<'.1;have:=nd.idxOf_getElem k kl;rw['<'.2] at this;rw[this];exact hk
theorem yr (H:Vz c t R qs)(e:Sr a (Xk c t R)=τ):∃(k:Nat) (q:Qi×(Int×List Qi)) (s:Zt),[ϕ,t][k]?=Ϝ/\q.1=a/\R[k]?=Ϩ/\r=Wq '#' (q,s):=by obtain⟨⟨q,s⟩,hz,ez⟩:=aO.mp (hO e);obtain⟨k,hk⟩:=bf hz;obtain⟨h1,h2⟩:=Jy;cases ez;exact#[k,q,s,h1,rfl,h2,rfl]
theorem D9 (H:Vz c t R qs)(hq:[ϕ,t][k]?=Ϝ)(hs:R[k]?=Ϩ):Sr q.1 (Xk c t R)=se (Wq '#' (q,s)):=LB (u8 H.ct.ndt) hq hs
theorem rE (h:y∈Qq (Wq p (q,s))):y∈S4 p q:=by obtain⟨z,hz,rfl⟩:=NH;exact(cx (bY.mp hz).1).1
theorem rF (so:∀u∈s,Xj u)(nd:(S4 p q).Nodup):0<vN (Wq p (q,s)) y↔y∈Qq (Wq p (q,s)):=by constructor;intro z;apply Classical.byContradiction;intro k;rw[yq k] at z;simp_all;intro h;obtain⟨z,hz,rfl⟩:=NH;obtain⟨z1,z2⟩:=bY.mp hz;unfold vN;have f8:(Qq (Wq p (q,s))).Nodup:='A'.nodup (Ua.nodup nd);rw[hU f8 (show(z.1,z.2)∈Wq p (q,s)from hz)];exact(so z.2 (cx z1).2).vp.mpr (Qa z2)
theorem Ec (H:Vz c t R qs)(K:CT c' t'):YE (Uh c' t') '*'.length (Tw c' t' (Xk c t R) to) (VG c' (RM c qs)):=by(have oo:∀{q o},Tc '*' (Xk c t R) to q=Υ->o.length=(S4 '*' q).length/\∀u∈o,Xj u:=λ{q o} ho=>by unfold Tc at ho;split at ho;cases ho;split at ho;cases ho;rename_i r hr;split at ho;cases ho;cases ho;refine#[by simp,λu hu=>?_];obtain⟨x,_,rfl⟩:=aO.mp hu;obtain⟨k,q',s,h1,_,h3,rfl⟩:=yr H hr;obtain⟨s',e,_,so⟩:=oz H.deal h1;cases h3.symm.trans e;cases z:Sr x (Wq '#' (q',s))with| none=>exact zdb| some v=>exact so v (cx (bY.mp (hO z)).1).2);refine#[by simp[Tw,Uh],λi r o hr ho=>?_,λo ho u hu=>?_,by simp[VG],λy hy=>?_];simp only[Uh,Tw,bo,jc] at hr ho;obtain⟨q,hq,rfl⟩:=hr;obtain⟨q',fO,e⟩:=ho;cases hq.symm.trans fO;exact(oo e).1.trans WQ.symm;obtain⟨q,_,e⟩:=aO.mp ho;exact(oo e).2 u hu;obtain⟨x,_,rfl⟩:=aO.mp hy;by_cases m:x∈'#';have z:=fH m;(have il:'#'.idxOf x<qs.length:=by rw[H.deal.len];exact z);have e:=aJ il;rw[yo H.ct.ndc (by rw[getD_at' z "",ku m]) e];exact H.deal.ok _ (aG e);rw[D4 H.ct.ndc m];exact LJ
end
section
variable {c:bz}{t t':a9}{q:Qi×(Int× Χ)}{x:Qi}{k:Nat}{p p':Χ}
theorem jI (h:x∈'#'):x∈'0':='A'.subset h
theorem hV:(Uh c t).length=[ϕ,t].length:=by simp[Uh]
theorem Ed (hq:q∈t)(hx:x∈S4 p q):q∈RD p t:=bY.mpr #[hq,P9 (by rw[WQ];exact qD hx)]
theorem Ee (hq:(RD p t)[k]?=Ϝ):∃x,x∈S4 p q:=by have:=Qa (bY.mp La).2;rw[WQ] at this;exact List.exists_mem_of_length_pos this
noncomputable def fN (p p':Χ) (t t':a9) (k:Nat):Nat:=if(Qq (RD p t)).getD k ""∈Qq (RD p' t')then(Qq (RD p' t')).idxOf ((Qq (RD p t)).getD k "")else(RD p' t').length+k
theorem rG (hq:(RD p t)[k]?=Ϝ):(Qq (RD p t)).getD k ""=q.1:=by simp[Qq,hq]
theorem Ef {l:a9}(h:q∈l):q.1∈'O':=aO.mpr #[q,h,rfl]
theorem rH (nd:(Qq t').Nodup)(hq:(RD p t)[k]?=Ϝ)(hm:q'∈RD p' t')(e:q'.1=q.1):(RD p' t')[fN p p' t t' k]?=se q':=by unfold fN;rw[rG hq,<-e,P8 (Ef hm)];exact jD (u8 nd) hm
theorem yt (nd:(Qq t').Nodup)(hq:(RD p t)[k]?=Ϝ)(h:fN p p' t t' k<(RD p' t').length):∃q',(RD p' t')[fN p p' t t' k]?=se q'/\q'.1=q.1:=by by_cases m:q.1∈Qq (RD p' t');obtain⟨q',fO,e⟩:=aO.mp m;exact#[q',rH nd hq fO e,e];unfold fN at h;rw[rG hq,P7 m] at h;lia
theorem yu (nd:'b'.Nodup)(h1:(RD p t)[k]?=Ϝ)(h2:(RD p t)[j]?=se q')(e:q.1=q'.1):k=j:=by(have b:(Qq (RD p t))[j]?=se q.1:=by simp[Qq,h2,e]);exact NAL.UL (u8 nd) (by simp[Qq,h1]) b
theorem Eg (ndt:'b'.Nodup)(nd:(Qq t').Nodup):∀i<(Uh c t).length,∀k<(Uh c t).length,fN '#' p' t t' i=fN '#' p' t t' k->i=k:=λi hi k hk e=>by rw[hV] at hi hk;have h1:=aJ hi;have h2:=aJ hk;by_cases z:fN '#' p' t t' i<(RD p' t').length;obtain⟨q1,a1,b1⟩:=yt nd h1 z;obtain⟨q2,a2,b2⟩:=yt nd h2 (e▸z);rw[e,a2] at a1;cases a1;exact yu ndt h1 h2 (b1.symm.trans b2);(have g:∀{i q},[ϕ,t][i]?=Ϝ->¬fN '#' p' t t' i<(RD p' t').length->fN '#' p' t t' i=(RD p' t').length+i:=λ{i q} h z=>by unfold fN at z ⊢;by_cases m:(Qq [ϕ,t]).getD i ""∈Qq (RD p' t');rw[P8 m] at z;have:=fH m;exact absurd this (by simpa [Qq] using z);rw[P7 m]);have:=g h1 z;have:=g h2 (e▸z);lia
end
section
variable {c c':bz}{t t':a9}{R:Zr}{qs:Zt}{q:Qi×(Int× Χ)}{x:Qi}{to:Jw}{k:Nat}{p:Χ}
theorem WU:x∈S4 p (a,(w,ns))↔x∈ns/\x∈p:=by simp[S4]
theorem mw (hq:[ϕ,t][k]?=Ϝ):(VQ c t).getD k 0=q.2.1:=by simp[VQ,hq]
theorem Eh (H:Vz c t R qs)(sub:∀x∈'*',x∈'.')(nN:'.'.Nodup)(h:Nat)(y:Zx)(hy:(VG c' (RM c qs))[h]?=Ϥ):FV M0 y (ldV c t R '.' ('.'.idxOf ('*'.getD h ""))):=by have e:=zaM (N:='.') (g:='.'.idxOf ('*'.getD h "")) H.ct H.deal;simp only[VG,bo,jc] at hy;obtain⟨x,hx,rfl⟩:=hy;(have ex:'*'.getD h ""=x:=by rw[bC,hx];rfl);rw[ex] at e ⊢;rw[ku (sub x Nw)] at e;exact e
theorem Ei (E:NAP.Em ae m e r){F X Y:Nat->Int}:(∃h<ae,0<F h/\X h=Y (e h))↔∃g<m,0<(if r g<ae then F (r g)else 0)/\(if r g<ae then X (r g)else 0)=Y g:=by constructor;rintro⟨h,hh,z,e⟩;have u:=E.up h hh;exact#[_,u.1,by rw[u.2,P8 hh];exact z,by rw[u.2,P8 hh];exact e];rintro⟨g,hg,z,e⟩;split at z;rename_i l;rw[P8 l] at e;exact#[_,l,z,by rw[E.dn g hg l];exact e];trivial
theorem Ej (H:Vz c t R qs)(K:CT c' t')(hp:∀x∈'*',x∈'0'->x∈'#')(ht:∀a w ns,(a,(w,ns))∈t->∃w',(a,(w',ns))∈t'/\w<=w'):NAP.Up '.'.length (Uh c t).length (Uh c' t').length (λi g=>rn '.' '#' g<'#'.length/\rn '.' '#' g∈(Uh c t).getD i []) (λi g=>rn '.' '*' g<'*'.length/\rn '.' '*' g∈(Uh c' t').getD i []) (λi=>(VQ c t).getD i 0*M0) (λi=>(VQ c' t').getD i 0*M0) (λi g=>if rn '.' '#' g<'#'.length then Yt (Uh c t) R i (rn '.' '#' g)else 0) (fN '#' '*' t t') (λg=>decide ('.'.getD g ""∈'*')):=by have sub:∀{q x},q∈t->x∈q.2.2->x∈'0':=λ{q x} hq hx=>(H.ct.sub q hq).subset hx;refine#[λi hi=>?_,Eg H.ct.ndt K.ndt];rintro⟨g,hg,pg,z⟩;have hq:=aJ (hV▸hi);generalize[ϕ,t][i]'(hV▸hi)=q at hq;obtain⟨s,hs,sl,so⟩:=oz H.deal hq;have qt:=(kM La).1;rw[rD H.ct hq hs sl so,rF so (oy (H.ct.qnd hq))] at z;obtain⟨w',m',le⟩:=ht q.1 q.2.1 q.2.2 qt;have dm:=rE z;have e:=rH K.ndt hq (Ed m' (WU.mpr #[(bY.mp dm).1,Qa pg])) rfl;refine#[by rw[hV];exact '<'.1,?_,λg hg=>?_];rw[mw hq,mw e];exact oZ le (cE fm);rw[va e,va hq];have sb:=sub (x:='.'.getD g "") qt;simp only[S4,bY,decide_eq_true_eq];simp_all
theorem vb (H:Vz c t R qs)(K:CT c' t')(cn:∀x∈'0',x∈'.')(hp:∀x∈'*',x∈'0'->x∈'#') (ht:∀a w ns,(a,(w,ns))∈t->∃w',(a,(w',ns))∈t'/\w<=w'/\(w=w'↔to≠lT)):Fit (VQ c' t') (Uh c' t') '*'.length (Tw c' t' (Xk c t R) to) (VG c' (RM c qs)):=by have O:=Ec (to:=to) H K;have nN:=K.ndc;have np:=Me;have np':=jH K.ndc;have EA:=rB nN np λx hx=>cn x (jI hx);have EB:=rB nN np' λx hx=>jI hx;refine#[O,λR1 q1 d=>DC d O (NAP.Xm.res ?_ EB)];refine((oq H.deal).emb EA).mix_up ((oq d).emb EB) (f:=fN '#' '*' t t') (pl:=λg=>decide ('.'.getD g ""∈'*')) (Ej H K hp λa w ns m=>(ht a w ns m).imp λ_ z=>#[z.1,z.2.1]) (λj hj z=>?_) (λk hk a b=>?_) (λj hj=>(D8 d O _ (Eh H (λx=>jI) nN) j hj).trans (and_congr_right λ_=>Ei EB));obtain⟨o,ho⟩:=uj.mp z;have hq:=aJ (hV▸hj);generalize[Z4,t'][j]'(hV▸hj)=q' at hq;rw[show(Tw c' t' (Xk c t R) to).getD j ng=Tc '*' (Xk c t R) to q' by simp[Tw,hq]] at ho;obtain⟨r,_,hr,sb,os⟩:=D7 K hq ho;obtain⟨k,q,s,h1,h2,h3,rfl⟩:=yr H hr;obtain⟨s',e',sl,so⟩:=oz H.deal h1;cases h3.symm.trans e';refine#[k,by rw[hV];exact 'S'.1,yu K.ndt (rH K.ndt h1 La h2.symm) hq rfl,λg hg=>#[(os g).trans (rD H.ct h1 h3 sl so).symm,λz=>?_]];rw[os g,rF so (oy (H.ct.qnd h1))] at z;exact P9 (jn _ (sb _ z));have hq:=aJ (hV▸hk);generalize[ϕ,t][k]'(hV▸hk)=q at hq;obtain⟨s,hs,sl,so⟩:=oz H.deal hq;have qt:=(kM La).1;obtain⟨q',fO,e⟩:=yt K.ndt hq (hV▸a);obtain⟨w',m',le,iff⟩:=ht q.1 q.2.1 q.2.2 qt;have l1:=hU K.ndt (kM (aG fO)).1;have eq':q'=(q.1,(w',q.2.2)):=Prod.ext e (c8 (l1.symm.trans ((congrArg (Sr · t') e).trans (hU K.ndt m'))));rw[show(Tw c' t' (Xk c t R) to).getD (fN '#' '*' t t' k) ng=Tc '*' (Xk c t R) to q' by simp[Tw,fO]] at b;rw[mw hq,mw fO];by_cases z:to=se q.1;refine .inl λy=>?_;have:=DD y;rw[eq'] at this;exact iff.mp this z;right;unfold Tc at b;rw[e,ZK,D9 H hq hs] at b;(have b:∃x∈Qq (Wq '#' (q,s)),x∉S4 '*' q':=by by_cases y:((Qq (Wq '#' (q,s))).any λx=>[Ϫ,x,S4 '*' q'])=tj;simpa using y;dsimp only at b;rw[P7 y] at b;cases b);obtain⟨x,hx,nx⟩:=b;have dx:=rE hx;have xN:=cn x (jI (jn x dx));refine#['.'.idxOf x,fH xN,?_,?_];rw[rD H.ct hq hs sl so,rF so (oy (H.ct.qnd hq)),ku xN];exact hx;rw[ku xN];refine Qb λm=>nx ?_;rw[eq'];exact WU.mpr #[(bY.mp dx).1,m]
theorem yv (H:Vz c t R qs)(K:CT c' t')(cn:∀x∈'0',x∈'.')(hp:∀x∈'#',x∈'*') (ht:∀a w ns,(a,(w,ns))∈t'->∃w',(a,(w',ns))∈t/\w<=w'/\(w=w'↔to≠lT)):Fit (VQ c' t') (Uh c' t') '*'.length (Tw c' t' (Xk c t R) to) (VG c' (RM c qs)):=by have O:=Ec (to:=to) H K;have nN:=K.ndc;have EB:=rB nN (jH K.ndc) λx hx=>jI hx;refine#[O,λR1 q1 d=>DC d O (NAP.Xm.res ?_ EB)];(have go:∀{i g},i<(Uh c' t').length->'.'.getD g ""∈'#'->0<(if rn '.' '*' g<'*'.length then Yt (Uh c' t') R1 i (rn '.' '*' g)else 0)->∃q w',[Z4,t'][i]?=Ϝ/\q.2.1<=w'/\(q.2.1=w'↔to≠se q.1)/\[ϕ,t][fN '*' '#' t' t i]?=se (q.1,(w',q.2.2)):=λ{i g} hi pg z=>by have hq:=aJ (hV▸hi);generalize[Z4,t'][i]'(hV▸hi)=q at hq;obtain⟨s,hs,sl,so⟩:=oz d hq;rw[rD K hq hs sl so,rF so (oy (K.qnd hq))] at z;obtain⟨w',m',le,iff⟩:=ht q.1 q.2.1 q.2.2 (kM La).1;exact#[q,w',hq,le,iff,rH H.ct.ndt hq (Ed m' (WU.mpr #[(bY.mp (rE z)).1,pg])) rfl]);refine((oq d).emb EB).mix_down ((oq H.deal).emb (rB nN Me λx hx=>cn x (jI hx))) (f:=fN '*' '#' t' t) (pl:=λg=>decide ('.'.getD g ""∈'#')) #[λi hi=>?_,Eg K.ndt H.ct.ndt] (λj hj z=>?_) (λi hi b=>?_) (λj hj=>(D8 d O _ (Eh H (λx=>jI) nN) j hj).trans (and_congr_right λ_=>Ei EB));rintro⟨g,hg,pg,z⟩;obtain⟨q,w',hq,le,_,e⟩:=go hi (Qa pg) z;refine#[by rw[hV];exact '<'.1,?_,λg hg=>?_];rw[mw hq,mw e];exact oZ le (cE fm);rw[va e,va hq];simp only[S4,bY,decide_eq_true_eq];simp_all;obtain⟨o,ho⟩:=uj.mp z;have hq:=aJ (hV▸hj);generalize[Z4,t'][j]'(hV▸hj)=q' at hq;rw[show(Tw c' t' (Xk c t R) to).getD j ng=Tc '*' (Xk c t R) to q' by simp[Tw,hq]] at ho;obtain⟨r,_,hr,sb,os⟩:=D7 K hq ho;obtain⟨k,q,s,h1,h2,h3,rfl⟩:=yr H hr;obtain⟨s',e',sl,so⟩:=oz H.deal h1;cases h3.symm.trans e';have e:=rH H.ct.ndt hq (aG h1) h2;cases yu H.ct.ndt h1 e rfl;refine#[by rw[hV];exact '<'.1,λg hg=>#[(os g).trans (rD H.ct h1 h3 sl so).symm,λz=>?_]];rw[os g,rF so (oy (H.ct.qnd h1))] at z;exact P9 (jn _ (rE z));rintro⟨g,hg,pg,z⟩;obtain⟨q,w',hq,le,iff,e⟩:=go hi (Qa pg) z;obtain⟨s,hs,sl,so⟩:=oz H.deal e;rw[show(Tw c' t' (Xk c t R) to).getD i ng=Tc '*' (Xk c t R) to q by simp[Tw,hq]] at b;rw[mw hq,mw e];intro y;unfold Tc at b;rw[P7 (iff.mp (DD y)),D9 H e hs] at b;dsimp only at b;rw[P7] at b;cases b;simp only[ia,decide_eq_true_eq,not_exists,not_and,Classical.not_not];intro x hx;have:=rE hx;exact WU.mpr #[(bY.mp this).1,hp x (jn x this)]
end
section
variable {h:TH}{c c':bz}{t t':a9}{ns:Χ}{R:Zr}{qs:Zt}{q:Qi×(Int× Χ)}{x ch:Qi}{to:Jw}{w:Int}{i:Nat}
theorem yw (cl:Ϣ)(H:Vz c t R qs)(eh:h[i]?=[Ϟ,2,RJ c t R qs])(K:CT c' t')(ht:∀y,to=Ϥ->Yn y)(F:Fit (VQ c' t') (Uh c' t') '*'.length (Tw c' t' (Xk c t R) to) (VG c' (RM c qs))) :∃R' cg,RL [.at i,VU .bl c',VU tkD t',Yj to] h=.ok (.lst ((WV (RM c qs) (RM c' cg)).map Ya)) [ϧ,.mi 2 (RJ c' t' R' cg)]/\Vz c' t' R' cg:=by(have nl:∀c t,CT c t->∀q∈t,q.2.2.length<=40/\q.2.2.Nodup:=λc t K q hq=>by have s:=K.sub q hq;have a:=s.length_le;have b:=K.lc;unfold Qq at a;rw[a8] at a;exact#[by lia,s.nodup K.ndc]);obtain⟨R1,q1,e,d⟩:=Lu cl eh K.ndc K.ndt (by have:=K.lc;lia) (by have:=K.lt;lia) (nl c' t' K) K.nt ht (λx r hr=>by obtain⟨y,hy,e⟩:=aO.mp (hO hr);cases e;refine b9 (gy _ _) ?_;have:=(nl c t H.ct y.1 (kM (cx hy).1).1).1;grind[gy,Qj,S4]) K.asks K.p12 K.rows F;exact#[_,q1,e,K,DT d (F.mix R1 q1 d)]
noncomputable def Sm (ch:Qi) (w:Int) (q:Qi×(Int× Χ)):Qi×(Int× Χ):=if q.1=ch then(q.1,(w,q.2.2))else q
theorem LK (nd:'b'.Nodup)(e:Sr ch t=se (w,ns)):putS ch (w',ns) t=[Z3,ch,w']:=by induction t with| nil=>cases e| cons y t ih =>have f8:=eA.mp nd;rw[pU,bA];rw[fJ] at e;by_cases z:y.1=ch;(have:t.map (Sm ch w')=t:=by refine(cq λq hq=>?_).trans (nJ _);unfold Sm;grind);rw[this];unfold Sm;simp_all;rw[P7 z] at e ⊢;rw[ih f8.2 e];unfold Sm;rw[P7 z]
theorem Xq:(Sm ch w' q).1=q.1/\(Sm ch w' q).2.2=q.2.2:=by unfold Sm;lia
theorem zbr (H:Vz c t R qs)(K:CT (c++[(x,tj)]) t):Fit (VQ (c++[(x,tj)]) t) (Uh (c++[(x,tj)]) t) (Qj (c++[(x,tj)])).length (Tw (c++[(x,tj)]) t (Xk c t R) ng) (VG (c++[(x,tj)]) (RM c qs)):=by(have nx:=λz=>by have:=K.ndc;simp only[Qq,cP,kD] at this;exact this.2.2 x z x (by simp) rfl);refine vb H K (λy hy=>by simp only[Qq,cP] at hy ⊢;exact c9 _ hy) (λy hy hc=>?_) λa w ns h=>#[w,h,ϳ,by simp];(have e:Qj (c++[(x,tj)])='#'++[x]:=by unfold Qj Qq;rw[qE,cP];rfl);rw[e] at hy;rcases dE.mp hy with z | z;exact z;exact absurd (NB▸hc) nx
theorem zdC (H:Vz c t R qs)(K:CT c (t++[(ch,(w,ns))]))(nw:ch∉'b'):Fit (VQ c (t++[(ch,(w,ns))])) (Uh c (t++[(ch,(w,ns))])) '#'.length (Tw c (t++[(ch,(w,ns))]) (Xk c t R) (se ch)) (VG c (RM c qs)) :=vb H K (λ_ h=>h) (λ_ h _=>h) λa v ms h=>#[v,c9 _ h,ϳ,by simp only[true_iff];intro e;cases e;exact nw (Ef h)]
theorem LO (H:Vz c t R qs)(K:CT c (Wc ch t)):Fit (VQ c (Wc ch t)) (Uh c (Wc ch t)) '#'.length (Tw c (Wc ch t) (Xk c t R) (se ch)) (VG c (RM c qs)) :=yv H K (λ_ h=>h) (λ_ h=>h) λa v ms h=>by obtain⟨h1,h2⟩:=bY.mp h;exact#[v,h1,ϳ,λ_ e=>Qa h2 (c8 e).symm,λ_=>rfl]
theorem zdv (H:Vz c t R qs)(K:CT c [Z3,ch,w'])(e:Sr ch t=se (w,ns))(ne:w'≠w):Fit (VQ c [Z3,ch,w']) (Uh c [Z3,ch,w']) '#'.length (Tw c [Z3,ch,w'] (Xk c t R) (se ch)) (VG c (RM c qs)):=by have wk:∀{v ms},(ch,(v,ms))∈t->v=w:=λh=>congrArg Prod.fst (c8 ((hU H.ct.ndt h).symm.trans e));by_cases le:w<=w';refine vb H K (λ_ h=>h) (λ_ h _=>h) λa v ms h=>?_;by_cases z:a=ch;subst z;exact#[w',aO.mpr #[_,h,by simp[Sm]],by rw[wk h];exact le,by simp[wk h,Ne.symm ne]];exact#[v,aO.mpr #[_,h,by simp[Sm,z]],ϳ,by simp[Ne.symm z]];refine yv H K (λ_ h=>h) (λ_ h=>h) λa v ms h=>?_;obtain⟨⟨b,u,ns'⟩,hb,eb⟩:=NH;unfold Sm at eb;by_cases z:b=ch;subst z;rw[Cx] at eb;cases eb;exact#[u,hb,by rw[wk hb];lia,by simp[wk hb,ne]];rw[ZK] at eb;cases eb;exact#[v,hb,ϳ,by simp[Ne.symm z]]
theorem vc (nd:'0'.Nodup):x∈'#'↔Sr x c=JM:=by constructor;intro h;obtain⟨y,hy,rfl⟩:=NH;grind[hU];intro h;exact aO.mpr #[_,bY.mpr #[hO h,rfl],rfl]
theorem zbt (H:Vz c t R qs)(K:CT (putS x b c) t)(e:Sr x c=se (! b)):Fit (VQ (putS x b c) t) (Uh (putS x b c) t) (Qj (putS x b c)).length (Tw (putS x b c) t (Xk c t R) ng) (VG (putS x b c) (RM c qs)):=by have en:Qq (putS x b c)='0':=ye (aO.mpr #[_,hO e,rfl]);have hl:∀{y},Sr y (putS x b c)=if x=y then se b else Sr y c:=DV;cases b with| false =>refine vb H K (λ_ h=>en▸h) (λy hy _=>?_) λa w ns h=>#[w,h,ϳ,by simp];rw[vc K.ndc,hl] at hy;rw[vc H.ct.ndc];lia| true =>refine yv H K (λ_ h=>en▸h) (λy hy=>?_) λa w ns h=>#[w,h,ϳ,by simp];rw[vc H.ct.ndc] at hy;rw[vc K.ndc,hl];simp_all
end
structure Xp (x:Qi):Prop where
 l1:1<=x.cps.toList.length
 l12:x.cps.toList.length<=12
 az:∀c∈x.cps.toList,97<=c/\c<=122
theorem Xp.ok (h:Xp x):Yn x:=by show(bZ tj (λc _ r=>bq c 1114112&&r) x.cps.toList)=tj;rw[B4,i9];intro c hc;have:=(h.az c hc).2;lia
section
variable {h h':TH}{c:bz}{t:a9}{R:Zr}{qs:Zt}{x ch:Qi}{i:Nat}{ρ:Rb}{fa fb fc:RE}{fg:RG}{nx:Nx}
theorem Ek {l:XK}(hx:∀i,i<=l.length->nx h i=se ('K'[i]?))(hs:∀a∈l,∃ ρ1,fg (g a) ρ=ZR/\fa ρ1 h=.ok (v a) h) :∀m i,i<=l.length->l.length<i+m->Ye nx fg Rf fa ρ m i h=.ok ((l.drop i).map v) h| 0,i,h1,h2=>absurd h2 (by simp[*])| m+1,i,h1,h2=>by rw[pI,hx i h1,bo];by_cases lt:i<l.length;obtain⟨ρ1,q1,q3⟩:=hs l[i] (kh lt);rw[aJ lt,qz lt];show QL (fg (g l[i]) ρ) _=_;rw[q1];show[J9,(fa ρ1 h).nox]=_;rw[q3];show[J9,Ye nx fg Rf fa ρ m (i+1) h]=_;rw[Ek hx hs m (i+1) lt Pf];rfl;simp_all
theorem El {l:XK}(he:fi ρ h=[ν,nx])(hx:∀i,i<=l.length->nx h' i=se ('K'[i]?))(hl:l.length<1000)(hs:∀a∈l,∃ ρ1,fg (g a) (be n ng++Yp ρ fr)=ZR/\fa ρ1 h'=[ν,v a]) :TV N b fi n fr fg Rf fa ρ h=mk b (l.map v) h':=by show VS b fi n fr fg Rf fa ρ h=_;unfold VS;rw[he];show[J9,Ye nx fg Rf fa _ 1000 0 h']=_;rw[Ek hx hs 1000 0 (jb _) (by assumption)];rfl
theorem zdZ (i:Nat)(hi:i<=x.cps.toList.length):nStr x h i=se ((x.cps.toList.map λc=>D.str #[#[[c]]])[i]?):=by show(bif cf i MG then se (TZ (eg x.cps.toList i) λc=>D.str #[#[[c]]])else ng)=_;rw[aR,eE.mpr hi,aW,bo];cases x.cps.toList[i]?<;>rfl
theorem Eo (z1:fa ρ h=.ok a h)(z2:fb ρ h=.ok b h)(z3:g a b h=.ok TE h)(z4:fc ρ h=.ok u h)(z5:g' b u h=r):XG g g' fa fb fc ρ h=r:=by grind[XG,RX.R.bnd]
theorem Ep (z1:fa ρ h=.ok TE h)(z2:fb ρ h=r):Uv fa fb ρ h=r:=by unfold Uv;rwa [z1]
theorem Er (oT:a<=b):gLe (.str #[#[[a]]]) (.str #[#[[b]]]) h=.ok TE h:=by show RX.R.ok (D.bl (! nLt [b] [a])) h=_;(have:nLt [b] [a]=ff:=by show(bq b a||(bJ b a&&ff))=ff;rw[zJ,vM];exact gj.mpr λz=>by have:=Mo;exact NAG.gl0 this oT);rw[this];rfl
theorem zdw (k:Xp x):Wl [ϋ] h=.ok TE h:=by have l12:=k.l12;have l1:=k.l1;(have le:Rp [ϋ] h=.ok (.int x.cps.toList.length) h:=by show Q3 [K7,MG] (RX.R.ok [H7,MG] h)=_;rw[aR,eE.mpr (by lia)];rfl);(have a3:XT YU [.lst (x.cps.toList.map λ_=>D.bl tj)] h=.ok TE h:=by have e1:QJ dBl (x.cps.toList.map λ_=>D.bl tj)=se (x.cps.toList.map λ_=>tj):=kL λ_ _=>rfl;show QL (QJ dBl (x.cps.toList.map λ_=>D.bl tj)) _=_;rw[e1];(have:∀l:Zw,YU (l.map λ_=>tj)=tj:=λl=>by induction l with| nil=>rfl| cons a l ih=>show(tj&&YU (l.map λ_=>tj))=tj;rw[ih];rfl);show RX.R.ok (D.bl (YU (x.cps.toList.map λ_=>tj))) h=_;rw[this]);exact pJ rfl (jk (Ep rfl (Ep (Eo rfl [ψ,le] (by grind[le_int,P9]) rfl (by grind[le_int,P9])) (aK [Ω,El rfl (λi hi=>zdZ i hi) (NAG.gl33 l12) λc hc=>#[[se (.str #[#[[c]]])],rfl,Eo rfl rfl (Er (k.az c hc).1) rfl (Er (k.az c hc).2)]] a3)))) rfl
theorem Es (k:Xp x):U8 [ϋ] h=.ok .non h:=by refine xF (ρ':=[O7]) rfl ?_ LQ;refine(g8 ?_).trans rfl;unfold Xa;rw[show Qy (Q4 Wl (Qc ζ Qg)) (Vj [ϋ] 0) h=_ from aQ [ψ,zdw k]];rfl
section
variable (eh:h[i]?=[Ϟ,2,RJ c t R qs])
include eh
theorem vd (hx:x∈'0'):Rv [.at i,ϋ] h=.ok .non h:=by have a1:=aQ (aD (o:=NN) (fa:=ε) (fb:=[ϑ,2,0]) (ρ:=[se (.at i),O7]) rfl [ξ,eh,rfl] YM);rw[P9 hx] at a1;exact xF rfl ((g8 a1).trans rfl) LQ
theorem Et (hx:ch∈'b'):Sv [.at i,Ik] h=.ok .non h:=by have a1:=aQ (aD (o:=NN) (fa:=ε) (fb:=[ϑ,2,1]) (ρ:=[se (.at i),se Ik]) rfl [ξ,eh,rfl] YM);rw[P9 hx] at a1;exact xF rfl ((g8 a1).trans rfl) LQ
theorem Y5 (z1:ρ[0]?=se (se (.at i)))(z3:fA ρ h=.ok xs h)(z4:ev (.at i::xs) h=r):Qo 2 ev ζ fA ρ h=r:=by refine bh ?_ eh z3 z4;grind[rV,aW]
theorem Eu:Uf [.at i] h=.ok (.lst ('0'.map .str)) h:=pJ rfl (jk (aK [Ω,[ξ,eh,rfl]] KZ)) rfl
end
end
section
variable {h:TH}{c c':bz}{t t':a9}{ns:Χ}{R:Zr}{qs:Zt}{q:Qi×(Int× Χ)}{x ch:Qi}{w:Int}{i:Nat}{ρ:Rb}{fa fb:RE}{b:Bool}
noncomputable def YC (a b:Row):D:=.lst ((WV a b).map Ya)
theorem LU {a b:Row}:cd n 9 (YC a b):=λd hd=>by obtain⟨x,_,rfl⟩:=lP;intro d hd;rcases ZQ with rfl | hd;trivial;rcases ZQ with rfl | hd;exact jF;rcases ZQ with rfl | hd;exact jF;cases hd
theorem pW:ct n (.mi 2 (RJ c t R qs)):=ym
def iF (ev:tv)(h:TH)(i:Nat)(c:bz)(qs:Zt)(c':bz)(t':a9):Prop:=∃R' cg,ev=.ok (YC (RM c qs) (RM c' cg)) [ϧ,.mi 2 (RJ c' t' R' cg)]/\Vz c' t' R' cg
theorem yx {a b:Row}(cl:Ϣ)(il:i<h.length):[Yv,YC a b,(h++[o]).set i (.mi 2 (RJ c' t' R' q'))]=.ok (YC a b) [ϧ,.mi 2 (RJ c' t' R' q')]:=by have:=pK (h:=[ϧ,.mi 2 (RJ c' t' R' q')]) (t:=[o]) (v:=YC a b) (cl.set pW) LU;simp_all
theorem yz:mkD tj ks ds h=.ok (.at h.length) (h++[.md ks ds]):=by show[J8,D.at Gl,h,.md ks ds]=_;rw[gF,gG]
variable (cl:Ϣ)(H:Vz c t R qs)(eh:h[i]?=[Ϟ,2,RJ c t R qs])
include cl H eh
theorem Ew (K:CT (putS x b c) t)(F:Fit (VQ (putS x b c) t) (Uh (putS x b c) t) (Qj (putS x b c)).length (Tw (putS x b c) t (Xk c t R) ng) (VG (putS x b c) (RM c qs))):iF (SK [.at i,ϋ,.bl b] h) h i c qs (putS x b c) t:=by have lc:=H.ct.lc;have e2:(h++[.no])[i]?=[Ϟ,2,RJ c t R qs]:=g9 eh;obtain⟨R',cg,a4,H'⟩:=yw (cl.app (o:=TM.no) trivial) H e2 K (λy e=>by cases e) F;exact#[R',cg,[ώ,sA (aK [Ω,[ξ,eh,rfl]] (YT.trans yz)) (sGe (u6 (yj rfl rfl rfl fW H.ct.ndc (by lia)) rfl (by simp)) Τ (sR [ϊ,e2,[Ϙ,[Ω,[ξ,e2,rfl]]],a4] (yx cl 'F'.1)))],H']
theorem Ex (qh:Yn ch)(K:CT c (putS ch (w,ns) t))(F:Fit (VQ c (putS ch (w,ns) t)) (Uh c (putS ch (w,ns) t)) '#'.length (Tw c (putS ch (w,ns) t) (Xk c t R) (se ch)) (VG c (RM c qs))):iF (SJ [.at i,Ik,He,.lst Hj] h) h i c qs c (putS ch (w,ns) t):=by have lt:=H.ct.lt;have e2:(h++[.no])[i]?=[Ϟ,2,RJ c t R qs]:=g9 eh;obtain⟨R',cg,a4,H'⟩:=yw (cl.app (o:=TM.no) trivial) H e2 K (λy e=>by lia) F;exact#[R',cg,[ώ,sA (aK [Ω,[ξ,eh,rfl]] (YT.trans yz)) (sGe (u6 (yj (a:=(w,ns)) rfl rfl rfl fW H.ct.ndt (NAG.gl15 lt)) rfl (by simp)) Τ (sR [ϊ,e2,[Ω,[ξ,e2,rfl]],a4] (yx cl 'F'.1)))],H']
theorem Ey:CT c (Wc ch t):=by have K:=H.ct;have s:(Wc ch t).Sublist t:=iL;exact#[K.ndc,(s.map _).nodup K.ndt,K.lc,b9 s.length_le K.lt,λq hq=>K.nt q Ml,λq hq=>K.pos q Ml,λq hq=>K.bd q Ml,λq hq=>K.sub q Ml]
theorem zao (z1:fa ρ g=.ok (.at j) g)(z2:fb ρ g=.ok Ik g)(e:g[j]?=se (.md '%' (Ui f l)))(hk:Sr ch l=lT):Y4 fa fb ρ g=.ok (f a) (g.set j (.md (Ss (Wc ch l)) (Ui f (Wc ch l)))):=by unfold Y4;rw[z1];show Q3 (Yg (.at j) g) _=_;rw[(pV e).2];rw[z2];show QL (Xg g (.at j)) _=_;rw[(pV e).1];show QL (lk (.inr ch) '%' (Ui f l)) _=_;rw[u0,hk];show RX.R.ok (f a) (hs g j (.md (US (.inr ch) '%') (Ur (.inr ch) '%' (Ui f l))))=_;rw[iD,KU,KV]
theorem Ez (hc:Sr ch t=se (w,ns)):iF (Sy [.at i,Ik] h) h i c qs c (Wc ch t):=by have e2:(h++[.no])[i]?=[Ϟ,2,RJ c t R qs]:=g9 eh;obtain⟨R',cg,a4,H'⟩:=yw (cl.app (o:=TM.no) trivial) H e2 (Ey cl H eh) (λy e=>by cases e;exact H.ct.nt _ (hO hc)) (LO H (Ey cl H eh));exact#[R',cg,[ώ,sD (Y5 eh rfl rfl (Et eh (aO.mpr #[_,hO hc,rfl]))) (sA (aK [Ω,[ξ,eh,rfl]] (YT.trans yz)) (sGe (u6 (cR (zao cl H eh rfl rfl fW hc)) rfl (by simp)) Τ (sR [ϊ,e2,[Ω,[ξ,e2,rfl]],a4] (yx cl 'F'.1))))],H']
end
section
variable {h:TH}{c c':bz}{t t':a9}{ns:Χ}{R:Zr}{qs:Zt}{q:Qi×(Int× Χ)}{x ch:Qi}{w:Int}{i:Nat}{ρ:Rb}{fa:RE}{b:Bool}
theorem LW:∀(ks acc:List Qi),(acc++ks).Nodup->ks.foldl (λacc k=>if k∈acc then acc else acc++[k]) acc=acc++ks:=by intro ks;induction ks with| nil =>rintro acc _;simp_all| cons k ks ih =>rintro acc nd;rw[pj,P7 λz=>(kD.mp nd).2.2 k z k (.head _) rfl,ih (acc ++ [k]) (by simp_all),gb];rfl
theorem LX (z:fa ρ h=.ok (.lst Hj) h)(nd:ns.Nodup)(hl:ns.length<=1000):rLs fa ρ h=.ok (.int ns.length) h:=by(have e1:=by have:=kL (f:=YR) (g:=D.str) (l:=ns) λ_ _=>rfl;rwa [wH] at this);unfold rLs;rw[z];show QL (QJ YR (ns.map D.str)) _=_;rw[e1];show Q3 (! QY (.lst (ns.map D.str))&&cf (Rx ns) 1000) (RX.R.ok [H7,Rx (Yy ns [])] h)=_;rw[aR,IQ,Cf,LW ns [] nd,aR];rfl
theorem EC (K:CT c t)(hx:x∉'0')(l12:c.length+1<=12):CT (c++[(x,b)]) t:=by(have e:Qq (c++[(x,b)])='0'++[x]:=by unfold Qq;rw[cP];rfl);refine#[by rw[e];exact kD.mpr #[K.ndc,by simp,λa ha b hb z=>hx Τ],K.ndt,by rwa [eU],K.lt,K.nt,K.pos,K.bd,λq hq=>by rw[e];exact(K.sub q hq).trans (List.sublist_append_left _ _)]
theorem ED (K:CT c t)(k:Yn ch)(nw:ch∉'b')(w1:1<=w)(bd:Bd 300 w)(lt:t.length+1<=20)(s:ns.Sublist '0'):CT c (t++[(ch,(w,ns))]):=by(have e:Qq (t++[(ch,(w,ns))])='b'++[ch]:=by unfold Qq;rw[cP];rfl);(have m:∀{P:Qi×(Int×List Qi)->Prop},(∀q∈t,P q)->P (ch,(w,ns))->∀q∈t++[(ch,(w,ns))],P q:=λa b q hq=>(dE.mp hq).elim (a q) λz=>by rwa [NB]);exact#[K.ndc,by rw[e];exact kD.mpr #[K.ndt,by simp,λa ha b hb z=>nw (by rw[cT.mp hb] at z;exact z▸ha)],K.lc,by rwa [eU],m K.nt k,m K.pos w1,m K.bd bd,m K.sub s]
theorem EE (K:CT c t)(w1:1<=w')(bd:Bd 300 w'):CT c [Z3,ch,w']:=by(have e:Qq [Z3,ch,w']='b':=by grind[Qq,cj,cq,Xq]);(have m:∀{P:Qi×(Int×List Qi)->Prop},(∀q∈t,P (Sm ch w' q))->∀q∈[Z3,ch,w'],P q:=λa q hq=>by grind);(have wk:∀q,(Sm ch w' q).2.1=w'\/(Sm ch w' q).2.1=q.2.1:=λq=>by unfold Sm;lia);exact#[K.ndc,by rw[e];exact K.ndt,K.lc,by rw[a8];exact K.lt,m λq hq=>by rw[Xq.1];exact K.nt q hq,m λq hq=>(wk q).elim (λz=>Τ) λz=>by rw[z];exact K.pos q hq,m λq hq=>(wk q).elim (λz=>Τ) λz=>by rw[z];exact K.bd q hq,m λq hq=>by rw[Xq.2];exact K.sub q hq]
variable (cl:Ϣ)(H:Vz c t R qs)(eh:h[i]?=[Ϟ,2,RJ c t R qs])
include cl H eh
theorem mB {a b:Row}:[Yv,YC a b,[ϧ,.mi 2 (RJ c' t' R' q')]]=.ok (YC a b) [ϧ,.mi 2 (RJ c' t' R' q')]:=bH (by rw[eD])
theorem LY (k:Xp x)(hx:x∉'0')(l12:c.length+1<=12):iF (S9 [.at i,ϋ] h) h i c qs (c++[(x,tj)]) t:=by have e:=yf (a:=tj) hx;obtain⟨R',cg,a3,H'⟩:=Ew cl H eh (by rw[e];exact EC H.ct hx l12) (by rw[e];exact zbr H (EC H.ct hx l12));rw[e] at a3 H';exact#[R',cg,[ώ,sD [ψ,Es k] (sF (aQ (aD rfl [ξ,eh,rfl] (YM.trans Τ))) (sF (aQ [Ψ,aK [Ω,[ξ,eh,rfl]] DI,ge_int.trans (by grind)]) (sR (Y5 eh rfl rfl a3) (mB cl H eh))))],H']
theorem EF (e:Sr x c=se (! b)):iF (Uy [.at i,ϋ,.bl b] h) h i c qs (putS x b c) t:=by have mx:x∈'0':=aO.mpr #[_,hO e,rfl];(have K:CT (putS x b c) t:=by have K:=H.ct;have en:Qq (putS x b c)='0':=ye mx;(have el:=by have:=congrArg qH en;unfold Qq at this;rwa [a8,a8] at this);exact#[by rw[en];exact K.ndc,K.ndt,by rw[el];exact K.lc,K.lt,K.nt,K.pos,K.bd,λq hq=>by rw[en];exact K.sub q hq]);obtain⟨R',cg,a3,H'⟩:=Ew cl H eh K (zbt H K e);exact#[R',cg,[ώ,sD (Y5 eh rfl rfl (vd eh mx)) (sF (aQ [Ψ,jG [ξ,eh,rfl] rfl e,show _=RX.R.ok (D.bl ff) h by cases b<;>rfl]) (sR (Y5 eh rfl rfl a3) (mB cl H eh)))],H']
theorem yA (e:Sr x c=JM):iF (Q7 [.at i,ϋ] h) h i c qs (putS x ff c) t:=by obtain⟨R',cg,a3,H'⟩:=EF (b:=ff) cl H eh e;exact#[R',cg,rj rfl (jk (Y5 eh rfl rfl a3)) (mB cl H eh),H']
theorem EG (e:Sr x c=Jh):iF (Ry [.at i,ϋ] h) h i c qs (putS x tj c) t:=by obtain⟨R',cg,a3,H'⟩:=EF (b:=tj) cl H eh e;exact#[R',cg,rj rfl (jk (Y5 eh rfl rfl a3)) (mB cl H eh),H']
theorem EH {d sg:Int}(e:Sr ch t=se (w,ns))(d1:1<=d)(w1:1<=w+sg*d)(bd:Bd 300 (w+sg*d))(bd1:Bd 4096 sg)(lB:Bd 4096 d)(ne:w+sg*d≠w):iF (Uz [.at i,Ik,Jr,.int sg] h) h i c qs c [Z3,ch,w+sg*d]:=by have ep:=LK (w':=w+sg*d) H.ct.ndt e;obtain⟨R',cg,a3,H'⟩:=Ex cl H eh (H.ct.nt _ (hO e)) (by rw[ep];exact EE H.ct w1 bd) (by rw[ep];exact zdv H (EE H.ct w1 bd) e ne);rw[ep] at a3 H';exact#[R',cg,[ώ,sD (Y5 eh rfl rfl (Et eh (aO.mpr #[_,hO e,rfl]))) (sA (jG [ξ,eh,rfl] rfl e) (sA [I9,rfl,[Ψ,rfl,oj bd1 lB]] (sF ((n9 (aQ [Ψ,rfl,lt_int.trans (by rw[Qb Τ])])).trans (aQ [Ψ,rfl,lt_int.trans Τ])) (sR (Y5 eh rfl rfl a3) (mB cl H eh)))))],H']
end
noncomputable def lod (c:bz) (qs:Zt) (x:Qi):Zx:=(Sr x (RM c qs)).getD (0,1)
section
variable {h:TH}{c:bz}{t:a9}{ns:Χ}{R:Zr}{qs:Zt}{x ch:Qi}{w:Int}{i:Nat}{ρ:Rb}
section
variable (H:Vz c t R qs)(eh:h[i]?=[Ϟ,2,RJ c t R qs])
include H eh
theorem LZ (hx:x∈'0'):VN [.at i,ϋ] h=.ok (Sd (lod c qs x)) h:=by cases e:Sr x (RM c qs)with| none=>exact absurd (by rwa [u7 H.ct.ndc]) (UM.mp e)| some u =>unfold lod;rw[e];exact[ώ,sD (Y5 eh rfl rfl (vd eh hx)) [Ϸ,jG [ξ,eh,rfl] rfl e]]
end
variable (cl:Ϣ)(H:Vz c t R qs)(eh:h[i]?=[Ϟ,2,RJ c t R qs])
include cl H eh
theorem EI:Bd 4096 1/\Bd 4096 (-1):=#[gz (show(1:Int).natAbs<2^1 by decide) (nM (by decide) (by decide)),gz (show(-1).natAbs<2^1 by decide) (nM (by decide) (by decide))]
theorem EJ (e:Sr ch t=se (w,ns))(d1:1<=d)(bd:Bd 300 (w+d))(lB:Bd 4096 d):iF (Sw [.at i,Ik,Jr] h) h i c qs c [Z3,ch,w+d]:=by have w1:=H.ct.pos _ (hO e);have g:=EH cl H eh e d1 (by lia) Τ (EI cl H eh).1 lB (by lia);rw[vS] at g;obtain⟨R',cg,a3,H'⟩:=g;exact#[R',cg,rj rfl (jk (Y5 eh rfl rfl a3)) (mB cl H eh),H']
theorem EK (e:Sr ch t=se (w,ns))(d1:1<=d)(w1:1<=w-d)(bd:Bd 300 (w-d))(lB:Bd 4096 d):iF (Si [.at i,Ik,Jr] h) h i c qs c [Z3,ch,w-d]:=by(have ew:w+-1*d=w-d:=by lia);have g:=EH cl H eh e d1 (by rwa [ew]) (by rwa [ew]) (EI cl H eh).2 lB (by lia);rw[ew] at g;obtain⟨R',cg,a3,H'⟩:=g;exact#[R',cg,rj rfl (jk (Y5 eh rfl rfl a3)) (mB cl H eh),H']
theorem yB (k:Xp ch)(nw:ch∉'b')(w1:1<=w)(bd:Bd 300 w)(ne:ns≠[])(inn:∀y∈ns,y∈'0')(nd:ns.Nodup)(nl:ns.length<=40)(lt:t.length+1<=20):iF (QZ [.at i,Ik,He,.lst Hj] h) h i c qs c (t++[(ch,(w,'0'.filter λy=>decide (y∈ns)))]):=by have cl':=H.ct.lc;have ep:=yf (a:=(w,'0'.filter λy=>decide (y∈ns))) nw;obtain⟨R',cg,a3,H'⟩:=Ex cl H eh k.ok (by rw[ep];exact ED H.ct k.ok nw w1 bd lt iL) (by rw[ep];exact zdC H (ED H.ct k.ok nw w1 bd lt iL) nw);rw[ep] at a3 H';refine#[R',cg,[ώ,sD [ψ,Es k] (sF (aQ (aD rfl [ξ,eh,rfl] (YM.trans (by rw[Qb nw];rfl)))) (sF (aQ [Ψ,rfl,lt_int.trans (by rw[Qb Τ])]) (sF (aQ [Ψ,[ψ,db],eq_int.trans Τ]) (sL (eM (λ_ ρ g=>(∃z,ρ=[se (.at i),se Ik,[ω,w],[π,Hj],z])/\g=h) Og (λi _ _ _=>cU i) (NAG.gl32 nl) #[#[_,rfl],rfl] ?_) ?_))))],H'];rintro k y ρ g hy ⟨⟨z,rfl⟩,rfl⟩;exact#[_,rfl,nE (cR (Y5 eh rfl rfl (vd eh (inn y (aG hy))))) #[#[_,rfl],rfl]];rintro ρ g ⟨⟨z,rfl⟩,rfl⟩;exact sF (aQ (aD (LX rfl nd (NAG.gl31 nl)) [ψ,db] (lt_int.trans Τ))) (sF (aQ [Ψ,aK [Ω,[ξ,eh,rfl]] DI,ge_int.trans (by grind)]) (sR (Y5 eh rfl [Ϙ,[Ϙ,[Ω,cM (yi [ξ,eh,rfl]) ou (NAG.gl33 cl') (λx hx=>#[_,rfl,aQ [Ψ,rfl,Yh],λ_=>rfl]) (by simp[Qq,wz,Function.comp_def])]]] a3) (mB cl H eh)))
end
section
variable {c:bz}{t:a9}{R:Zr}{qs:Zt}{x:Qi}
theorem EL (H:Vz c t R qs)(hx:x∈'#'):qs['#'.idxOf x]?=se (lod c qs x):=by have l:=fH hx;(have e:'#'['#'.idxOf x]?=σ:=by rw[aJ l,tW]);have hu:=getD_at' (show '#'.idxOf x<qs.length by rw[H.deal.len];exact l) (0,1);rw[hu];unfold lod;rw[yo H.ct.ndc e hu]
end
end NAY
namespace NAL.RX
open PySem PySem.Spec PyProof.Rows NAL.EX
noncomputable def leS (a b:Qi):Bool:=! ltCps b.cps.toList a.cps.toList
noncomputable def srt (ks:Χ):Χ:=ks.mergeSort leS
theorem VH:leS a b=tj↔a.cps.toList<=b.cps.toList:=by unfold leS;rw[ltCps_eq,jr,decide_eq_false_iff_not,List.not_lt]
theorem yC (a b c:Qi)(h1:leS a b=tj)(h2:leS b c=tj):leS a c=tj:=VH.mpr (List.le_trans (VH.mp h1) (VH.mp h2))
theorem EM {l l':Χ}(p:l.Perm l')(h:l.Pairwise λa b=>leS a b=tj):l=srt l':=by refine List.Perm.eq_of_pairwise (le:=λa b=>leS a b=tj) (λa b _ _ h1 h2=>?_) h (vX yC (λa b=>?_) l') (p.trans (wa _ _).symm);have:=List.le_antisymm (VH.mp h1) (VH.mp h2);cases a;cases b;simp_all;rw[mX,VH,VH];exact Aw _ _
theorem EN:∀{l:List Qi} {x:Qi},risingS x l=tj->(x::l).Pairwise λa b=>leS a b=tj| [],_,_=>by simp| y::l,x,h=>by have h:(leS x y&&risingS y l)=tj:=h;rw[bW] at h;have i:=EN h.2;refine lK.mpr #[λz hz=>?_,i];rcases aT.mp hz with rfl | hz;exact h.1;exact yC _ _ _ h.1 ((lK.mp i).1 z hz)
theorem L0 {l l':Χ}(p:l.Perm l')(h:sortedS l=tj):l=srt l':=EM p (by cases l with| nil=>simp| cons x l=>exact EN h)
theorem EO {l l':Χ}(p:l.Perm l'):srt l=srt l':=EM ((wa _ _).trans p) (vX yC (λa b=>by rw[mX,VH,VH];exact Aw _ _) l)
def gSrt (xs:Φ) (h:TH):R D:=match xs with| [x]=>QL (eS h x) λds=>QL (QJ YR ds) λks=>Q3 (! ϩ&&bq (Rx ks) 64) (.ok (.lst ((srt ks).map .str)) h)| _=>.no
def Y1 (fa fb:RE):RE:=fun ρ h=>(fa ρ h).bnd λx h=>QL (UZ h x) λ_=>(fb ρ h).bnd λy h=>match y with| .int (.ofNat k)=>QL (UZ h x) λp=>QL (eg p.2 k) λy=>.ok y (hs h p.1 (.ml (p.2.eraseIdx k)))| _=>.no
@[irreducible] def rL2 (i j:Nat):RG:=λd ρ=>match d with| .lst [x,y]=>se (WJ (WJ ρ i σ) j Ϥ)| _=>ng
end NAL.RX
set_option maxHeartbeats 4000000
namespace NAM
open PySem PySem.Spec PyProof.Rows NAL NAL.EX NAL.RX
noncomputable def top (i:Nat):RV:=PySem.Challenge.pw_evenyoke_k81_whole_same_by_any_road.main.body.getD i (.Pass #[0,0,0,0])
noncomputable def lamOf (q:Qi) (st:RV):Lam:=match st with| .Assign _ (.Call _ [_,.Lambda ps b sc _] _ _) _=>#[q,ps,b,sc]| _=>#[q,default,.Constant .none 0 #[0,0,0,0],default]
noncomputable def lamS:Lam:=lamOf ((PyProof.Rows.envOfC "House.settle" (QN (WR (top 43) 15)) 0 0 (.ref 0)).qual++"<lambda>") ((Sc (WR (top 43) 15)).getD 10 (.Pass #[0,0,0,0]))
noncomputable abbrev gC (K:bj) (CP CR CH T:Qh) (XC:Nat->Qh):CT where
 K:=K
 cl:=λc=>match c with
  | 0=>CP
  | 1=>CR
  | _=>CH
 nm:=λc=>match c with
  | 0=>["many_gives","tie_ends","sent","spare","ties_at"]
  | 1=>["present","dealt","works","doers"]
  | _=>["crew","tasks","rows","burdens","piece_rows"]
 xc:=XC
 fa:=λ_=>0
 lm:=λ_=>lamS
 tb:=λ_=>T
 nl:=1
def QC:=Sl ff 2 0 (Ql (Rc [ϗ,Y6,ε,Q4 Rp (Qc ζ Qg)] (QU [ZO,ε]) Q9) (QU [΢,0]))
abbrev VZ:RS:=[ς,[η,Q4 QC [ϯ,Qc [ϻ,[΢,2],μ] Qg],5],[η,[ϻ,[΢,1],Qr Rg (Qr Sg ϐ [΢,7]) [΢,24]],6],[ς,Rc (Qy [ϟ,Qr Rg ϐ [΢,7],[΢,3]]) [η,[ϻ,[΢,1],Qr Rg (Qr Sg ϐ [΢,7]) (Qr gPow [΢,10] [΢,57])],6] Q9,[η,Q4 QC [ϯ,Qc [ϻ,[΢,8],μ] Qg],7],[ς,[η,TV ["_law_j","_law_name","_law_bits"] ff (Y3 ε) 2 [7] (VA 0 1) (Qy [ϟ,Qr Rg (Qr Sg θ [ϻ,[΢,1],Qr JN ζ ζ]) [΢,2],[΢,0]]) ε,8],Rc (Qy [ϟ,tE,Rk ff Qg]) [η,Rk ff (Qc [Ϯ,Qr Rg μ (Q4 Rp (Qc ε Qg))] Qg),8] Q9,TN (Wr χ (Qc (SW (Qc (Q5 (Rk ff (Qc [ϰ,"mill"] (Qc [ϰ,"oat"] (Qc [ϰ,"hay"] (Qc [ϰ,"ha"] (Qc [ϰ,"oath"] (Qc [ϰ,"mile"] Qg))))))) μ) (Qc ϸ (Qc tE Qg)))) Qg))]]]
def VM:=Sl ff 1 8 [ς,[η,rSl ff (Rk ff (Qc [ϰ,"mill"] (Qc [ϰ,"mile"] (Qc [ϰ,"ile"] (Qc [ϰ,"m"] (Qc [ϰ,"smile"] Qg)))))) rO0 (Zp [ϻ,[΢,2],Qr Rg (Q4 QC [ϯ,Qc [΢,0] Qg]) [΢,4]]),1],[η,TV ["_law_k","_law_name","_law_script"] ff (Y3 ε) 2 [0] (VA 0 1) (Qy [ϟ,Qr Rg (Qr Sg (Q4 QC [ZF,Qc [΢,1] Qg]) [ϻ,[΢,1],Qr JN ζ ζ]) [΢,4],[΢,1]]) ε,2],[ς,[η,Rk tj Qg,3],Sj (rIr (Qc (Qr Rg (Qr Sg (Q4 QC [ϯ,Qc [΢,0] Qg]) [΢,4]) [΢,7]) Qg)) (rN 4) VZ,QU (SW [Ϧ,[ZF,Qc χ Qg]])]]
def VO:=Sl ff 1 0 [ς,W9 2 0 (ζ) (XF ff),W9 2 1 (ζ) (XF ff),[ς,W9 2 2 (ζ) (XF ff),W9 2 3 (ζ) (XF ff),W9 2 4 (ζ) Kk]]
abbrev U4:RS:=(TN (Qo 2 S9 χ (Qc μ Qg)))
abbrev U3:RS:=(TN (Qo 2 QZ χ (Qc μ [ZG,Qc (Q4 (V6 ff) (Qc ϸ Qg)) Qg])))
abbrev U2:RS:=(TN (Qo 2 Q7 χ (Qc μ Qg)))
def Um:=Sl tj 3 4 [ς,[η,Q4 (V5 2 VO) Qg,3],Sj G9 (rN 4) U4,[ς,Sj Wp (Yl 4 5 6) U3,Sj Z1 (rN 4) U2,QU χ]]
def Q1:=Sl ff 2 0 (Ql (TN [Ϗ,2,Rv,Qc ε Qg]) (QU (Q5 [ϑ,2,0] ε)))
def U9:=Sl ff 4 1 (Ql [η,[Ϯ,Qr Rg (Qr Sg θ [΢,3]) (Q4 Rp (Qc ε Qg))],4] (Rc (Ul (Qy [ϟ,Qr Rg χ [΢,6],[΢,0]]) (Qy [ϟ,Qr Rg θ [΢,3],[΢,0]])) (Ql (TN [Ϗ,2,QZ,Qc [ϰ,"idle"] (Qc [ϻ,[΢,1],Qr Rg (Qr Sg θ [΢,15]) [΢,50]] (Qc (Rk ff (Qc μ Qg)) Qg))]) (TN [Ϗ,2,Sy,Qc [ϰ,"idle"] Qg])) (Rc (Ul (Qy [ϟ,Qr Rg χ [΢,6],[΢,3]]) (Qy [ϟ,Qr Rg θ [΢,3],[΢,1]])) (Rc (Qy [Ϗ,2,Q1,Qc μ Qg]) (TN [Ϗ,2,Q7,Qc μ Qg]) (TN [Ϗ,2,Ry,Qc μ Qg])) Q9)))
abbrev Vo:RS:=(TN [My,2,S9,Qc ϐ Qg])
abbrev T4:RS:=(TN [My,2,Q7,Qc ϐ Qg])
abbrev Vn:RS:=[ς,[η,Q4 QC [ϯ,Qc [ϻ,[΢,15],rV 7] Qg],8],Qz (Y1 ϸ (Qr Rg tE (Q4 Rp (Qc ϸ Qg)))) (Yl 5 9 10),Ql [η,TV ["_law_one"] ff (rIv (rV 10)) 1 [] ϙ Rf ζ,11] (Rc (Ul (Qy [ϟ,Qr Rg (Qr Sg tE [΢,6]) [΢,3],[΢,1]]) [ϗ,X2,Hb,[΢,1]]) (Ql (TN [My,2,QZ,[ZG,Qc [ϻ,[΢,1],Qr Rg (Qr Sg tE [΢,18]) (Qr UN Hb [΢,1])] (Qc (rV 11) Qg)]]) (TN [My,2,Sw,[ZG,Qc (Qr UN (Qr UN Hb [΢,1]) (Qr Rg (Qr Sg tE [΢,18]) (Qr UN Hb [΢,1]))) Qg]])) (Rc (Qy [ϟ,Qr Rg (Qr Sg tE [΢,6]) [΢,3],[΢,2]]) (Ql (TN [My,2,QZ,[ZG,Qc [ϻ,[ϻ,Hb,[΢,1]],Qr Rg (Qr Sg tE [΢,18]) [΢,40]] (Qc (rV 11) Qg)]]) (TN [My,2,Si,[ZG,Qc [ϻ,[΢,1],Qr Rg (Qr Sg tE [΢,18]) [΢,40]] Qg]])) (TN [My,2,QZ,[ZG,Qc Hb (Qc (rV 11) Qg)]])))]
abbrev Vm:RS:=(TN (Q4 U9 (Qc μ [Ϧ,Qc tE (Qc (rV 7) Qg)])))
abbrev Vl:RS:=(Rc (Ul (Qy [My,2,Q1,Qc ϐ Qg]) [ϗ,JS,ϐ,θ]) (TN [My,2,Q7,Qc ϐ Qg]) (Rc (Ul (Xa (Qy [My,2,Q1,Qc ϐ Qg])) [ϗ,NN,ϐ,θ]) (TN [My,2,Ry,Qc ϐ Qg]) Q9))
def UQ:=Sl tj 4 8 [ς,[η,Q4 (V5 2 VO) Qg,4],Sj Z1 (rN 5) Vo,[ς,Rc (Qy [ϟ,Qr Rg (Q4 QC [ϯ,Qc [΢,14] Qg]) [΢,2],[΢,1]]) (Sj Wp (rN 5) T4) Q9,[η,Q4 (V6 tj) (Qc χ Qg),6],[ς,Sj (rIr (Qc (Q4 Rp (Qc χ Qg)) Qg)) (rN 7) Vn,Sj (Y3 (rSl ff ζ (Zp [΢,21]) (Zp [΢,63]))) (VA 7 8) Vm,Ql (Sj Z1 (rN 5) Vl) (QU μ)]]]
def Wa:=Sl ff 3 1 (Ql [η,Q4 Ug [ϯ,[Ϧ,Qc θ Qg]],3] (QU (TV ["crowd","works"] ff JW 1 [0] ϙ Rf (SW (Qc (Q4 UE (Qc (Q4 Vu [Ϧ,Qc ζ Qg]) (Qc (Q4 Rp (Qc [ZO,[΢,0]] Qg)) Qg))) (Qc [ZO,[΢,0]] (Qc [ZO,[΢,1]] Qg)))))))
abbrev W5:RS:=(TN (Wr θ (Qc (SW (Qc [No,[΢,0]] (Qc (Qo 1 Ru ε (Qc [No,[΢,1]] Qg)) (Qc (TV ["number","roll"] ff (SB [No,[΢,2]]) 1 [1] ϙ Rf (Q5 (QP 1 1 (ε)) ζ)) Qg)))) Qg)))
def UR:=Sl ff 1 3 [ς,[η,Q4 (V5 1 Va) (Qc [ϑ,2,0] (Qc [ϑ,2,1] Qg)),1],[η,Rk tj Qg,2],Ql (Sj (SB (Q4 Wa (Qc (QP 1 2 (ε)) (Qc (QP 1 3 (ε)) (Qc (Q4 Rp (Qc (QP 1 0 (ε)) Qg)) Qg))))) (rN 3) W5) (QU θ)]
def Uq:=Sl ff 1 0 (QU (TV ["chore","self"] ff (SB [ϑ,2,1]) 1 [0] ϙ [ϗ,NN,ζ,QP 2 2 (ε)] ζ))
def Sa:=Sl ff 2 1 (Ql [η,TV ["_law_load","_law_names","_law_chores"] ff (SB [Ϗ,2,UR,Qg]) 3 [] (Yl 0 1 2) Rf (SW [ϯ,[Ϧ,Qc (Q4 gSrt (Qc θ Qg)) Qg]]),2] (QU (SW (Qc (TV ["_law_name","_law_house"] ff Z1 1 [0] ϙ Rf (Qo 2 VN ε (Qc ζ Qg))) (Qc (Q4 gSrt (Qc [Ϗ,2,Uq,Qg] Qg)) (Qc θ Qg))))))
def WG:=Sl ff 4 4 [ς,[η,Qr Sg (Q4 QC [ϯ,Qc [΢,14] Qg]) [΢,2],4],[η,[Ϯ,Qr Rg (Qr Sg μ [΢,3]) (Q4 Rp (Qc ε Qg))],5],[ς,Rc (Qy [ϟ,Qr Rg μ [΢,3],[΢,0]]) [ς,[η,TV ["_law_k","_law_one","_law_cell"] ff (Y3 ε) 2 [4] (VA 0 1) (Qy [ϟ,Qr Rg (Qr Sg θ [ϻ,[΢,15],ζ]) [΢,2],[΢,0]]) ε,6],Rc (Qy [ϟ,ϸ,Rk ff Qg]) [η,Q4 (V6 ff) (Qc ε Qg),6] Q9,QU (Rk ff (Qc (SW (Qc [ϰ,"put"] (Qc [ϰ,"new"] (Qc [ϻ,[΢,1],Qr Rg (Qr Sg μ [΢,30]) [΢,1000]] (Qc ϸ Qg))))) (Qc (SW (Qc [ϰ,"drop"] (Qc [ϰ,"new"] Qg))) Qg)))] Q9,Rc (Ul (Qy [ϟ,Qr Rg μ [΢,3],[΢,1]]) [ϗ,Js,χ,Rk ff Qg]) (Ql [η,Q5 [No,Qr Rg (Qr Sg μ [΢,3]) (Q4 Rp (Qc χ Qg))] [΢,0],7] (QU (Rk ff (Qc (SW (Qc [ϰ,"more"] (Qc (rV 7) (Qc [ϻ,[΢,1],Qr Rg (Qr Sg μ [΢,30]) [΢,1000]] Qg)))) (Qc (SW (Qc [ϰ,"fewer"] (Qc (rV 7) (Qc [ϻ,[΢,1],Qr Rg (Qr Sg μ [΢,30]) [΢,1000]] Qg)))) Qg))))) Q9,Ql (Rc [ϗ,JS,ϐ,θ] (QU (Rk ff (Qc (SW (Qc [ϰ,"back"] (Qc ϐ Qg))) (Qc (SW (Qc [ϰ,"away"] (Qc ϐ Qg))) Qg)))) Q9) (QU (Rk ff (Qc (SW (Qc [ϰ,"away"] (Qc ϐ Qg))) (Qc (SW (Qc [ϰ,"back"] (Qc ϐ Qg))) Qg))))]]
def SX:=Sl ff 2 0 [ς,Rc (Qy [ϟ,[Ϯ,[΢,0]],[ϰ,"put"]]) (QU [Ϗ,2,QZ,Qc [Ϯ,[΢,1]] (Qc [Ϯ,[΢,2]] (Qc (Q4 (V6 ff) (Qc [Ϯ,[΢,3]] Qg)) Qg))]) Q9,Rc (Qy [ϟ,[Ϯ,[΢,0]],[ϰ,"drop"]]) (QU [Ϗ,2,Sy,Qc [Ϯ,[΢,1]] Qg]) Q9,[ς,Rc (Qy [ϟ,[Ϯ,[΢,0]],[ϰ,"more"]]) (QU [Ϗ,2,Sw,Qc [Ϯ,[΢,1]] (Qc [Ϯ,[΢,2]] Qg)]) Q9,Rc (Qy [ϟ,[Ϯ,[΢,0]],[ϰ,"fewer"]]) (QU [Ϗ,2,Si,Qc [Ϯ,[΢,1]] (Qc [Ϯ,[΢,2]] Qg)]) Q9,Ql (Rc (Qy [ϟ,[Ϯ,[΢,0]],[ϰ,"away"]]) (QU [Ϗ,2,Q7,Qc [Ϯ,[΢,1]] Qg]) Q9) (QU [Ϗ,2,Ry,Qc [Ϯ,[΢,1]] Qg])]]
def e_law:=Sl ff 1 10 [ς,Qz (Q4 VM (Qc ζ Qg)) (Yl 1 2 3),[η,Q4 Um [Ϧ,[ZF,Qc χ Qg]],4],[ς,[η,Q4 UQ [ϯ,[Ϧ,[ZF,Qc χ Qg]]],5],[η,Q4 Sa (Qc μ (Qc ε Qg)),6],[ς,Rc (Zf [ϗ,Js,Q4 Sa [ZG,Qc ε Qg],ϸ] [ϗ,Js,[My,2,Uf,Qg],Qo 2 Uf ϐ Qg]) (QU (rC Nq)) Q9,Qz (Q4 WG [ϯ,[Ϧ,[ZF,Qc χ Qg]]]) (rL2 7 8),[ς,[η,Q4 SX (Qc μ (Qc (rV 7) Qg)),9],Rc (Zf [ϗ,Js,Q4 SX [ZG,Qc (rV 7) Qg],Hb] [ϗ,Js,Q4 Sa (Qc μ (Qc ε Qg)),Q4 Sa [ZG,Qc ε Qg]]) (QU (rC Nq)) Q9,[ς,[η,TV ["_law_name","_law_ahead","_law_after"] ff (SB Hb) 3 [] (Yl 0 1 2) Rf (SW [ϯ,[ZF,Qc ε Qg]]),10],Rc (Zf [ϗ,Js,Q4 SX (Qc μ (Qc tE Qg)),rV 10] [ϗ,Js,Q4 SX [ZG,Qc tE Qg],rV 10]) (QU (rC Nq)) Q9,QU (Uv [ϟ,Q4 Sa (Qc μ (Qc ε Qg)),ϸ] [ϟ,Q4 Sa [ZG,Qc ε Qg],ϸ])]]]]]
end NAM
set_option maxHeartbeats 1000000
namespace NAY
open PySem NAL NAL.EX NAL.RX NAM
section
variable {c:bz}{t t':a9}{R R':Zr}{qs cg:Zt}{h:TH}{n m:Nat}{d:D}{neg:Bool}
theorem EP (H:Vz c t R qs)(H':Vz c t' R' cg)(s:∀q∈t,q∈t')(hg:g<'0'.length):ldV c t R '0' g<=ldV c t' R' '0' g:=by by_cases z:'0'.getD g ""∈'#';have EA:=rB H.ct.ndc Me λx hx=>jI hx;exact NAP.Dl.mono ((oq H.deal).emb EA) ((oq H'.deal).emb EA) (Ej H H'.ct (λx hx _=>hx) λa w ns m=>#[w,s _ m,ϳ]) g hg (P9 z);have:¬rn '0' '#' g<'#'.length:=λl=>z (vW.mp l);unfold ldV;rw[P7 this,P7 this];exact ϳ
theorem pX (H:Vz c t R qs)(H':Vz c t' R' cg)(p:KF):qs=cg:=by have l:=H.deal.len;have l':=H'.deal.len;refine i8 λk=>?_;by_cases hk:k<'#'.length;have e1:=getD_at' (show k<qs.length by rw[l];exact hk) (0,1);have e2:=getD_at' (show k<cg.length by rw[l'];exact hk) (0,1);obtain⟨g,hg⟩:∃g,g='0'.idxOf ('#'.getD k ""):=#[_,rfl];have m:=aG (getD_at' hk "");(have r:rn '0' '#' g=k:=by rw[hg];show '#'.idxOf ('0'.getD _ "")=k;rw[ku (jI m),yp Me hk]);have gl:g<'0'.length:=hg▸fH (jI m);have a:=EP H H' (λq hq=>p.mem_iff.mp hq) gl;have b:=EP H' H (λq hq=>p.mem_iff.mpr hq) gl;unfold ldV at a b;rw[r,P8 hk,P8 hk] at a b;have f:=H'.deal.ldb k _ e2;rw[zS b a] at f;rw[e1,e2,FV.uniq fm (H.deal.ldb k _ e1) f];rw[eG (by lia),eG (by lia)]
theorem ve:∀n {d:D},R9 n d=tj->R9 (n+1) d=tj/\YI n d d=JM/\∀k,cd k n d:=by(have L:∀{n} {ds:List D},(∀d,R9 n d=tj->R9 (n+1) d=tj/\YI n d d=JM/\∀k,cd k n d)->XU n ds=tj->XU (n+1) ds=tj/\Zm (YI n) ds ds=JM/\∀k,∀d∈ds,cd k n d:=λ{n ds} ih z=>by induction ds with| nil=>exact#[rfl,rfl,λ_ _ h=>by cases h]| cons d ds i =>rw[rd,bW] at z;obtain⟨a,b,e⟩:=ih d z.1;obtain⟨a',b',e'⟩:=i z.2;refine#[by rw[rd,a,a'];rfl,?_,λk y hy=>?_];show(match YI n d d with| some tj=>Zm (YI n) ds ds| some ff=>se ff| none=>ng)=_;rw[b];exact b';rcases aT.mp hy with rfl | hy;exact e k;exact e' k y hy);intro n;induction n with| zero=>intro d z;cases z| succ n ih =>intro d z;cases d with| lst ds=>exact L (λd=>ih) z| tup ds=>exact L (λd=>ih) z| non=>exact#[rfl,rfl,λ_=>trivial]| bl b=>exact#[rfl,by cases b<;>rfl,λ_=>trivial]| int i=>exact#[rfl,by show se (YG i i)=_;rw[jE];simp,λ_=>trivial]| str x=>exact#[z,by show se (sEq x x)=_;rw[l7];simp,λ_=>trivial]| _=>cases z
theorem EQ (k:Nat)(z:R9 n d=tj):R9 (n+k) d=tj:=by induction k with| zero=>exact z| succ k ih=>exact(ve _ ih).1
theorem eq_self (z:R9 9 d=tj):SO neg d d h=.ok (.bl (! neg)) h:=by unfold SO;rw[fV 9 ((ve 9 z).2.2 0)];have f:=EQ 51 z;show Q3 (R9 60 d&&R9 60 d) (QL (YI 60 d d) _)=_;rw[f,(ve 60 f).2.1];cases neg<;>rfl
theorem yD {α:Type}{r:α->α->Prop}(as:∀a b,r a b->r b a->False):∀{l l':List α},l.Pairwise r->l'.Pairwise r->(∀x,x∈l↔x∈l')->l=l'| [],[],_,_,_=>rfl| [],b::l',_,_,m=>absurd ((m b).mpr Ix) (by simp)| a::l,[],_,_,m=>absurd ((m a).mp Ix) (by simp)| a::l,b::l',p,p',m=>by obtain⟨p1,p2⟩:=lK.mp p;obtain⟨q1,q2⟩:=lK.mp p';(have e:a=b:=by rcases aT.mp ((m a).mp Ix)with e | e;exact e;rcases aT.mp ((m b).mpr Ix)with e' | e';exact e'.symm;exact(as _ _ (p1 b e') (q1 a e)).elim);subst e;rw[yD as p2 q2 λx=>?_];have:=m x;constructor;intro hx;rcases aT.mp (this.mp (.tail _ hx))with rfl | h;exact(as _ _ (p1 x hx) (p1 x hx)).elim;exact h;intro hx;rcases aT.mp (this.mpr (.tail _ hx))with rfl | h;exact(as _ _ (q1 x hx) (q1 x hx)).elim;exact h
end
section
variable {c:bz}{t t':a9}{R R':Zr}{qs:Zt}{L L':Tm}{ps mV:Zt}{i j x:Nat}{p p':Zx}{d d':NAP.Cr}
structure Ly (c:bz)(t:a9)(qs:Zt)(L:Tm)(ps:Zt):Prop where
 k:CT c t
 co:UY (VQ c t) (Uh c t) '#'.length L
 lo:Vd (VQ c t) L ps
 lk:UW '#'.length L ps qs
abbrev Und (p q:Zx):Prop:=q.1*p.2<p.1*q.2
theorem L1 {a b e:Zx}(ha:1<=a.2)(hb:1<=b.2)(he:1<=e.2)(h1:Und a b)(h2:Und b e):Und a e:=by have e1:=mY h1 (show 0<e.2 by lia);have e2:=mY h2 (show 0<a.2 by lia);refine tI ?_ (show 0<=b.2 by lia);lia
theorem Ly.low (A:Ly c t qs L ps)(hp:ps[i]?=ο):Yr:=by have il:='c'.1;rw[A.lo.len] at il;exact(A.lo.at_ i _ p (aJ il) hp).1
theorem Ly.fall (A:Ly c t qs L ps):∀n {i p q},ps[i]?=ο->ps[i+1+n]?=Ϝ->Und p q| 0,i,p,q,h1,h2=>by have l1:='S'.1;have l2:='f'.1;rw[A.lo.len] at l1 l2;exact A.lo.falls A.co A.k.asks.pos (aJ l1) (aJ l2) h1 h2| n+1,i,p,q,h1,h2=>by have l2:='f'.1;have e:=aJ (show i+1+n<ps.length by lia);have a:=A.fall n h1 e;have b:=A.fall 0 e (by simpa [ug] using h2);exact L1 (A.low h1).1 (A.low e).1 (A.low h2).1 a b
theorem Ly.lt (A:Ly c t qs L ps)(ij:i<j)(h1:ps[i]?=ο)(h2:ps[j]?=se p'):Und p p':=A.fall (j-i-1) h1 (by rwa [show i+1+(j-i-1)=j by lia])
theorem Ly.inj (A:Ly c t qs L ps)(h1:ps[i]?=ο)(h2:ps[j]?=ο):i=j:=by rcases lU i j with h | h | h;exact absurd (A.lt h h1 h2) (qu _);exact h;exact absurd (A.lt h h2 h1) (qu _)
theorem Ly.pw (A:Ly c t qs L ps):ps.Pairwise Und:=o7.mpr λi j hi hj ij=>A.lt ij (aJ hi) (aJ hj)
theorem Ly.pos (A:Ly c t qs L ps)(hp:qs[x]?=ο):0<'#'.length/\x<'#'.length:=by have:='c'.1;have:=A.lk.len;lia
theorem Ly.hand (A:Ly c t qs L ps)(hd:L[i]?=Ϡ)(hp:ps[i]?=ο):x∈d.1↔qs[x]?=ο:=by constructor;exact A.lk.at_ i d p hd hp x;intro z;obtain⟨j,d',p',h1,h2,h3,h4⟩:=A.lk.of_hand A.lo A.co (A.pos z).1 (A.pos z).2;rw[z] at h4;cases h4;cases A.inj hp h2;rw[hd] at h1;cases h1;exact h3
theorem Ly.mem (A:Ly c t qs L ps):p∈ps↔∃x:Nat,qs[x]?=ο:=by constructor;intro h;obtain⟨i,hi⟩:=bf h;have il:='l'.1;rw[A.lo.len] at il;have hd:=aJ il;obtain⟨y,hy⟩:=zW _ (A.co.lt (aG hd)).2.2.1;exact#[y,(A.hand hd hi).mp hy];rintro⟨x,z⟩;obtain⟨j,d',p',h1,h2,h3,h4⟩:=A.lk.of_hand A.lo A.co (A.pos z).1 (A.pos z).2;rw[z] at h4;cases h4;exact aG h2
theorem Ly.pss (A:Ly c t qs L ps)(A':Ly c t' qs L' mV):ps=mV:=yD (λa b h1 h2=>Int.lt_asymm h1 h2) A.pw A'.pw λp=>A.mem.trans A'.mem.symm
theorem Ly.hs (A:Ly c t qs L ps)(A':Ly c t' qs L' ps)(h1:L[i]?=Ϡ)(h2:L'[i]?=se d'):d.1=d'.1:=by have il:='S'.1;rw[<-A.lo.len] at il;have hp:=aJ il;exact yD (λa b h1 h2=>Nat.lt_asymm h1 h2) (A.co.lt (aG h1)).2.2.2.1 (A'.co.lt (aG h2)).2.2.2.1 λx=>(A.hand h1 hp).trans (A'.hand h2 hp).symm
abbrev Mn (c:bz)(qs:Zt)(p:Zx)(q:Qi×(Int× Χ)):Prop:=(∃y∈S4 '#' q,lod c qs y=p)/\∀y∈S4 '#' q,p.1*(lod c qs y).2<=(lod c qs y).1*p.2
theorem Ly.min (A:Ly c t qs L ps)(H:Vz c t R qs)(hd:L[i]?=Ϡ)(hp:ps[i]?=ο)(hx:x∈d.2):∃q,[ϕ,t][x]?=Ϝ/\Mn c qs p q:=by have xl:=(A.co.lt (aG hd)).2.1 x hx;(have xl:x<[ϕ,t].length:=by simpa [VQ] using xl);have hq:=aJ xl;generalize[ϕ,t][x]=q at hq;have er:Rz (Uh c t) x=(S4 '#' q).map λy=>'#'.idxOf y:=u9 hq;(have p0:0<'#'.length:=by obtain⟨y,hy⟩:=Ee hq;exact qD (jn y hy));have K:=A.co.cr p0;refine#[q,hq,?_,λy hy=>?_];obtain⟨h,h1,h2⟩:=K.own d (aG hd) x hx;rw[er] at h2;obtain⟨y,hy,rfl⟩:=aO.mp h2;have e:=(A.hand hd hp).mp h1;rw[EL H (jn y hy)] at e;exact#[y,hy,c8 e];obtain⟨j,d',ji,h1,h2⟩:=K.up i d hd x hx ('#'.idxOf y) (by rw[er];exact aO.mpr #[y,hy,rfl]);have jl:='S'.1;rw[<-A.lo.len] at jl;have cH:=aJ jl;have e:=(A.hand h1 cH).mp h2;rw[EL H (jn y hy)] at e;rw[c8 e];rcases AB ji with h | h;exact cE (A.lt h cH hp);subst h;rw[hp] at cH;rw[<-c8 cH];exact ϳ
theorem zdm (l:Yr)(l':WZ p')(a:Mn c qs p q)(b:Mn c qs p' q):p=p':=by obtain⟨⟨y,hy,rfl⟩,m⟩:=a;obtain⟨⟨z,hz,rfl⟩,m'⟩:=b;exact xr l l' (zS (m z hz) (m' y hy))
theorem Ly.chore (A:Ly c t qs L ps)(H:Vz c t R qs)(hd:L[i]?=Ϡ)(hp:ps[i]?=ο)(hq:[ϕ,t][x]?=Ϝ)(m:Mn c qs p q):x∈d.2:=by(have p0:0<'#'.length:=by obtain⟨y,hy⟩:=Ee hq;exact qD (jn y hy));have xl:='w'.1;have cp:=uF A.co p0;unfold Vx at cp;rw[l6] at cp;obtain⟨e,he,hx⟩:=kj.mp (cp.mem_iff.mpr (dF.mpr (by simpa [VQ] using xl)));obtain⟨j,hj⟩:=bf he;have jl:='-'.1;rw[<-A.lo.len] at jl;have cH:=aJ jl;obtain⟨q',fO,m'⟩:=A.min H hj cH hx;rw[hq] at fO;cases fO;have e1:=zdm (A.low hp) (A.low cH) m m';rw[<-e1] at cH;cases A.inj hp cH;rw[hd] at hj;cases hj;exact hx
noncomputable abbrev nmC (c:bz) (t:a9) (l:Zw):Χ:=l.map λx=>(Qq [ϕ,t]).getD x ""
theorem Ly.nms_ (A:Ly c t qs L ps)(H:Vz c t R qs)(hd:L[i]?=Ϡ)(hp:ps[i]?=ο):(nmC c t d.2).Nodup/\∀a,a∈nmC c t d.2↔∃q∈[ϕ,t],q.1=a/\Mn c qs p q:=by have nd:=u8 (p:='#') A.k.ndt;obtain⟨_,l2,_,_,rs⟩:=A.co.lt (aG hd);(have l2:∀x∈d.2,x<(Qq [ϕ,t]).length:=λx hx=>by simpa [VQ,Qq] using l2 x hx);constructor;refine wt.mpr (rs.imp_of_mem λ{x y} hx hy lt e=>cI lt ?_);have e1:=getD_at' (l2 x hx) "";have e2:=getD_at' (l2 y hy) "";rw[e] at e1;exact NAL.UL nd e1 e2;intro a;constructor;intro h;obtain⟨x,hx,rfl⟩:=NH;obtain⟨q,hq,m⟩:=A.min H hd hp hx;exact#[q,La,(rG hq).symm,m];rintro⟨q,hq,rfl,m⟩;obtain⟨x,hx⟩:=Hq;exact aO.mpr #[x,A.chore H hd hp hx m,rG hx]
noncomputable def Zj (c:bz) (t:a9) (x:NAP.Cr×(Zx)):D:=.tup [Sd x.2,.lst ((x.1.1.map λi=>'#'.getD i "").map .str),.lst ((srt (nmC c t x.1.2)).map .str)]
theorem Ly.same (A:Ly c t qs L ps)(A':Ly c t' qs L' mV)(H:Vz c t R qs)(H':Vz c t' R' qs)(p:KF):':'.map (Zj c t)=(L'.zip mV).map (Zj c t'):=by cases A.pss A';have l:=A.lo.len;have l':=A'.lo.len;refine i8 λi=>?_;rw[bo,bo];by_cases hi:i<ps.length;have e1:=aJ (show i<L.length by lia);have e2:=aJ (show i<L'.length by lia);have e3:=aJ hi;rw[(bF (z:=(_,_))).mpr #[e1,e3],(bF (z:=(_,_))).mpr #[e2,e3]];obtain⟨n1,m1⟩:=A.nms_ H e1 e3;obtain⟨n2,m2⟩:=A'.nms_ H' e2 e3;(have pp:(nmC c t (L[i]'(by lia)).2).Perm (nmC c t' (L'[i]'(by lia)).2):=(List.perm_ext_iff_of_nodup n1 n2).mpr λa=>by rw[m1,m2];have pd:∀q,q∈[ϕ,t]↔q∈[ϕ,t']:=λq=>(p.filter _).mem_iff;simp only[pd]);simp only[pB,Zj];rw[A.hs A' e1 e2,EO pp];rw[eG (by simp;lia),eG (by simp;lia)];rfl
end
section
variable {h:TH}{c:bz}{t:a9}{R R':Zr}{qs:Zt}{L:Tm}{ps:Zt}{i:Nat}{x:Qi}{b:Bool}{l:Χ}
theorem ES (hl:l.length<64):gSrt [[Jc,.str]] h=.ok (.lst ((srt l).map .str)) h:=by show QL (QJ YR Im) _=_;rw[show QJ YR Im=se (l.map id)from kL λ_ _=>rfl,nJ];show Q3 (tj&&bq (Rx l) 64) _=_;rw[aR,bR.mpr hl];rfl
theorem L4 (cl:Ϣ)(H:Vz c t R qs):∃L ps,Ly c t qs L ps/\Wa [Xv [ϕ,t],WH '#' [ϕ,t],.int '#'.length] h=.ok (.lst (':'.map λx=>.tup [Sd x.2,Qu x.1.1,Qu x.1.2])) h:=by obtain⟨R',cg,_,Dk,L,ps,qc,co,lo,lk⟩:=DE cl H.ct.asks H.ct.p12 H.ct.rows;cases pX #[H.ct,Dk] H (lQ _);(have e1:Xv [ϕ,t]=.lst ((VQ c t).map .int):=by unfold Xv VQ;rw[cj];rfl);(have e2:WH '#' [ϕ,t]=.lst ((Uh c t).map Qu):=by unfold WH Uh;rw[cj];rfl);have p12:=H.ct.p12;have few:=co.few (by lia);(obtain⟨xs,q2,xl,xp⟩:=yb (h:=h) (h':=h) (N:=["crowd","works"]) (b:=ff) (fi:=JW) (fg:=ϙ) (g:=Xu) (l:=L) (fa:=SW (Qc (Q4 UE (Qc (Q4 Vu [Ϧ,Qc ζ Qg]) (Qc (Q4 Rp (Qc [ZO,[΢,0]] Qg)) Qg))) (Qc [ZO,[΢,0]] (Qc [ZO,[΢,1]] Qg)))) (ρ:=[[π,(VQ c t).map .int],[π,(Uh c t).map Qu],[ω,'#'.length],[π,NW]]) (n:=1) (fr:=[0]) (emb:=λx:NAP.Cr×(Zx)=>.tup [Sd x.2,Qu x.1.1,Qu x.1.2]) (P:=λd x=>x.1=d/\WZ x.2/\x.2.1*(d.1.length:Int)=SQ (VQ c t) d.2*x.2.2) rfl cU (by lia) λd hd=>by obtain⟨l1,l2,ne,r1,r2⟩:=co.lt hd;have n0:=eY.mpr ne;have hl:=ig r1 l1;have hc:=ig r2 l2;have:=H.ct.asks.few;obtain⟨p,qp,lp,ep⟩:=Dg (h:=h) (a:=SQ (VQ c t) d.2) (b:=(d.1.length:Int)) (by lia) (gz (show(d.1.length:Int).natAbs<2^64 by lia) (nM (by decide) (by decide)));exact#[_,(d,p),rfl,fY [Ω,aK (aE [ψ,C6 (by lia) l2] [Ω,aK [Ω,rfl] db]) qp] rfl,rfl,lp,ep]);(have ex:xs=':':=by have pl:=lo.len;refine i8 λi=>?_;by_cases hi:i<L.length;have a1:=aJ hi;have a2:=aJ (show i<ps.length by lia);have a3:=aJ (show i<xs.length by lia);obtain⟨b1,b2,b3⟩:=xp i _ _ a1 a3;have b4:=lo.even co a1 a2;have n0:=eY.mpr (co.lt (aG a1)).2.2.1;rw[a3,(bF (z:=(_,_))).mpr #[a1,a2]];refine congrArg se (Prod.ext b1 (xr b2 (lo.at_ i _ _ a1 a2).1 ?_));refine ka (a:=(L[i].1.length:Int)) (by lia) ?_;unfold SQ at b3;rw[jt,b3,jt _ _ (L[i].1.length:Int),<-b4,jt];rw[eG (by lia),eG (by simp;lia)]);subst ex;refine#[L,ps,#[H.ct,co,lo,lk],?_];rw[e1,e2];exact[ώ,sA [ψ,qc] [Ϸ,q2]]
end
section
variable {h:TH}{c:bz}{t t':a9}{R:Zr}{qs:Zt}{L:Tm}{ps:Zt}{i:Nat}{x:Qi}{b:Bool}{l hs:Χ}
noncomputable def Zk (c:bz) (t:a9) (x:NAP.Cr×(Zx)):D:=.tup [Sd x.2,.lst ((x.1.1.map λi=>'#'.getD i "").map .str),.lst ((nmC c t x.1.2).map .str)]
theorem L5 {x:NAP.Cr×(Zx)}:cd n 8 (Zk c t x):=λd hd=>by rcases ZQ with rfl | hd;exact jF;rcases ZQ with rfl | hd;(exact cdm λ_=>by trivial);rcases ZQ with rfl | hd;(exact cdm λ_=>by trivial);cases hd
theorem zd6 (cl:Ϣ)(H:Vz c t R qs)(eh:h[i]?=[Ϟ,2,RJ c t R qs]):∃L ps,Ly c t qs L ps/\UR [.at i] h=.ok (.lst (':'.map (Zk c t))) h:=by have K:=H.ct;have lc:=K.lc;have lt:=K.lt;have p12:=K.p12;obtain⟨L,ps,A,q⟩:=L4 (h:=h++[.mi 1 (SE c t),.ml []]) (C9 cl (x:=.mi 1 (SE c t)) (y:=.ml []) (λ_=>yn) λn=>by intro d hd;cases hd) H;have few:=A.co.few (by lia);have ll:=A.lo.len;refine#[L,ps,A,[ώ,sA (aK (aE [ξ,eh,rfl] [Ω,[ξ,eh,rfl]]) (DM cl K.ndc K.ndt (by lia) (by lia) λq hq=>by have:=(K.sub q hq).length_le;simp[Qq] at this;lia)) (sA XM (sL (eM (l:=':') (g:=λx=>D.tup [Sd x.2,Qu x.1.1,Qu x.1.2]) (λn ρ g=>(∃y,ρ=[se (.at i),se (.at h.length),se (.at (h.length+1)),y])/\g=h++[.mi 1 (SE c t),.ml ((':'.take n).map (Zk c t))]) (fI (h':=h++[.mi 1 (SE c t),.ml []]) ?_) (λn _ _ _=>cU n) (by simp;lia) #[#[_,by simp;rfl],rfl] ?_) ?_))]];rw[gb];exact aK (aE [ξ,fW,rfl] (aE [ξ,fW,rfl] [Ω,aK [Ω,[ξ,fW,rfl]] db])) q;rintro n x ρ g hx ⟨⟨y,rfl⟩,rfl⟩;obtain⟨h1,h2⟩:=bF.mp hx;obtain⟨l1,l2,_,r1,r2⟩:=A.co.lt (aG h1);have hl:=ig r1 l1;have hc:=ig r2 l2;have:=K.asks.few;(have l2:∀k∈x.1.2,k<[ϕ,t].length:=λk hk=>by simpa [VQ] using l2 k hk);refine#[_,rfl,nE (cR (l9 (k:=1) rfl rfl [Ω,fY [Ϙ,aE [ϊ,fW,[Ω,rfl],DN fW l1 (by lia)] [Ω,cA (l:=x.1.2) (g:=nD) (v:=λk=>.str ((Qq [ϕ,t]).getD k "")) Og cU (by lia) (λk hk=>#[_,rfl,(eF (l:=[ϕ,t]) (g:=λq=>.str q.1) [ξ,fW,rfl] rfl (aJ (l2 k hk))).trans ?_]) (show _=(nmC c t x.1.2).map .str from(cj ..).symm)]] rfl] (by simp;lia))) #[#[_,rfl],?_]];rw[rG (aJ (l2 k hk))];rw[pq,hx];simp[Zk];rintro ρ g ⟨⟨y,rfl⟩,rfl⟩;refine sR rfl ?_;rw[kE];exact pL cl (lV _) (VP (k:=1)) (cdm λ_=>L5)
theorem ET (eh:h[i]?=[Ϟ,2,RJ c t R qs])(e:Sr x c=se b):Q1 [.at i,ϋ] h=.ok (.bl b) h:=[ώ,sD (Y5 eh rfl rfl (vd eh (aO.mpr #[_,hO e,rfl]))) [Ϸ,jG [ξ,eh,rfl] rfl e]]
noncomputable def wai (c:bz) (t:a9):Χ:='b'.filter λa=>[Ϫ,a,Qq [ϕ,t]]
theorem L7 (H:Vz c t R qs):Qq (Xk c t R)=Qq [ϕ,t]:=by(have l:R.length=[ϕ,t].length:=by rw[H.deal.ev.len];simp[Uh]);(have e:Qq (Xk c t R)=(([ϕ,t].zip R).map Prod.fst).map Prod.fst:=by simp[Qq,Xk,So,Uu]);rw[e,ub (by lia)];rfl
theorem zdp (H:Vz c t R qs)(eh:h[i]?=[Ϟ,2,RJ c t R qs]):Uq [.at i] h=.ok (.lst ((wai c t).map .str)) h:=by have lt:=H.ct.lt;exact[ώ,[Ϸ,cM (l:=t) (p:=λq=>[Ϫ,q.1,Qq [ϕ,t]]) (yi [ξ,eh,rfl]) ou (by lia) (λq hq=>#[_,rfl,aQ (aD rfl [ξ,eh,rfl] (YM.trans (by rw[L7 H];simp))),λ_=>rfl]) (by simp[wai,Qq,wz,Function.comp_def])]]
theorem zcs (p:KF):(wai c t).Perm (wai c t'):=by have pn:'b'.Perm (Qq t'):=p.map _;have pd:(Qq [ϕ,t]).Perm (Qq [ϕ,t']):=(p.filter _).map _;unfold wai;rw[Aj λa _=>(decide_eq_decide.mpr (not_congr pd.mem_iff):[Ϫ,a,Qq [ϕ,t]]=[Ϫ,a,Qq [ϕ,t']])];exact pn.filter _
theorem EU (cl:Ϣ)(H:Vz c t R qs)(eh:h[i]?=[Ϟ,2,RJ c t R qs])(hc:∀x∈hs,x∈'0')(hl:hs.length<=20):∃L ps,Ly c t qs L ps/\Sa [.at i,[PL,.str]] h=.ok (.tup [[PL,λx=>Sd (lod c qs x)],.lst ((srt (wai c t)).map .str),.lst (':'.map (Zj c t))]) h:=by obtain⟨L,ps,A,q⟩:=zd6 cl H eh;have lt:=H.ct.lt;have p12:=H.ct.p12;have few:=A.co.few (by lia);(have wl:(wai c t).length<64:=by have:=gy (λa=>[Ϫ,a,Qq [ϕ,t]]) 'b';simp only[Qq,a8] at this;unfold wai;simp only[Qq];lia);refine#[L,ps,A,[ώ,sA (cA (l:=':') (g:=Zk c t) (v:=Zj c t) (fI [ϊ,eh,rfl,q]) cU (by simp;lia) (λx hx=>#[_,by unfold Yl Zk;rfl,fY [Ϙ,[Ϙ,[Ω,[ψ,ES ?_]]]] rfl]) rfl) [Ϸ,fY (aE (cA (l:=hs) (g:=D.str) (v:=λx=>Sd (lod c qs x)) Og cU (by lia) (λx hx=>#[_,rfl,[ϊ,eh,rfl,LZ H eh (hc x hx)]]) rfl) [Ω,aK [Ω,[ϊ,eh,rfl,zdp H eh]] (ES wl)]) rfl]]];obtain⟨l1,l2,_,r1,r2⟩:=A.co.lt (cx (a:=x.1) (b:=x.2) hx).1;have:=ig r2 l2;have:=H.ct.asks.few;simp[nmC];lia
end
section
variable {h:TH}{c:bz}{t t0:a9}{R R0:Zr}{qs qs0:Zt}{i:Nat}{x:Qi}{l hs:Χ}
theorem yE {n:Nat}:∀{ds:List D},(∀d∈ds,R9 n d=tj)->XU n ds=tj| [],_=>rfl| d::ds,h=>by rw[rd,h d Ix,yE λe he=>h e (.tail _ he)];rfl
theorem rI {n:Nat}{ds:Φ}(h:∀d∈ds,R9 n d=tj):R9 (n+1) O8=tj:=yE h
theorem vf {n:Nat}{ds:Φ}(h:∀d∈ds,R9 n d=tj):R9 (n+1) Pz=tj:=yE h
theorem oA {n:Nat}(h:∀x∈l,Yn x):R9 (n+2) [Jc,.str]=tj:=rI λd hd=>by obtain⟨x,hx,rfl⟩:=lP;exact h x hx
theorem EV (h:∀x∈l,Yn x):Yn (l.getD i ""):=by by_cases hi:i<l.length;exact h _ (aG (getD_at' hi ""));rw[bC,eG (by lia)];rfl
theorem Y0:x∈srt l↔x∈l:=List.mem_mergeSort
theorem EW (H0:Vz c t0 R0 qs0)(hc:∀x∈hs,x∈'0')(hl:hs.length<=20)(ok:∀x∈'0',Yn x):∃d,R9 9 d=tj/\∀{t R qs h i},Ϣ->Vz c t R qs->t0.Perm t->h[i]?=[Ϟ,2,RJ c t R qs]->Sa [.at i,[PL,.str]] h=.ok d h:=by obtain⟨L,ps,A,_⟩:=EU (h:=[.mi 2 (RJ c t0 R0 qs0)]) (i:=0) (λo ho=>by rw[cT.mp ho];exact pW) H0 rfl hc hl;refine#[.tup [[PL,λx=>Sd (lod c qs0 x)],.lst ((srt (wai c t0)).map .str),.lst (':'.map (Zj c t0))],?_,λ{t R qs h i} cl H p eh=>?_];rotate_left;obtain⟨L',mV,A',q⟩:=EU cl H eh hc hl;cases pX H0 H p;rw[<-EO (zcs (c:=c) p),<-A.same A' H0 H p] at q;exact q;(have on:∀x∈Qq t0,Yn x:=λx hx=>by obtain⟨q,hq,rfl⟩:=aO.mp hx;exact H0.ct.nt q hq);refine vf λd hd=>?_;simp only[aT,dQ,or_false] at hd;rcases hd with rfl | rfl | rfl;refine rI λd hd=>?_;obtain⟨x,_,rfl⟩:=lP;rfl;exact oA λx hx=>on x (bY.mp (Y0.mp hx)).1;refine rI λd hd=>?_;obtain⟨x,_,rfl⟩:=lP;refine vf λd hd=>?_;simp only[aT,dQ,or_false] at hd;rcases hd with rfl | rfl | rfl;rfl;refine oA λy hy=>?_;obtain⟨k,_,rfl⟩:=aO.mp hy;exact EV λx hx=>ok x (jI hx);refine oA λy hy=>?_;obtain⟨k,_,rfl⟩:=aO.mp (Y0.mp hy);exact EV λx hx=>on x ('A'.subset hx)
theorem EY {a b:Row}(ok:∀x∈Qq b,Yn x):R9 9 (YC a b)=tj:=rI λd hd=>by obtain⟨x,hx,rfl⟩:=lP;obtain⟨y,hy,rfl⟩:=aO.mp '7'.1;refine vf λd hd=>?_;simp only[aT,dQ,or_false] at hd;rcases hd with rfl | rfl | rfl;exact ok y.1 (aO.mpr #[y,hy,rfl]);rfl;rfl
theorem Ma:∀{a b:Row},Qq a=Qq b->(Qq a).Nodup->WV b a=(WV a b).map λx=>(x.1,x.2.2,x.2.1):=by intro a b e nd;(have bn:∀{f g:Qi->Zx} {l:List Qi},((l.map λx=>(x,f x,g x)).filter λx=>decide (x.2.1≠x.2.2))=((l.map λx=>(x,g x,f x)).filter λx=>decide (x.2.1≠x.2.2)).map λx=>(x.1,x.2.2,x.2.1):=λ{f g l}=>by induction l with| nil=>rfl| cons x l ih =>simp only[ne_eq,decide_not] at ih;by_cases z:f x=g x;simp[z,ih];simp[z,Ne.symm z,ih]);(have tl:∀{a b:Row},Qq a=Qq b->(Qq b).Nodup->WV a b=(((Qq b).map λx=>(x,(Sr x a).getD (0,1),(Sr x b).getD (0,1))).filter λx=>decide (x.2.1≠x.2.2)):=λ{a b} e nd=>by unfold WV;congr 1;unfold Qq;rw[cj];refine cq λp hp=>?_;show _=(p.1,(Sr p.1 a).getD (0,1),(Sr p.1 b).getD (0,1));rw[hU nd (show(p.1,p.2)∈b from hp)];rfl);rw[tl e.symm nd,tl e (e▸nd),bn,e]
theorem EZ:Vz [] [] [] []:=by refine#[#[by decide,by decide,by decide,by decide,?_,?_,?_,?_],#[#[rfl,?_,?_,?_,?_,?_],rfl,?_,#[rfl,?_],by decide,by decide]];all_goals first |(simp[Qq,Sr];done)|exactλr hr=>by cases hr
noncomputable def Tz (hs:Χ) (f:Qi->Bool):bz:=hs.map λx=>(x,f x)
theorem jJ {f:Qi->Bool}:Qq (Tz hs f)=hs:=by unfold Qq Tz;rw[cj];exact nJ _
theorem pY {f:Qi->Bool}(hx:x∈hs):Sr x (Tz hs f)=se (f x):=by induction hs with| nil=>cases hx| cons y l ih =>show(if y=x then se (f y) else Sr x (Tz l f))=_;by_cases e:y=x;rw[P8 e,e];rw[P7 e];exact ih ((aT.mp hx).resolve_left (Ne.symm e))
theorem vg {f g:Qi->Bool}(e:∀x∈hs,f x=g x):Tz hs f=Tz hs g:=cq λx hx=>by rw[e x hx]
theorem oB {f:Qi->Bool}{b:Bool}(nd:hs.Nodup)(hx:x∈hs):putS x b (Tz hs f)=Tz hs λy=>if y=x then b else f y:=by induction hs with| nil=>cases hx| cons y l ih =>have nd:=eA.mp nd;show(if y=x then (y,b)::Tz l f else (y,f y)::putS x b (Tz l f))=(y,if y=x then b else f y)::Tz l _;by_cases e:y=x;rw[P8 e,P8 e];congr 1;exact vg λz hz=>(P7 λk=>nd.1 (by rw[e,<-k];exact hz)).symm;rw[P7 e,P7 e,ih nd.2 ((aT.mp hx).resolve_left (Ne.symm e))]
end
section
variable {h:TH}{i:Nat}{x:Qi}{l hs:Χ}{ns:Zv}{ρ:Rb}{fa:RE}{fT:RT}{neg:Bool}
theorem mD {k:Nat}{n:Int}(e:h[i]?=MU)(hn:n=(k:Int):=by rfl):QC [.at i,NJ] h=.ok (.int [Zz,k]) h:=by subst hn;(have e2:eS h (.at i)=se KD:=by unfold eS;dsimp only;rw[aW,e]);(have gl:Rp [.at i] h=.ok (.int ns.length) h:=by unfold Rp eK;dsimp only;rw[aW,e];rw[e2];show[LM,[H7,Rx (ns.map D.int)]]=_;rw[aR,a8];rfl);refine[ώ,sB (aQ (aD rfl [ψ,gl] lt_int)) (λz=>?_) λz=>?_];refine[Ϸ,[Ψ,rfl,?_]];unfold Yg eK;dsimp only;rw[aW,e];show QL (eS h (.at i)) _=_;rw[e2];show QL (Zl (ns.map D.int) k) _=_;rw[V7,bo,getD_at' (by simpa using z) 0];rfl;rw[bC,eG (by simpa using z)];exact[Ϸ,rfl]
theorem pZ {x:Int}(h:x.natAbs<2^64):Bd 4096 x:=gz h (nM (by decide) (by decide))
noncomputable def YF (P:Qi×Nat->Bool) (hs:Χ):Χ:=(hs.zipIdx.filter P).map Prod.fst
theorem yF {P:Qi×Nat->Bool}:(YF P hs).Sublist hs:=by have:=(iL (p:=P) (l:=hs.zipIdx)).map Prod.fst;rwa [Ai] at this
theorem yG {P:Qi×Nat->Bool}{fr:Zw}{N:Χ}(z:fa ρ h=.ok [PL,.str] h)(hl:hs.length<=20)(ht:∀x k,k<hs.length->fT ([ω,k]::O7::Yp ρ fr) h=.ok (P (x,k)) h):TV N ff (Y3 fa) 2 fr (VA 0 1) fT ε ρ h=.ok (.lst ((YF P hs).map .str)) h :=cM (nZ z) pS (by rw[lM];lia) (λp hp=>#[_,by unfold VA;rfl,ht p.1 p.2 (by obtain⟨k,hk⟩:=bf hp;simp only[lJ,jc] at hk;obtain⟨a,ha,e⟩:=hk;have:=(aH.mp ha).1;rw[<-e];simp;lia),λ_=>rfl]) (by simp[YF])
theorem vh {ds:Φ}(f:R9 9 O8=tj):SO neg O8 (.lst []) h=.ok (.bl (neg^^ds.isEmpty)) h:=by unfold SO;rw[fV 9 ((ve 9 f).2.2 0)];show Q3 (R9 60 O8&&tj) (QL (YI 60 O8 (.lst [])) _)=_;rw[EQ 51 f];cases ds<;>rfl
noncomputable def YN:Χ:=["mill","mile","ile","m","smile"]
noncomputable def six:Χ:=["mill","oat","hay","ha","oath","mile"]
noncomputable abbrev SU (l:Χ):D:=[Jc,.str]
noncomputable def RU (q:Qi×(Int× Χ)):D:=.tup [.str q.1,.int q.2.1,SU q.2.2]
structure ChoOk (hs:Χ)(q:Qi×(Int× Χ)):Prop where
 nm:q.1∈six
 w1:1<=q.2.1
 w2:q.2.1<=10^57
 ne:q.2.2≠[]
 nd:q.2.2.Nodup
 inn:∀y∈q.2.2,y∈hs
structure W1 (hs gone:Χ)(cs:a9):Prop where
 hl:2<=hs.length/\hs.length<=5
 hf:hs.Sublist YN
 gs:gone.Sublist hs
 cn:'L'.Sublist six
 ck:∀q∈cs,ChoOk hs q
noncomputable def okC (x:Qi):Bool:=cf 1 x.cps.toList.length&&cf x.cps.toList.length 12&&x.cps.toList.all λc=>cf 97 c&&cf c 122
theorem rJ (e:okC x=tj):Xp x:=by simp only[okC,bW,eE,i9] at e;exact#[e.1.1,e.1.2,e.2]
theorem Xt:(∀x∈YN,okC x=tj)/\YN.Nodup:=by decide +kernel
theorem XD:(∀x∈("idle":Qi)::"new"::six,okC x=tj)/\(("idle":Qi)::"new"::six).Nodup:=by decide +kernel
end
section
variable {h:TH}{i j:Nat}{x:Qi}{l hs:Χ}{ns:Zv}{ρ:Rb}{fa fb:RE}{fT:RT}{b:Bool}
theorem ifA {γ:Type}{g:γ->D}{x y:γ}(zT:fT (WJ ρ n (se (g y))) h=.ok b h)(za:fa (WJ ρ n (se (g y))) h=.ok (g x) h):Rc fT [η,fa,n] Q9 (WJ ρ n (se (g y))) h=.ok (.nx (WJ ρ n (se (g (bif b then x else y))))) h:=by cases b with| false=>exact(g8 zT).trans rfl| true =>refine(jg zT).trans ((iE za rfl).trans ?_);rw[eJ,eJ,eJ,ja];rfl
theorem Mb {fu:RO}{ds:Φ}(z1:fa ρ h=.ok O8 h)(z3:fu ρ h=.ok up h):rSl ff fa rO0 fu ρ h=.ok (.lst (cutD ds ng up)) h:=by unfold rSl;rw[z1];show[J9,fu ρ h]=_;rw[z3];rfl
theorem Mc {r:Int}(h0:0<=r)(h4:r<4):∃n,2<=n/\n<=5/\cutD (YN.map .str) ng (se (2+r))=(YN.take n).map .str:=by rcases(show r=0\/r=1\/r=2\/r=3 by lia)with rfl | rfl | rfl | rfl;exact#[2,by decide,by decide,rfl];exact#[3,by decide,by decide,rfl];exact#[4,by decide,by decide,rfl];exact#[5,by decide,by decide,rfl]
theorem rK {c:Int}{m:Int}{a b:Int}(hm:0<m)(za:fa ρ h=.ok (.int c) h)(zb:fb ρ h=.ok (.int a) h)(a0:a≠0)(al:a.natAbs.log2<9000):Qy [ϟ,Qr Rg (Qr Sg fa fb) [΢,m],[΢,b]] ρ h=.ok (decide (c.fdiv a%m=b)) h:=(aQ [Ψ,[Ψ,aD za zb (fj a0 al),mod_int hm],eq_int]).trans (by rw[kB])
theorem E0 {k:Nat}(hk:k<20):((1+(k:Int)*k)≠0)/\(1+(k:Int)*k).natAbs.log2<9000:=by(have e:(1+(k:Int)*k)=((1+k*k:Nat):Int):=by push_cast;rfl);have:k*k<=20*20:=AF (by lia) (by lia);rw[e];refine#[by lia,?_];rw[zO];have:(1+k*k).log2<10:=(wJ (by lia)).mpr (by lia);lia
theorem zdL:∃hs gone cs,VM [.at 0] [ό]=.ok (.tup [NY,Ou,Jl]) [ό]/\[yk,hs,cs]:=by have q0:=mD (k:=0) (h:=[ό]) (i:=0) (ns:=ns) rfl;obtain⟨n,n2,n5,hn⟩:=Mc (kc [Zz,0] (b:=4) (by decide)) (kb _ (by decide));obtain⟨hs,hh⟩:∃hs,hs=YN.take n:=#[_,rfl];rw[<-hh] at hn;(have hl:hs.length=n:=by rw[hh,h8];show min n 5=n;lia);have hf:hs.Sublist YN:=hh▸tY _ _;have nd:=hf.nodup Xt.2;obtain⟨P,hP⟩:∃P:Qi×Nat->Bool,P=λp=>decide ([Zz,1].fdiv (1+p.2*p.2)%4=1):=#[_,rfl];obtain⟨m,hm⟩:=o0 (kc ([Zz,0].fdiv 4) (b:=7) (by decide));have m7:=kb ([Zz,0].fdiv 4) (b:=7) (by decide);obtain⟨ρ2,h2,lp,⟨a1,a2,a3,a4,a5,rfl⟩,cs,rfl,cn,ck⟩:=eM (f:=VZ) (fg:=rN 4) (l:=aM m) (g:=λk:Nat=>D.int k) (fi:=rIr (Qc (Qr Rg (Qr Sg (Q4 QC [ϯ,Qc [΢,0] Qg]) [΢,4]) [΢,7]) Qg)) (ρ:=[se (.at 0),ZS,se (SU (YF P hs)),se (.at 1),ng,ng,ng,ng,ng]) (h:=[ό,.ml []]) (h':=[ό,.ml []]) (λk ρ g=>(∃a1 a2 a3 a4 a5,ρ=[se (.at 0),ZS,se (SU (YF P hs)),se (.at 1),a1,a2,a3,a4,a5])/\∃cs:a9,g=[ό,G5]/\'L'=six.take k/\∀q∈cs,ChoOk hs q) (rk [Ω,[Ψ,[Ψ,[ψ,mD (k:=0) rfl],fj (by decide) (by decide)],(mod_int (by decide)).trans (by rw[hm])]] (by lia)) (λi _ _ _=>rg i) (by rw[jv];lia) #[#[_,_,_,_,_,rfl],[],rfl,rfl,λq hq=>by cases hq] (by rintro k a ρ g ha ⟨⟨a1,a2,a3,a4,a5,rfl⟩,cs,rfl,cn,ck⟩;(have km:k<m:=by simpa using (aH.mp ha).1);(have ea:a=k:=by rw[ju km] at ha;exact(c8 ha).symm);subst ea;(have a6:a<six.length:=by show a<6;lia);(have cl:cs.length<=6:=by have:=congrArg qH cn;rw[h8] at this;simp only[Qq,a8] at this;have:six.length=6:=rfl;lia);obtain⟨c,hc⟩:∃c,c=[Zz,2+a]:=#[_,rfl];obtain⟨bt,hb⟩:∃c,c=[Zz,8+a]:=#[_,rfl];have qc:∀{g:TH},g[0]?=MU->QC [.at 0,.int (2+(a:Int))] g=.ok (.int c) g:=λe=>hc▸mD (k:=2+a) e (by push_cast;rfl);have qb:∀{g:TH},g[0]?=MU->QC [.at 0,.int (8+(a:Int))] g=.ok (.int bt) g:=λe=>hb▸mD (k:=8+a) e (by push_cast;rfl);(have lp:(0:Int)<hs.length:=by lia);obtain⟨y,hy⟩:∃y,hs[a%hs.length]?=Ϥ:=#[_,aJ (Nat.mod_lt _ (by lia))];obtain⟨Q,hQ⟩:∃Q:Qi×Nat->Bool,Q=λp=>decide (bt.fdiv (1+p.2*p.2)%2=0):=#[_,rfl];have sub:=yF (P:=Q) (hs:=hs);have okf:∀x∈YF Q hs,Yn x:=λx hx=>(rJ (Xt.1 x (hf.subset (sub.subset hx)))).ok;refine#[_,rfl,nA (aK [Ϙ,[Ω,[Ψ,rfl,add_int]]] (qc rfl)) (nA [I9,rfl,[Ψ,[Ψ,rfl,fj (by decide) (by decide)],mod_int (by decide)]] (nG (ifA (g:=D.int) (aQ [Ψ,[Ψ,rfl,mod_int (by decide)],eq_int]) [I9,rfl,[Ψ,[Ψ,rfl,fj (by decide) (by decide)],mod_int (by decide)]]) (nA (aK [Ϙ,[Ω,[Ψ,rfl,add_int]]] (qb rfl)) (nA (yG (P:=Q) rfl (by lia) λx j hj=>?_) (nG (ifA (g:=SU) (x:=[y]) (aQ (aD rfl (im rfl rfl) (vh (oA okf)))) (im [Ω,eF rfl (aD rfl [ψ,db] ((mod_int lp).trans (congrArg (λz=>[LM,D.int z]) (Int.natCast_emod a hs.length).symm))) hy] rfl)) (nE (cR (l9 (h0:=[ό]) (t:=[G5]) (l:='W') (k:=0) rfl rfl [Ω,fY [Ω,eF (l:=six) (g:=D.str) (im rfl rfl) rfl (aJ a6)] rfl] (by simp;lia))) #[#[_,_,_,_,_,rfl],cs++[(six[a],(bif ff^^decide (c%7=3)then 1+HK%10^57 else 1+HK%24,bif ff^^((YF Q hs).map D.str).isEmpty then[y]else YF Q hs))],?_,?_,?_]))))))];rw[hQ];have:=E0 (k:=j) (by lia);exact rK (by decide) rfl [I9,rfl,[Ψ,rfl,oj (pZ (by lia)) (pZ (by lia))]] this.1 this.2;rw[cP];rfl;simp only[Qq,cP] at cn ⊢;rw[cn,pq,aJ a6];rfl;.intro q hq;rcases dE.mp hq with hq | hq;exact ck q hq;.rw[cT.mp hq];have r1:=kc HK (b:=24) (by decide);have r2:=kb HK (b:=24) (by decide);have r3:=kc HK (b:=10^57) (by decide);have r4:=kb HK (b:=10^57) (by decide);refine#[kh _,?_,?_,?_,?_,?_];dsimp only;cases(ff^^decide (c%7=3))<;>dsimp only[cond_true,cond_false]<;>lia;dsimp only;cases(ff^^decide (c%7=3))<;>dsimp only[cond_true,cond_false]<;>lia;(all_goals dsimp only;cases e:((YF Q hs).map D.str).isEmpty);simpa using e;simp;exact sub.nodup nd;simp;exactλz hz=>sub.subset hz;intro z hz;rw[cT.mp hz];exact aG hy);refine#[hs,YF P hs,cs,[ώ,sA ((Mb (im rfl rfl) (xZ [I9,rfl,[Ψ,[ψ,q0],mod_int (by decide)]])).trans (congrArg (λd=>[LM,D.lst d]) hn)) (sA (yG (P:=P) rfl (by lia) λx k hk=>?_) (sA (h1:=[ό,.ml []]) (d:=.at 1) rfl (sG lp (sR (fY [Ϙ,[Ϙ,[Ω,rfl]]] rfl) ?_))))],#[by lia,by lia],hf,yF,?_,ck];rw[hP];have:=E0 (k:=k) (by lia);exact rK (by decide) [ψ,mD (k:=1) rfl] [I9,rfl,[Ψ,rfl,oj (pZ (by lia)) (pZ (by lia))]] this.1 this.2;(have c1:∀{k} {l:List Qi},cd 1 (k+2) (SU l):=λ{k l}=>cdm λ_=>by trivial);(have c2:∀d∈'W',fz [ό,G5] 1 7 d=Ϡ:=λd hd=>by obtain⟨q,_,rfl⟩:=lP;refine fV 7 λd hd=>?_;simp only[aT,dQ,or_false] at hd;rcases hd with rfl | rfl | rfl;trivial;trivial;exact c1);(have e3:fz [ό,G5] 1 8 (.at 1)=[π,'W']:=by show TZ (QJ (fz [ό,G5] 1 7) 'W') D.lst=_;rw[jh c2];rfl);show QL (TZ (QJ (fz [ό,G5] 1 8) [NY,SU (YF P hs),.at 1]) D.tup) _=_;rw[show QJ (fz [ό,G5] 1 8) [NY,SU (YF P hs),.at 1]=se [NY,SU (YF P hs),Jl]from Qx.mpr #[_,_,fV 8 c1,Qx.mpr #[_,_,fV 8 c1,Qx.mpr #[_,_,e3,rfl,rfl],rfl],rfl]];rfl;rw[cn];exact tY _ _
end
section
variable {h:TH}{i:Nat}{x:Qi}{l hs gone:Χ}{ns:Zv}{cs t:a9}{ρ:Rb}{c:bz}{f:Qi->Bool}
noncomputable def Xn (hs:Χ) (q:Qi×(Int× Χ)):Qi×(Int× Χ):=(q.1,(q.2.1,hs.filter λy=>decide (y∈q.2.2)))
def Hz (g h:TH)(i:Nat)(c:bz)(t:a9):Prop:=∃R qs,g=[ϧ,.mi 2 (RJ c t R qs)]/\Vz c t R qs
theorem Hz.deed {ev:tv}{c':bz}{t':a9}(il:i<h.length)(cl:Ϣ)(z:Hz g h i c t)(d:∀{R qs},Cl g->Vz c t R qs->g[i]?=[Ϟ,2,RJ c t R qs]->iF ev g i c qs c' t'):∃v g',ev=.ok v g'/\Hz g' h i c' t':=by obtain⟨R,qs,rfl,H⟩:=z;obtain⟨R',cg,e,H'⟩:=d (cl.set pW) H (gT il);exact#[_,_,e,R',cg,by rw[ja],H']
theorem Hz.at_ (il:i<h.length)(z:Hz g h i c t):∃ds,g[i]?=[Ϟ,2,ds]:=by obtain⟨R,qs,rfl,H⟩:=z;exact#[_,gT il]
theorem vk (S:[yk,hs,cs])(hx:x∈hs):Xp x:=rJ (Xt.1 x (S.hf.subset hx))
theorem W1.nd (S:[yk,hs,cs]):hs.Nodup:=S.hf.nodup Xt.2
theorem W1.cnd (S:[yk,hs,cs]):'L'.Nodup:=S.cn.nodup (by have:=XD.2;simp only[eA] at this;exact this.2.2)
theorem W1.cl (S:[yk,hs,cs]):cs.length<=6:=by have:=S.cn.length_le;simp only[Qq,a8] at this;exact this
theorem yH (S:[yk,hs,cs])(hq:q∈cs):Xp q.1:=rJ (XD.1 _ (.tail _ (.tail _ (S.ck q hq).nm)))
theorem vm {l:υ}(h:l[n]?=lT):l.take (n+1)=l.take n++[a]:=by rw[pq,h];rfl
theorem rL {g:Qi×(Int× Χ)->Qi×(Int× Χ)}(e:∀q,(g q).1=q.1):Qq (cs.map g)='L':=by unfold Qq;rw[cj];exact cq λq _=>e q
theorem E1 {fi:RI}{fg:RG}{fs:RS}(S:[yk,hs,cs])(il:i<h.length)(cl:Ϣ)(Iρ:Rb->Prop)(he:fi ρ g=.ok (VE NY) g)(h0:I8)(z:Hz g h i [] []) (hb:∀x ρ,I8->∃ ρ1,fg ϋ ρ=ZR/\Iρ ρ1/\∀{g g' ds v},g[i]?=[Ϟ,2,ds]->S9 [.at i,ϋ] g=.ok v g'->fs ρ1 g=[ϱ,ρ1,g']):On (Sj fi fg fs ρ g) fun ρ g=>I8/\Hz g h i (Tz hs λ_=>tj) []:=by have l5:=S.hl;(refine(eM (l:=hs) (g:=D.str) (λn ρ g=>I8/\Hz g h i (Tz (hs.take n) λ_=>tj) []) he (λn _ _ _=>cU n) (by lia) #[h0,z] ?_).imp fun ρ g=>by rw[kE];exact id);rintro n x ρ g hx ⟨I,z⟩;obtain⟨ρ1,e1,I1,e2⟩:=hb x ρ I;have nl:='+'.1;obtain⟨ds,e3⟩:=Kj;obtain⟨v,g',e4,z'⟩:=z.deed (ev:=S9 [.at i,ϋ] g) il cl λ{R qs} cl H eh=>LY cl H eh (vk S Nw) (by rw[jJ];intro k;obtain⟨m,hm⟩:=bf k;rw[nH] at hm;split at hm;have:=NAL.UL S.nd hm hx;lia;cases hm) (by simp[Tz];lia);refine#[ρ1,e1,nE (e2 e3 e4) #[I1,?_]];rw[vm hx];unfold Tz;rw[cP];exact z'
theorem E2 {fi:RI}{fg:RG}{fs:RS}(S:[yk,hs,cs])(il:i<h.length)(cl:Ϣ)(Iρ:Rb->Prop)(he:fi ρ g=.ok (VE Ou) g)(h0:I8)(z:Hz g h i (Tz hs λ_=>tj) t) (hb:∀x ρ,I8->∃ ρ1,fg ϋ ρ=ZR/\Iρ ρ1/\∀{g g' ds v},g[i]?=[Ϟ,2,ds]->Q7 [.at i,ϋ] g=.ok v g'->fs ρ1 g=[ϱ,ρ1,g']):On (Sj fi fg fs ρ g) fun ρ g=>I8/\Hz g h i (Tz hs λx=>[Ϫ,x,gone]) t:=by have l5:=S.hl;have gl:=S.gs.length_le;(refine(eM (l:=gone) (g:=D.str) (λn ρ g=>I8/\Hz g h i (Tz hs λx=>[Ϫ,x,gone.take n]) t) he (λn _ _ _=>cU n) (by lia) #[h0,by simpa using z] ?_).imp fun ρ g=>by rw[kE];exact id);rintro n x ρ g hx ⟨I,z⟩;obtain⟨ρ1,e1,I1,e2⟩:=hb x ρ I;obtain⟨ds,e3⟩:=Kj;have xh:=S.gs.subset Nw;obtain⟨v,g',e4,z'⟩:=z.deed (ev:=Q7 [.at i,ϋ] g) il cl λ{R qs} cl H eh=>yA cl H eh (by rw[pY xh];refine congrArg se (P9 λk=>?_);obtain⟨m,hm⟩:=bf k;rw[nH] at hm;split at hm;have:=NAL.UL (S.gs.nodup S.nd) hm hx;lia;cases hm);refine#[ρ1,e1,nE (e2 e3 e4) #[I1,?_]];rw[oB S.nd xh] at z';rw[vm hx];(have:(Tz hs λy=>if y=x then ff else[Ϫ,y,gone.take n])=Tz hs λy=>[Ϫ,y,gone.take n++[x]]:=vg λy _=>by by_cases e:y=x<;>simp[e]);rwa [this] at z'
theorem mE {w:Int}(w0:0<=w)(w1:w<=10^58):Bd 300 w:=by show Int.natAbs _<2^300;lia
theorem zdP (S:[yk,hs,cs]):∃g,Um [NY,Ou,Jl] [ό]=.ok (.at 1) g/\Hz g [ό,.no] 1 (Tz hs λx=>[Ϫ,x,gone]) 'Z':=by(have cl:Cl [ό,.no]:=λo ho=>by simp only[aT,dQ,or_false] at ho;rcases ho with rfl | rfl<;>trivial);have l5:=S.hl;have c6:=S.cl;obtain⟨ρ1,g1,q1,⟨y1,rfl⟩,z1⟩:=E1 (fi:=G9) (fg:=rN 4) (fs:=U4) (ρ:=[ZS,JO,[π,'W'],se (.at 1),ng,ng,ng]) (g:=[ό,.mi 2 (RJ [] [] [] [])]) (h:=[ό,.no]) (i:=1) S (show 1<2 by decide) cl (fun ρ=>∃y,ρ=[ZS,JO,[π,'W'],se (.at 1),y,ng,ng]) rfl #[_,rfl] #[[],[],rfl,EZ] (by rintro x ρ ⟨y,rfl⟩;exact#[_,rfl,#[_,rfl],λe1 e2=>cR [ϊ,e1,rfl,e2]]);obtain⟨ρ2,g2,q2,⟨y4,y5,y6,rfl⟩,z2⟩:=eM (fi:=Wp) (fg:=Yl 4 5 6) (f:=U3) (ρ:=[ZS,JO,[π,'W'],se (.at 1),y1,ng,ng]) (h:=g1) (h':=g1) (l:=cs) (g:=RU) (λn ρ g=>(∃y4 y5 y6,ρ=[ZS,JO,[π,'W'],se (.at 1),y4,y5,y6])/\Hz g [ό,.no] 1 (Tz hs λ_=>tj) ((cs.take n).map Nh)) rfl (λn _ _ _=>cU n) (by lia) #[#[_,_,_,rfl],z1] (by rintro n q ρ g hq ⟨⟨y4,y5,y6,rfl⟩,z⟩;obtain⟨ds,e3⟩:=z.at_ (show 1<2 by decide);have qc:=La;have K:=S.ck q qc;have nl:='w'.1;have xl:=KP;obtain⟨v,g',e4,z'⟩:=z.deed (ev:=QZ [.at 1,.str q.1,.int q.2.1,SU q.2.2] g) (show 1<2 by decide) cl λ{R qs} cl H eh=>yB cl H eh (yH S qc) (by rw[rL (g:=Nh) λq=>rfl];intro k;obtain⟨m,hm⟩:=bf k;simp only[Qq,bo,jc] at hm;obtain⟨q',h1,h2⟩:=hm;rw[nH] at h1;split at h1;have:=NAL.UL S.cnd (show 'L'[m]?=se q.1 by simp[Qq,h1,h2]) (show 'L'[n]?=se q.1 by simp[Qq,hq]);lia;cases h1) K.w1 (mE (by have:=K.w1;lia) (by have:=K.w2;lia)) K.ne (by rw[jJ];exact K.inn) K.nd (by lia) (by simp;lia);refine#[_,by unfold Yl RU;rfl,nE (cR [ϊ,e3,[Ϙ,[Ϙ,[Ω,[ψ,rfl]]]],e4]) #[#[_,_,_,rfl],?_]];rw[jJ] at z';rw[vm hq,cP];exact z');rw[kE] at z2;obtain⟨ρ3,g3,q3,⟨y4,y5,y6,rfl⟩,z3⟩:=E2 (fi:=Z1) (fg:=rN 4) (fs:=U2) (ρ:=[ZS,JO,[π,'W'],se (.at 1),y4,y5,y6]) S (show 1<2 by decide) cl (fun ρ=>∃y4 y5 y6,ρ=[ZS,JO,[π,'W'],se (.at 1),y4,y5,y6]) rfl #[_,_,_,rfl] z2 (by rintro x ρ ⟨y4,y5,y6,rfl⟩;exact#[_,rfl,#[_,_,_,rfl],λe1 e2=>cR [ϊ,e1,rfl,e2]]);exact#[g3,Cu rfl (sA (d:=.at 1) (h1:=[ό,.mi 2 (RJ [] [] [] [])]) rfl (sG q1 (sG q2 (sG q3 (sR rfl rfl))))),z3]
end
section
variable {g h:TH}{i:Nat}{x:Qi}{l hs gone:Χ}{cs t:a9}{ρ:Rb}{fT fU:RT}{a b:Bool}{c:bz}{f:Qi->Bool}{cell k:Int}
theorem p4 (x:fT ρ h=.ok a h)(y:fU ρ h=.ok b h):Ul fT fU ρ h=.ok (a&&b) h:=by unfold Ul;rw[x];cases a;rfl;exact y
theorem vo {l:υ}(n:Int)(ne:l≠[]):∃(k:Nat) (x:α),n%l.length=k/\l[k]?=σ:=by(have p:(0:Int)<l.length:=by have:=eY.mpr ne;lia);obtain⟨k,hk⟩:=o0 (kc n (by exact d9 p));have:=kb n p;exact#[k,_,hk,aJ (by lia)]
theorem W1.ne (S:[yk,hs,cs]):hs≠[]:=λe=>by have:=S.hl.1;rw[e] at this;exact absurd this (by decide)
theorem Hz.len (z:Hz g h i c t):g.length=h.length:=by obtain⟨R,qs,rfl,_⟩:=z;exact eD
theorem vq {α:Type}{l:List (Qi×α)}{v:α}(n:x∉'O'):Sr x (l++[(x,v)])=ZJ:=by induction l with| nil=>exact P8 rfl| cons p l ih =>show(if p.1=x then _ else Sr x (l ++ [(x,v)]))=_;rw[P7 λe=>n (by rw[<-e];exact .head _)];exact ih λm=>n (.tail _ m)
theorem E3 {α:Type}{l:List (Qi×α)}{v:α}(n:x∉'O'):Wc x (l++[(x,v)])=l:=by unfold Wc;rw[qE,(tR (p:=λp=>decide (p.1≠x))).mpr λp hp=>P9 λe=>n (aO.mpr #[p,hp,e])];simp
theorem E4 {w w':Int}(n:x∉'b'):(t++[(x,(w,l))]).map (Sm x w')=t++[(x,(w',l))]:=by rw[cP];congr 1;(conv=>rhs;rw[<-nJ t]);refine cq λp hp=>?_;unfold Sm;rw[P7 λe=>n (aO.mpr #[p,hp,e])];rfl;simp[Sm]
variable (S:[yk,hs,cs])(il:i<h.length)(cl:Ϣ)(z:Hz g h i (Tz hs f) t)
include S il cl z
theorem E5 {w:Int}(nm:Xp x)(nw:x∉'b')(w1:1<=w)(w2:w<=10^58)(ne:l≠[])(nd:l.Nodup)(inn:∀y∈l,y∈hs)(tl:t.length<=6):∃v g',QZ [.at i,ϋ,He,SU l] g=.ok v g'/\Hz g' h i (Tz hs f) (t++[(x,(w,hs.filter λy=>decide (y∈l)))]):=by have l5:=S.hl;have:=Jj;have r:=z.deed (ev:=QZ [.at i,ϋ,He,SU l] g) il cl λ{R qs} cl H eh=>yB cl H eh nm nw w1 (mE (by lia) w2) ne (by rw[jJ];exact inn) nd (by lia) (by lia);rwa [jJ] at r
theorem vr {b:Bool}(hx:x∈hs)(e:f x=! b):(∃v g',(if b then Ry [.at i,ϋ] g else Q7 [.at i,ϋ] g)=.ok v g'/\Hz g' h i (Tz hs λy=>if y=x then b else f y) t):=by(have lk:Sr x (Tz hs f)=se (! b):=by rw[pY hx,e]);cases b with| true =>have r:=z.deed (ev:=Ry [.at i,ϋ] g) il cl λ{R qs} cl H eh=>EG cl H eh lk;rw[oB S.nd hx] at r;exact r| false =>have r:=z.deed (ev:=Q7 [.at i,ϋ] g) il cl λ{R qs} cl H eh=>yA cl H eh lk;rw[oB S.nd hx] at r;exact r
theorem zaf (ti:("idle":Qi)∉'b')(tl:t.length<=6):∃g' f',U9 [.at i,NY,Oz,LV] g=[ZW,g']/\Hz g' h i (Tz hs f') t:=by obtain⟨m,x,hm,hx⟩:=vo (cell.fdiv 3) S.ne;have xh:=Nw;(have lp:(0:Int)<hs.length:=by have:=S.hl.1;lia);obtain⟨ds,e3⟩:=Kj;have go:∀{f'} {g':TH} {ρ':Rb},Hz g' h i (Tz hs f') t->(∀ ρ,ρ=[se (.at i),ZS,[ω,cell],[ω,k],O7]->Rc (Ul (Qy [ϟ,Qr Rg χ [΢,6],[΢,0]]) (Qy [ϟ,Qr Rg θ [΢,3],[΢,0]])) (Ql (TN [Ϗ,2,QZ,Qc [ϰ,"idle"] (Qc [ϻ,[΢,1],Qr Rg (Qr Sg θ [΢,15]) [΢,50]] (Qc (Rk ff (Qc μ Qg)) Qg))]) (TN [Ϗ,2,Sy,Qc [ϰ,"idle"] Qg])) (Rc (Ul (Qy [ϟ,Qr Rg χ [΢,6],[΢,3]]) (Qy [ϟ,Qr Rg θ [΢,3],[΢,1]])) (Rc (Qy [Ϗ,2,Q1,Qc μ Qg]) (TN [Ϗ,2,Q7,Qc μ Qg]) (TN [Ϗ,2,Ry,Qc μ Qg])) Q9) ρ g=[ϱ,ρ',g'])->∃g' f',U9 [.at i,NY,Oz,LV] g=[ZW,g']/\Hz g' h i (Tz hs f') t:=λ{f' g' ρ'} z' e=>#[g',f',[ώ,sA (eF rfl (aD [Ψ,rfl,fj (by decide) (by decide)] [ψ,db] ((mod_int lp).trans (congrArg (λz=>[LM,D.int z]) hm))) hx) (sE (e _ rfl) (bH (z'.len.trans z.len.symm)))],z'];(have t1:∀{u v:Int} {ρ:Rb},ρ=[se (.at i),ZS,[ω,cell],[ω,k],O7]->Ul (Qy [ϟ,Qr Rg χ [΢,6],[΢,u]]) (Qy [ϟ,Qr Rg θ [΢,3],[΢,v]]) ρ g=.ok (decide (k%6=u)&&decide (cell%3=v)) g:=λ{u v ρ} e=>by subst e;exact(p4 (aQ [Ψ,[Ψ,rfl,mod_int (by decide)],eq_int]) (aQ [Ψ,[Ψ,rfl,mod_int (by decide)],eq_int])).trans (by simp));cases b1:decide (k%6=0)&&decide (cell%3=0)with| true =>have r1:=kc JH (b:=50) (by decide);have r2:=kb JH (b:=50) (by decide);obtain⟨v,g1,q1,z1⟩:=E5 (w:=1+JH%50) S il cl z (rJ (XD.1 "idle" Ix)) ti (by lia) (by lia) (l:=[x]) (by simp) (by simp) (by simpa using xh) tl;obtain⟨ds1,e4⟩:=z1.at_ il;obtain⟨v2,g2,q2,z2⟩:=z1.deed (ev:=Sy [.at i,.str "idle"] g1) il cl λ{R qs} cl H eh=>Ez cl H eh (vq ti);rw[E3 ti] at z2;exact go z2 fun ρ e=>by have:=t1 (u:=0) (v:=0) e;subst e;rw[b1] at this;exact(jg this).trans ((l8 (cR [ϊ,e3,[Ϙ,aE [I9,rfl,[Ψ,[Ψ,rfl,fj (by decide) (by decide)],mod_int (by decide)]] [Ω,im rfl rfl]],q1])).trans (cR [ϊ,e4,rfl,q2]))| false =>cases b2:decide (k%6=3)&&decide (cell%3=1)with| false =>exact go z fun ρ e=>by have u1:=t1 (u:=0) (v:=0) e;have u2:=t1 (u:=3) (v:=1) e;subst e;rw[b1] at u1;rw[b2] at u2;exact(g8 u1).trans ((g8 u2).trans rfl)| true =>(have it:∀{b},f x=b->Q1 [.at i,ϋ] g=.ok (.bl b) g:=λ{b} e=>by obtain⟨R,qs,rfl,H⟩:=z;exact ET (gT il) (by rw[pY xh,e]));cases fx:f x with| true =>obtain⟨v,g1,q1,z1⟩:=vr (b:=ff) S il cl z xh fx;exact go z1 fun ρ e=>by have u1:=t1 (u:=0) (v:=0) e;have u2:=t1 (u:=3) (v:=1) e;subst e;rw[b1] at u1;rw[b2] at u2;exact(g8 u1).trans ((jg u2).trans ((jg (aQ [ϊ,e3,rfl,it fx])).trans (cR [ϊ,e3,rfl,q1])))| false =>obtain⟨v,g1,q1,z1⟩:=vr (b:=tj) S il cl z xh fx;exact go z1 fun ρ e=>by have u1:=t1 (u:=0) (v:=0) e;have u2:=t1 (u:=3) (v:=1) e;subst e;rw[b1] at u1;rw[b2] at u2;exact(g8 u1).trans ((jg u2).trans ((g8 (aQ [ϊ,e3,rfl,it fx])).trans (cR [ϊ,e3,rfl,q1])))
end
section
variable {g h:TH}{i:Nat}{l hs gone:Χ}{cs t:a9}{ρ:Rb}{fa fb:RE}{a b:Bool}{f:Qi->Bool}{q:Qi×(Int× Χ)}
theorem zed {l:XK}{g':γ->D}{k:Nat}{y:γ}(z1:fa ρ g=.ok (.at i) g)(e:g[i]?=[ϥ,l.map g'])(z2:fb ρ g=.ok LV g)(hk:l[k]?=Ϥ):Y1 fa fb ρ g=.ok (g' y) (g.set i (.ml ((l.eraseIdx k).map g'))):=by(have em:UZ g (.at i)=se (i,l.map g'):=by unfold UZ;dsimp only;rw[aW,e]);unfold Y1;rw[z1];show QL (UZ g (.at i)) _=_;rw[em];show[J9,fb ρ g]=_;rw[z2];show QL (UZ g (.at i)) _=_;rw[em];show QL (eg (l.map g') k) _=_;rw[aW,bo,hk];show RX.R.ok (g' y) (RX.hs g i (.ml ((l.map g').eraseIdx k)))=_;rw[iD,vT,vT,cP,wD,wE]
theorem Mh {N:Χ}(z:fa ρ g=.ok (SU l) g)(hl:l.length<=20):TV N ff (rIv fa) 1 [] ϙ Rf ζ ρ g=.ok (SU l.reverse) g:=by refine(El (l:=l.reverse) (g:=D.str) (v:=D.str) (nx:=nRv (SU l) l.length) ?_ (λi hi=>?_) (by simp;lia) λx hx=>#[_,rfl,rfl]).trans rfl;unfold rIv;rw[z];show RX.R.ok (nRv (SU l) (Rx Im)) g=_;rw[aR,a8];rw[Ah] at hi;unfold nRv;rcases AB hi with h | h;rw[bR.mpr h];show(bif bJ (Rx Im) l.length then se (eg Im (l.length-1-i))else ng)=_;rw[aR,a8,gE,aW,List.map_reverse,List.getElem?_reverse (by simpa using h),a8];rfl;subst h;rw[show bq l.length l.length=ff from gj.mpr λz=>absurd Mo (nQ _),gE];simp
theorem zbY {l:XK}(h:l[k]?=Ϥ):l.Perm (y::l.eraseIdx k):=by obtain⟨hl,e⟩:='M';rw[<-e,vT];(conv=>lhs;rw[<-List.take_append_drop k l,qz hl]);exact List.perm_middle
theorem Mj (S:[yk,hs,cs])(il:i<h.length)(cl:Ϣ)(z:Hz g h i (Tz hs f) t)(K:ChoOk hs q)(nm:Xp q.1)(nw:q.1∉'b')(tl:t.length<=6){cell:Int}{o:Rb}(ho:o=[d0,d1,d2,d3,se (.at i),se (.str q.1),d6,d7,[ω,cell],[ω,q.2.1],d10,se (SU q.2.2.reverse)]):∃g',Rc (Ul (Qy [ϟ,Qr Rg (Qr Sg tE [΢,6]) [΢,3],[΢,1]]) [ϗ,X2,Hb,[΢,1]]) (Ql (TN [My,2,QZ,[ZG,Qc [ϻ,[΢,1],Qr Rg (Qr Sg tE [΢,18]) (Qr UN Hb [΢,1])] (Qc (rV 11) Qg)]]) (TN [My,2,Sw,[ZG,Qc (Qr UN (Qr UN Hb [΢,1]) (Qr Rg (Qr Sg tE [΢,18]) (Qr UN Hb [΢,1]))) Qg]])) (Rc (Qy [ϟ,Qr Rg (Qr Sg tE [΢,6]) [΢,3],[΢,2]]) (Ql (TN [My,2,QZ,[ZG,Qc [ϻ,[ϻ,Hb,[΢,1]],Qr Rg (Qr Sg tE [΢,18]) [΢,40]] (Qc (rV 11) Qg)]]) (TN [My,2,Si,[ZG,Qc [ϻ,[΢,1],Qr Rg (Qr Sg tE [΢,18]) [΢,40]] Qg]])) (TN [My,2,QZ,[ZG,Qc Hb (Qc (rV 11) Qg)]])) o g=[ϱ,o,g']/\Hz g' h i (Tz hs f) (t++[Xn hs q]):=by obtain⟨ds,e3⟩:=Kj;have w1:=K.w1;have w2:=K.w2;(have fe:∀{w:Int},t++[(q.1,(w,hs.filter λy=>decide (y∈q.2.2.reverse)))]=t++[(q.1,(w,hs.filter λy=>decide (y∈q.2.2)))]:=λ{w}=>by simp);(have pt:∀{w:Int},1<=w->w<=10^58->∃v g',QZ [.at i,.str q.1,He,SU q.2.2.reverse] g=.ok v g'/\Hz g' h i (Tz hs f) (t++[(q.1,(w,hs.filter λy=>decide (y∈q.2.2)))]):=λ{w} a b=>by have:=E5 (w:=w) (l:=q.2.2.reverse) S il cl z nm nw a b (by simpa using K.ne) ((List.reverse_perm _).nodup_iff.mpr K.nd) (λy hy=>K.inn y (by simpa using hy)) tl;rwa [fe] at this);(have t1:Ul (Qy [ϟ,Qr Rg (Qr Sg tE [΢,6]) [΢,3],[΢,1]]) [ϗ,X2,Hb,[΢,1]] o g=.ok (decide (Os%3=1)&&decide (1<q.2.1)) g:=by subst ho;exact p4 (rK (by decide) rfl rfl (by decide) (by decide)) (aQ [Ψ,rfl,gt_int]));cases b1:decide (Os%3=1)&&decide (1<q.2.1)with| true =>have gt:=Qa (qq.mp b1).2;obtain⟨r,hr⟩:∃r,r=N7%(q.2.1-1):=#[_,rfl];have r1:=kc N7 (show q.2.1-1≠0 by lia);have r2:=kb N7 (show 0<q.2.1-1 by lia);rw[<-hr] at r1 r2;obtain⟨v,g1,q1,z1⟩:=pt (w:=1+r) (by lia) (by lia);obtain⟨ds1,e4⟩:=z1.at_ il;obtain⟨v2,g2,q2,z2⟩:=z1.deed (ev:=Sw [.at i,.str q.1,.int (q.2.1-1-r)] g1) il cl λ{R qs} cl H eh=>EJ cl H eh (vq nw) (by lia) (mE (by lia) (by lia)) ((mE (by lia) (by lia)).le (by decide));rw[E4 nw,show 1+r+(q.2.1-1-r)=q.2.1 by lia] at z2;refine#[g2,?_,z2];rw[b1] at t1;refine(jg t1).trans ?_;subst ho;(have md:∀{g:TH} {o:Rb},o=[d0,d1,d2,d3,se (.at i),se (.str q.1),d6,d7,[ω,cell],[ω,q.2.1],d10,se (SU q.2.2.reverse)]->Qr Rg (Qr Sg tE [΢,18]) (Qr UN Hb [΢,1]) o g=.ok (.int r) g:=λ{g o} e=>by subst e;rw[hr];exact aD [Ψ,rfl,fj (by decide) (by decide)] [Ψ,rfl,sub_int] (mod_int (by lia)));exact(l8 (cR [ϊ,e3,[Ϙ,[Ω,[I9,rfl,md rfl]]],q1])).trans (cR [ϊ,e4,[Ϙ,[Ω,aD [Ψ,rfl,sub_int] (md rfl) sub_int]],q2])| false =>rw[b1] at t1;(have t2:Qy [ϟ,Qr Rg (Qr Sg tE [΢,6]) [΢,3],[΢,2]] o g=.ok (decide (Os%3=2)) g:=by subst ho;exact rK (by decide) rfl rfl (by decide) (by decide));cases b2:decide (Os%3=2)with| true =>rw[b2] at t2;have r1:=kc N7 (b:=40) (by decide);have r2:=kb N7 (b:=40) (by decide);obtain⟨v,g1,q1,z1⟩:=pt (w:=q.2.1+1+N7%40) (by lia) (by lia);obtain⟨ds1,e4⟩:=z1.at_ il;obtain⟨v2,g2,q2,z2⟩:=z1.deed (ev:=Si [.at i,.str q.1,.int (1+N7%40)] g1) il cl λ{R qs} cl H eh=>EK cl H eh (vq nw) (by lia) (by lia) (mE (by lia) (by lia)) (pZ (by lia));rw[E4 nw,show q.2.1+1+N7%40-(1+N7%40)=q.2.1 by lia] at z2;refine#[g2,(g8 t1).trans ((jg t2).trans ?_),z2];subst ho;exact(l8 (cR [ϊ,e3,[Ϙ,[Ω,[I9,[Ψ,rfl,add_int],[Ψ,[Ψ,rfl,fj (by decide) (by decide)],mod_int (by decide)]]]],q1])).trans (cR [ϊ,e4,[Ϙ,[Ω,[I9,rfl,[Ψ,[Ψ,rfl,fj (by decide) (by decide)],mod_int (by decide)]]]],q2])| false =>rw[b2] at t2;obtain⟨v,g1,q1,z1⟩:=pt (w:=q.2.1) w1 (by lia);refine#[g1,(g8 t1).trans ((g8 t2).trans ?_),z1];subst ho;exact cR [ϊ,e3,rfl,q1]
end
section
variable {g:TH}{i:Nat}{x:Qi}{l hs gone:Χ}{ns:Zv}{cs t:a9}{ρ:Rb}{a b:Bool}{c:bz}{f:Qi->Bool}{q:Qi×(Int× Χ)}{A:TM}
noncomputable abbrev En (hs gone:Χ) (cs:a9) (y5 y6 y7 y8 y9 jo iT:VK):Rb:=[se (.at 0),ZS,JO,[π,'W'],se (.at 2),y5,y6,y7,y8,y9,jo,iT]
abbrev E6 (hs gone:Χ)(cs:a9)(y6:VK)(ρ:Rb):Prop:=∃y5 y7 y8 y9 jo iT,ρ=En hs gone cs y5 y6 y7 y8 y9 jo iT
theorem yI {B C:TM}(cA:∀n,ct n A)(cB:∀n,ct n B)(cC:∀n,ct n C):Cl [ό,A,B,C]:=λo ho=>by simp only[aT,dQ,or_false] at ho;rcases ho with rfl | rfl | rfl | rfl;trivial;exact cA _;exact cB _;exact cC _
theorem zdQ {l:a9}:ct n (.ml (l.map RU)):=λd hd=>by obtain⟨q,_,rfl⟩:=lP;intro d hd;simp only[aT,dQ,or_false] at hd;rcases hd with rfl | rfl | rfl;trivial;trivial;exact cdm λ_=>by trivial
theorem Mm (S:[yk,hs,cs])(cA:∀n,ct n A)(h0:E6 hs gone cs (se (.at 3)) ρ)(z:Hz g [ό,A,.no,G5] 2 (Tz hs f) []):On (Sj (rIr (Qc (Q4 Rp (Qc χ Qg)) Qg)) (rN 7) Vn ρ g) fun ρ g=>E6 hs gone cs (se (.at 3)) ρ/\∃t,Hz g [ό,A,.no,.ml []] 2 (Tz hs f) t/\Hu:=by have c6:=S.cl;obtain⟨y5,y7,y8,y9,jo,iT,rfl⟩:=h0;refine(eM (l:=aM cs.length) (g:=λk:Nat=>D.int k) (λn ρ g=>E6 hs gone cs (se (.at 3)) ρ/\∃t rest,Hz g [ό,A,.no,.ml (rest.map RU)] 2 (Tz hs f) t/\(t++rest.map Nh).Perm 'Z'/\rest.length+n=cs.length/\∀q∈rest,q∈cs) (rk [Ω,[ψ,db]] (by lia)) (λn _ _ _=>rg n) (by simp;lia) #[#[_,_,_,_,_,_,rfl],[],cs,z,lQ _,rfl,λq hq=>hq] ?_).imp fun ρ g=>?_;rintro n a ρ g ha ⟨⟨y5,y7,y8,y9,jo,iT,rfl⟩,t,rest,z,pm,rl,rc⟩;(have nl:n<cs.length:=by simpa using (aH.mp ha).1);(have ea:a=n:=by rw[ju nl] at ha;exact(c8 ha).symm);subst ea;(have rn:rest≠[]:=λe=>by rw[e] at rl;simp at rl;lia);(have rp:(0:Int)<rest.length:=by have:=eY.mpr rn;lia);obtain⟨cell,hc⟩:∃c,c=[Zz,15+a]:=#[_,rfl];obtain⟨m,q,hm,hq⟩:=vo cell rn;have qc:∀{g:TH},g[0]?=MU->QC [.at 0,.int (15+(a:Int))] g=.ok Oz g:=λe=>hc▸mD (k:=15+a) e (by push_cast;rfl);have qm:=rc q La;have K:=S.ck q qm;have kl:=KP;have l5:=S.hl;have pl:=pm.length_eq;simp only[eU,a8] at pl;have ep:=zbY hq;(have nw:q.1∉'b':=λk=>by have nd:(Qq (t++rest.map Nh)).Nodup:=((pm.map Prod.fst).nodup_iff (l₂:=Qq 'Z')).mpr (by rw[rL (g:=Nh) λq=>rfl];exact S.cnd);unfold Qq at nd;rw[cP,kD] at nd;exact nd.2.2 _ k q.1 (aO.mpr #[Xn hs q,aO.mpr #[q,La,rfl],rfl]) rfl);obtain⟨R,qs,rfl,H⟩:=z;have z1:Hz [ό,A,.mi 2 (RJ (Tz hs f) t R qs),.ml ('o'.map RU)] [ό,A,.no,.ml ('o'.map RU)] 2 (Tz hs f) t:=#[R,qs,rfl,H];obtain⟨g2,e2,z2⟩:=Mj (d0:=se (.at 0)) (d1:=ZS) (d2:=JO) (d3:=[π,'W']) (d6:=se (.at 3)) (d7:=[ω,a]) (d10:=se (SU q.2.2)) (cell:=cell) S (show 2<4 by decide) (yI (B:=.no) (C:=.ml ('o'.map RU)) cA (λ_=>trivial) λ_=>zdQ) z1 K (yH S qm) nw (by lia) rfl;refine#[_,rfl,nA (aK [Ϙ,[Ω,[Ψ,rfl,add_int]]] (qc rfl)) (nG (ρ1:=En hs gone cs (se (.str q.1)) (se (.at 3)) [ω,a] [ω,cell] [ω,q.2.1] (se (SU q.2.2)) iT) (iE (zed (g':=RU) (i:=3) rfl rfl (aD rfl [ψ,mj (l:=rest.map RU) rfl] (by rw[a8];exact(mod_int rp).trans (by rw[hm]))) hq) (by unfold Yl RU;rfl)) (nA (Mh (l:=q.2.2) rfl (by lia)) (nE e2 #[#[_,_,_,_,_,_,rfl],_,_,z2,?_,?_,?_])))];rw[gb];exact(List.Perm.append_left t ((ep.map Nh).symm)).trans pm;have:=ep.length_eq;simp only[fS] at this;lia;exactλy hy=>rc y (List.mem_of_mem_eraseIdx hy);rw[jv];rintro⟨e,t,rest,z,pm,rl,_⟩;have:rest=[]:=nj.mp (by lia);subst this;exact#[e,t,z,by simpa using pm]
theorem zcY (S:[yk,hs,cs])(cl:Cl [ό,A,.no,.ml []])(hn:ns.length<=63)(h0:E6 hs gone cs (se (.at 3)) ρ)(ti:("idle":Qi)∉'b')(tl:t.length<=6)(z:Hz g [ό,A,.no,.ml []] 2 (Tz hs f) t):On (Sj (Y3 (rSl ff ζ (Zp [΢,21]) (Zp [΢,63]))) (VA 7 8) Vm ρ g) fun ρ g=>E6 hs gone cs (se (.at 3)) ρ/\∃f,Hz g [ό,A,.no,.ml []] 2 (Tz hs f) t:=by obtain⟨y5,y7,y8,y9,jo,iT,rfl⟩:=h0;obtain⟨L,hL⟩:∃L,L=(ns.drop (NAH.Ts ns.length 0 (se 21))).take (NAH.Ts ns.length ns.length (se 63)-NAH.Ts ns.length 0 (se 21)):=#[_,rfl];(have LL:L.length<=63:=by rw[hL];simp only[h8,Ak];lia);(have e0:g[0]?=MU:=by obtain⟨R,qs,rfl,H⟩:=z;rfl);(have sl:rSl ff ζ (Zp [΢,21]) (Zp [΢,63]) (En hs gone cs y5 (se (.at 3)) y7 y8 y9 jo iT) g=.ok (.lst (L.map .int)) g:=by show QL (eS g (.at 0)) _=_;rw[show eS g (.at 0)=se KD by unfold eS;dsimp only;rw[aW,e0]];show RX.R.ok (D.lst (cutD KD (se 21) (se 63))) g=_;rw[hL];unfold cutD;rw[a8,wD,wE]);refine(eM (l:=L.zipIdx) (g:=λp=>D.tup [.int p.2,.int p.1]) (λn ρ g=>E6 hs gone cs (se (.at 3)) ρ/\∃f,Hz g [ό,A,.no,.ml []] 2 (Tz hs f) t) (nZ sl) (λn _ _ _=>pS n) (by rw[lM];lia) #[#[_,_,_,_,_,_,rfl],f,z] ?_).imp fun ρ g z=>z;rintro n p ρ g hp ⟨⟨y5,y7,y8,y9,jo,iT,rfl⟩,f,z⟩;obtain⟨g',f',e,z'⟩:=zaf (cell:=p.1) (k:=p.2) S (show 2<4 by decide) cl z ti tl;exact#[_,by unfold VA;rfl,nE (cR [ψ,e]) #[#[_,_,_,_,_,_,rfl],f',z']]
theorem zdi (S:[yk,hs,cs])(cl:Cl [ό,A,.no,.ml []])(h0:E6 hs gone cs (se (.at 3)) ρ)(z:Hz g [ό,A,.no,.ml []] 2 (Tz hs f) t):On (Sj Z1 (rN 5) Vl ρ g) fun ρ g=>E6 hs gone cs (se (.at 3)) ρ/\Hz g [ό,A,.no,.ml []] 2 (Tz hs λx=>[Ϫ,x,gone]) t:=by obtain⟨y5,y7,y8,y9,jo,iT,rfl⟩:=h0;have l5:=S.hl;(have il:2<[TM.mr ns,A,.no,.ml []].length:=show 2<4 by decide);refine(eM (l:=hs) (g:=D.str) (λn ρ g=>E6 hs gone cs (se (.at 3)) ρ/\∃f,Hz g [ό,A,.no,.ml []] 2 (Tz hs f) t/\∀x∈hs.take n,f x=[Ϫ,x,gone]) Og (λn _ _ _=>cU n) (by lia) #[#[_,_,_,_,_,_,rfl],f,z,λx hx=>by simp at hx] ?_).imp fun ρ g=>?_;rintro n x ρ g hx ⟨⟨y5,y7,y8,y9,jo,iT,rfl⟩,f,z,fe⟩;have xh:=Nw;obtain⟨ds,e3⟩:=Kj;(have it:Q1 [.at 2,ϋ] g=.ok (.bl (f x)) g:=by obtain⟨R,qs,rfl,H⟩:=z;exact ET (gT il) (pY xh));(have nx:∀y∈hs.take n,y≠x:=λy hy e=>by subst e;obtain⟨m,hm⟩:=bf hy;rw[nH] at hm;split at hm;have:=NAL.UL S.nd hm hx;lia;cases hm);have i1:Xd ff ϋ Ou g=.ok [Pn,x∈gone] g:=Yh.trans (by rw[kB]);have i2:Xd tj ϋ Ou g=.ok (.bl [Ϫ,x,gone]) g:=Yh.trans (by simp);(have t1:∀{y5:Option D},y5=O7->Ul (Qy [My,2,Q1,Qc ϐ Qg]) [ϗ,JS,ϐ,θ] (En hs gone cs y5 (se (.at 3)) y7 y8 y9 jo iT) g=.ok (f x&&decide (x∈gone)) g:=λe=>by subst e;exact p4 (aQ [ϊ,e3,rfl,it]) (aQ [Ψ,rfl,i1]));(have t2:∀{y5:Option D},y5=O7->Ul (Xa (Qy [My,2,Q1,Qc ϐ Qg])) [ϗ,NN,ϐ,θ] (En hs gone cs y5 (se (.at 3)) y7 y8 y9 jo iT) g=.ok (! f x&&[Ϫ,x,gone]) g:=λe=>by subst e;exact p4 (rr (aQ [ϊ,e3,rfl,it])) (aQ [Ψ,rfl,i2]));(have up:∀{b:Bool} {y:Qi},b=[Ϫ,x,gone]->y∈hs.take (n+1)->(if y=x then b else f y)=[Ϫ,y,gone]:=λ{b y} e hy=>by rw[vm hx] at hy;rcases dE.mp hy with hy | hy;rw[P7 (nx y hy)];exact fe y hy;rw[cT.mp hy,Cx,e]);refine#[_,rfl,?_];have u1:=t1 rfl;have u2:=t2 rfl;by_cases gx:x∈gone;(cases fx:f x with| true =>obtain⟨v,g1,q1,z1⟩:=vr (b:=ff) S il cl z xh fx;rw[fx,P9 gx] at u1;exact nT u1 (nE (cR [ϊ,e3,rfl,q1]) #[#[_,_,_,_,_,_,rfl],_,z1,λy=>up (by simp[gx])])| false =>rw[fx] at u1;rw[fx,Qb (not_not_intro gx)] at u2;refine nF u1 (nF u2 (nE rfl #[#[_,_,_,_,_,_,rfl],f,z,λy hy=>?_]));have:=up (b:=ff) (by simp[gx]) hy;by_cases e:y=x;subst e;simp[fx,gx];rwa [P7 e] at this);(cases fx:f x with| true =>rw[fx,Qb gx] at u1;rw[fx] at u2;refine nF u1 (nF u2 (nE rfl #[#[_,_,_,_,_,_,rfl],f,z,λy hy=>?_]));have:=up (b:=tj) (by simp[gx]) hy;by_cases e:y=x;subst e;simp[fx,gx];rwa [P7 e] at this| false =>obtain⟨v,g1,q1,z1⟩:=vr (b:=tj) S il cl z xh fx;rw[fx] at u1;rw[fx,P9 gx] at u2;exact nF u1 (nT u2 (nE (cR [ϊ,e3,rfl,q1]) #[#[_,_,_,_,_,_,rfl],_,z1,λy=>up (by simp[gx])])));rintro⟨e,f,z,fe⟩;rw[kE] at fe;rw[vg fe] at z;exact#[e,z]
end
section
variable {g h:TH}{i:Nat}{x:Qi}{l hs gone:Χ}{ns:Zv}{cs t:a9}{ρ:Rb}{fa fb:RE}{a b:Bool}{c:bz}{f:Qi->Bool}{A:TM}
theorem vv (S:[yk,hs,cs])(p:Hu):(∀x∈'b',x∈six)/\t.length<=6/\∀x,x∈'b'↔x∈'L':=by(have m:∀x,x∈'b'↔x∈'L':=λx=>by have:=(p.map Prod.fst).mem_iff (a:=x);rw[show 'Z'.map Prod.fst='L' from rL (g:=Nh) λq=>rfl] at this;exact this);refine#[λx hx=>S.cn.subset ((m x).mp hx),?_,m];have:=p.length_eq;rw[a8] at this;rw[this];exact S.cl
theorem E7 (S:[yk,hs,cs])(p:Hu):("idle":Qi)∉'b'/\("new":Qi)∉'b':=by have nd:=XD.2;simp only[eA,aT,not_or] at nd;exact#[λh=>nd.1.2 ((vv S p).1 _ h),λh=>nd.2.1 ((vv S p).1 _ h)]
theorem zdS (S:[yk,hs,cs])(cA:∀n,ct n A)(hn:ns.length<=63):∃g t,UQ [.at 0,NY,Ou,Jl] [ό,A]=.ok (.at 2) g/\Hz g [ό,A,.no,.ml []] 2 (Tz hs λx=>[Ϫ,x,gone]) t/\Hu:=by(have cl:Cl [ό,A,.no]:=λo ho=>by simp only[aT,dQ,or_false] at ho;rcases ho with rfl | rfl | rfl;trivial;exact cA _;trivial);(have cl4:Cl [ό,A,.no,.ml []]:=yI (B:=.no) (C:=.ml []) cA (λ_=>trivial) λ_ d hd=>by cases hd);obtain⟨ρ1,g1,q1,⟨y5,rfl⟩,z1⟩:=E1 (fi:=Z1) (fg:=rN 5) (fs:=Vo) (ρ:=En hs gone cs ng ng ng ng ng ng ng) (g:=[ό,A,.mi 2 (RJ [] [] [] [])]) (h:=[ό,A,.no]) (i:=2) S (show 2<3 by decide) cl (fun ρ=>∃y,ρ=En hs gone cs y ng ng ng ng ng ng) rfl #[_,rfl] #[[],[],rfl,EZ] (by rintro x ρ ⟨y,rfl⟩;exact#[_,rfl,#[_,rfl],λe1 e2=>cR [ϊ,e1,rfl,e2]]);(obtain⟨g2,y5,f,q2,z2⟩:∃g2 y5' f,Rc (Qy [ϟ,Qr Rg (Q4 QC [ϯ,Qc [΢,14] Qg]) [΢,2],[΢,1]]) (Sj Wp (rN 5) T4) Q9 (En hs gone cs y5 ng ng ng ng ng ng) g1=[ϱ,En hs gone cs y5' ng ng ng ng ng ng,g2]/\Hz g2 [ό,A,.no] 2 (Tz hs f) []:=by(have e0:g1[0]?=MU:=by obtain⟨R,qs,rfl,H⟩:=z1;rfl);have t1:=aQ (aD (h:=g1) (fb:=[΢,1]) (o:=SO ff) (aD (fa:=Q4 QC [ϯ,Qc [΢,14] Qg]) (fb:=[΢,2]) (ρ:=En hs gone cs y5 ng ng ng ng ng ng) [ψ,mD (k:=14) e0] rfl (mod_int (by decide))) rfl eq_int);cases b:(ff^^decide ([Zz,14]%2=1))with| false =>rw[b] at t1;exact#[g1,y5,_,(g8 t1).trans rfl,z1]| true =>rw[b] at t1;obtain⟨ρ3,g3,q3,⟨y,rfl⟩,z3⟩:=E2 (fi:=Wp) (fg:=rN 5) (fs:=T4) (ρ:=En hs gone cs y5 ng ng ng ng ng ng) S (show 2<3 by decide) cl (fun ρ=>∃y,ρ=En hs gone cs y ng ng ng ng ng ng) rfl #[_,rfl] z1 (by rintro x ρ ⟨y,rfl⟩;exact#[_,rfl,#[_,rfl],λe1 e2=>cR [ϊ,e1,rfl,e2]]);exact#[g3,y,_,(jg t1).trans q3,z3]);obtain⟨R,qs,rfl,H⟩:=z2;obtain⟨ρ4,g4,q4,h4,t,z4,pm⟩:=Mm (ρ:=En hs gone cs y5 (se (.at 3)) ng ng ng ng ng) (g:=[ό,A,.mi 2 (RJ (Tz hs f) [] R qs),G5]) S cA #[_,_,_,_,_,_,rfl] #[R,qs,rfl,H];obtain⟨ρ5,g5,q5,h5,f5,z5⟩:=zcY S cl4 hn h4 (E7 S pm).1 (vv S pm).2.1 z4;obtain⟨ρ6,g6,q6,⟨_,_,_,_,_,_,rfl⟩,z6⟩:=zdi S cl4 h5 z5;exact#[g6,t,Cu rfl (sA (d:=.at 2) (h1:=[ό,A,.mi 2 (RJ [] [] [] [])]) rfl (sG q1 (sG q2 (sA (d:=.at 3) (h1:=[ό,A,.mi 2 (RJ (Tz hs f) [] R qs),G5]) rfl (sG q4 (sG q5 (sG q6 (sR rfl rfl)))))))),z6,pm]
structure Dn (d:D)(c:bz)(t:a9)(c':bz)(t':a9):Prop where
 h:∀{R qs h i},Ϣ->Vz c t R qs->h[i]?=[Ϟ,2,RJ c t R qs]->iF (SX [.at i,d] h) h i c qs c' t'
theorem Dn.of {c':bz}{t':a9}{d:D}{ev:Nat->TH->tv}(e:∀{R qs h i},Ϣ->Vz c t R qs->h[i]?=[Ϟ,2,RJ c t R qs]->iF (ev i h) h i c qs c' t')(r:∀{h h' i ds v},h[i]?=[Ϟ,2,ds]->h'.length=h.length->ev i h=[ν,v]->SX [.at i,d] h=[ν,v]):Dn d c t c' t':=#[λ{R qs h i} cl H eh=>by obtain⟨R',q',e1,k⟩:=e cl H eh;exact#[R',q',r eh eD e1,k]]
theorem zcK {w:Int}(nm:Xp x)(nw:x∉'b')(w1:1<=w)(bd:Bd 300 w)(ne:l≠[])(inn:∀y∈l,y∈'0')(nd:l.Nodup)(nl:l.length<=40)(lt:t.length+1<=20):Dn (.tup [.str "put",ϋ,He,SU l]) c t c (t++[(x,(w,'0'.filter λy=>decide (y∈l)))]):=Dn.of (ev:=λi=>QZ [.at i,ϋ,He,SU l]) (λcl H eh=>yB cl H eh nm nw w1 bd ne inn nd nl lt) λeh el e=>[ώ,sT rfl (sR [ϊ,eh,rfl,e] (bH el))]
theorem zaO {v:Int× Χ}(e:Sr x t=ZJ):Dn (.tup [.str "drop",ϋ]) c t c (Wc x t):=Dn.of (ev:=λi=>Sy [.at i,ϋ]) (λcl H eh=>Ez cl H eh e) λeh el e=>[ώ,sF rfl (sT rfl (sR [ϊ,eh,rfl,e] (bH el)))]
theorem Mt {w d:Int}(e:Sr x t=se (w,l))(d1:1<=d)(bd:Bd 300 (w+d))(lB:Bd 4096 d):Dn (.tup [.str "more",ϋ,Jr]) c t c [Z3,x,w+d]:=Dn.of (ev:=λi=>Sw [.at i,ϋ,Jr]) (λcl H eh=>EJ cl H eh e d1 bd lB) λeh el e=>[ώ,sF rfl (sF rfl (sT rfl (sR [ϊ,eh,rfl,e] (bH el))))]
theorem Mu {w d:Int}(e:Sr x t=se (w,l))(d1:1<=d)(w1:1<=w-d)(bd:Bd 300 (w-d))(lB:Bd 4096 d):Dn (.tup [.str "fewer",ϋ,Jr]) c t c [Z3,x,w-d]:=Dn.of (ev:=λi=>Si [.at i,ϋ,Jr]) (λcl H eh=>EK cl H eh e d1 w1 bd lB) λeh el e=>[ώ,sF rfl (sF rfl (sF rfl (sT rfl (sR [ϊ,eh,rfl,e] (bH el)))))]
theorem E8 (e:Sr x c=JM):Dn (.tup [.str "away",ϋ]) c t (putS x ff c) t:=Dn.of (ev:=λi=>Q7 [.at i,ϋ]) (λcl H eh=>yA cl H eh e) λeh el e=>[ώ,sF rfl (sF rfl (sF rfl (sF rfl (sT rfl (sR [ϊ,eh,rfl,e] (bH el))))))]
theorem E9 (e:Sr x c=Jh):Dn (.tup [.str "back",ϋ]) c t (putS x tj c) t:=Dn.of (ev:=λi=>Ry [.at i,ϋ]) (λcl H eh=>EG cl H eh e) λeh el e=>[ώ,sF rfl (sF rfl (sF rfl (sF rfl (sF rfl (sR [ϊ,eh,rfl,e] (bH el))))))]
end
section
variable {g h:TH}{x:Qi}{l hs gone:Χ}{ns:Zv}{cs t:a9}{ρ:Rb}{fT:RT}{b:Bool}{c:bz}{q:Qi×(Int× Χ)}
noncomputable def fin0 (x:Fl) (h:TH):tv:=match x with| .nx _=>.no| .rt v=>.ok v h
theorem sV {f g:RS}{κ:Fl->TH->tv}(z:fT ρ h=[ϲ,tj])(y:(f ρ h1).bnd fin0=.ok d h2)(k:κ (.rt d) h2=r):(Ql (Rc fT f Q9) g ρ h).bnd κ=r:=by cases e:f ρ h1 with| ok x h' =>(rw[e] at y;cases x with| nx _=>cases y| rt v=>cases y;rwa [Ch ((jg z).trans e)])| _=>rw[e] at y;cases y
inductive Two (hs gone:Χ) (cs:a9) (ev:tv) (h:TH):Prop
 | mk (d1 d2:D) (c':bz) (F:a9->a9) (e:ev=.ok (.lst [d1,d2]) h) (nc:'.'=hs) (fp:∀{t t'},KF->(F t).Perm (F t')) (dn:∀{t},Hu->Dn d1 (Tz hs λx=>[Ϫ,x,gone]) t c' (F t)/\Dn d2 c' (F t) (Tz hs λx=>[Ϫ,x,gone]) t)
theorem zaV (S:[yk,hs,cs]){w:Int}(w1:1<=w)(w2:w<=1000)(ne:l≠[])(nd:l.Nodup)(inn:∀y∈l,y∈hs)(e:ev=.ok (.lst [.tup [.str "put",.str "new",He,SU l],.tup [.str "drop",.str "new"]]) h):Two hs gone cs ev h:=by have l5:=S.hl;have:=Jj;refine#[_,_,Tz hs λx=>[Ϫ,x,gone],λt=>t++[(("new":Qi),(w,hs.filter λy=>decide (y∈l)))],e,jJ,λp=>p.append_right _,λ{t} p=>?_];have nn:=(E7 S p).2;have tl:=(vv S p).2.1;constructor;have:=zcK (c:=Tz hs λx=>[Ϫ,x,gone]) (rJ (XD.1 "new" (.tail _ Ix))) nn w1 (mE (by lia) (by lia)) ne (by rw[jJ];exact inn) nd (by lia) (by lia);rwa [jJ] at this;have:=zaO (c:=Tz hs λx=>[Ϫ,x,gone]) (vq (v:=(w,hs.filter λy=>decide (y∈l))) nn);rwa [E3 nn] at this
theorem Mw (S:[yk,hs,cs])(p:Hu)(hq:q∈cs):'b'.Nodup/\Sr q.1 t=se (Xn hs q).2:=by have nd:'b'.Nodup:=((p.map Prod.fst).nodup_iff (l₂:=Qq 'Z')).mpr (by rw[rL (g:=Nh) λq=>rfl];exact S.cnd);exact#[nd,hU nd (p.mem_iff.mpr (aO.mpr #[q,hq,rfl]))]
theorem Mx (S:[yk,hs,cs]){d:Int}(d1:1<=d)(d2:d<=1000)(hq:q∈cs)(e:ev=.ok (.lst [.tup [.str "more",.str q.1,Jr],.tup [.str "fewer",.str q.1,Jr]]) h):Two hs gone cs ev h:=by have K:=S.ck q hq;have w1:=K.w1;have w2:=K.w2;refine#[_,_,Tz hs λx=>[Ϫ,x,gone],λt=>[Z3,q.1,q.2.1+d],e,jJ,λp=>p.map _,λ{t} p=>?_];obtain⟨nd,lk⟩:=Mw S p hq;(have f8:(Qq [Z3,q.1,q.2.1+d]).Nodup:=by rw[rL (g:=Sm q.1 (q.2.1+d)) λq=>Xq.1];exact nd);have bd:Bd 4096 d:=pZ (by lia);refine#[Mt lk d1 (mE (by show 0<=q.2.1+d;lia) (by show q.2.1+d<=_;lia)) bd,?_];have lk':Sr q.1 [Z3,q.1,q.2.1+d]=se (q.2.1+d,(Xn hs q).2.2):=hU f8 (aO.mpr #[_,hO lk,by unfold Sm;rw[Cx]]);have:=Mu (c:=Tz hs λx=>[Ϫ,x,gone]) (d:=d) lk' d1 (by lia) (mE (by lia) (by lia)) bd;rw[cj] at this;(have e2:t.map (Sm q.1 (q.2.1+d-d)∘Sm q.1 (q.2.1+d))=t:=by(conv=>rhs;rw[<-nJ t]);refine cq λy hy=>?_;show Sm q.1 (q.2.1+d-d) (Sm q.1 (q.2.1+d) y)=y;unfold Sm;by_cases e:y.1=q.1;rw[P8 e,P8 e];have l2:=hU nd (show(y.1,y.2)∈t from hy);rw[e,lk] at l2;(have:y.2.1=q.2.1:=by rw[<-c8 l2];rfl);rw[show q.2.1+d-d=y.2.1 by lia];rw[P7 e,P7 e]);rwa [e2] at this
theorem Mz (S:[yk,hs,cs])(hx:x∈hs)(e:ev=.ok (.lst (if x∈gone then[.tup [.str "back",ϋ],.tup [.str "away",ϋ]]else[.tup [.str "away",ϋ],.tup [.str "back",ϋ]])) h):Two hs gone cs ev h:=by(have back:∀{b b':Bool},b=[Ϫ,x,gone]->putS x b (putS x b' (Tz hs λx=>[Ϫ,x,gone]))=Tz hs λx=>[Ϫ,x,gone]:=λ{b b'} eb=>by rw[oB S.nd hx,oB S.nd hx];refine vg λy _=>?_;by_cases k:y=x;subst k;rw[Cx,eb];rw[P7 k,P7 k]);(have nm:∀{b},Qq (putS x b (Tz hs λx=>[Ϫ,x,gone]))=hs:=λ{b}=>by rw[oB S.nd hx];exact jJ);(have lk:∀{b},Sr x (putS x b (Tz hs λx=>[Ϫ,x,gone]))=se b:=λ{b}=>by rw[oB S.nd hx,pY hx,Cx]);have l0:=pY (f:=λx=>[Ϫ,x,gone]) hx;by_cases gx:x∈gone;rw[P8 gx] at e;refine#[_,_,_,id,e,nm (b:=tj),λp=>p,λ{t} p=>#[E9 (by rw[l0];simp[gx]),?_]];have:=E8 (t:=t) (lk (b:=tj));rwa [back (b:=ff) (by simp[gx])] at this;rw[P7 gx] at e;refine#[_,_,_,id,e,nm (b:=ff),λp=>p,λ{t} p=>#[E8 (by rw[l0];simp[gx]),?_]];have:=E9 (t:=t) (lk (b:=ff));rwa [back (b:=tj) (by simp[gx])] at this
theorem Fa (S:[yk,hs,cs]):R9 9 Jl=tj:=rI λd hd=>by obtain⟨q,hq,rfl⟩:=lP;refine vf λd hd=>?_;simp only[aT,dQ,or_false] at hd;rcases hd with rfl | rfl | rfl;exact(yH S hq).ok;rfl;exact oA λx hx=>(vk S ((S.ck q hq).inn x hx)).ok
theorem zbb (S:[yk,hs,cs])(e0:h[0]?=MU):Two hs gone cs (WG [.at 0,NY,Ou,Jl] h) h:=by have l5:=S.hl;obtain⟨cell,hc⟩:∃c,c=[Zz,14].fdiv 2:=#[_,rfl];obtain⟨m,x,hm,hx⟩:=vo (cell.fdiv 3) S.ne;(have lp:(0:Int)<hs.length:=by lia);(have qc:Qr Sg (Q4 QC [ϯ,Qc [΢,14] Qg]) [΢,2] [se (.at 0),ZS,JO,[π,'W'],ng,ng,ng,ng] h=.ok Oz h:=by rw[hc];exact[Ψ,[ψ,mD (k:=14) e0],fj (by decide) (by decide)]);have qx:Q5 ε (Qr Rg (Qr Sg μ [΢,3]) (Q4 Rp (Qc ε Qg))) [se (.at 0),ZS,JO,[π,'W'],[ω,cell],ng,ng,ng] h=.ok ϋ h:=eF rfl (aD [Ψ,rfl,fj (by decide) (by decide)] [ψ,db] ((mod_int lp).trans (congrArg (λz=>[LM,D.int z]) hm))) hx;have r1:=kc Pc (b:=1000) (by decide);have r2:=kb Pc (b:=1000) (by decide);by_cases b1:cell%3=0;(.obtain⟨P,hP⟩:∃P:Qi×Nat->Bool,P=λp=>decide (cell.fdiv (15+p.2)%2=0):=#[_,rfl];have sub:=yF (P:=P) (hs:=hs);refine zaV (w:=1+Pc%1000) (l:=bif ff^^((YF P hs).map D.str).isEmpty then hs else YF P hs) S (by lia) (by lia) ?_ ?_ ?_ [ώ,sA qc (sA qx (sV (aQ [Ψ,[Ψ,rfl,mod_int (by decide)],xM b1]) (sA (yG (P:=P) rfl (by lia) λy k hk=>?_) (sG (ifA (g:=SU) (x:=hs) (aQ (aD rfl (im rfl rfl) (vh (oA λy hy=>(vk S (sub.subset hy)).ok)))) [ψ,rfl]) (sR (im [Ω,fY [Ϙ,[Ϙ,[Ω,[I9,rfl,[Ψ,[Ψ,rfl,fj (by decide) (by decide)],mod_int (by decide)]]]]] rfl] rfl) rfl))) LQ))];rotate_right;rw[hP];refine rK (by decide) rfl [Ψ,rfl,add_int] (by lia) ?_;rw[show(15+(k:Int))=((15+k:Nat):Int)by push_cast;rfl,zO];have:(15+k).log2<10:=(wJ (by lia)).mpr (by lia);lia;(all_goals cases e:((YF P hs).map D.str).isEmpty);simpa using e;exact S.ne;exact sub.nodup S.nd;exact S.nd;exactλy hy=>sub.subset hy;exactλy hy=>hy);have u1:∀{ρ:Rb},ρ[4]?=se [ω,cell]->Qy [ϟ,Qr Rg μ [΢,3],[΢,0]] ρ h=.ok ff h:=λ{ρ} e=>aQ [Ψ,[Ψ,by unfold rV;rw[aW,e],mod_int (by decide)],uU b1];by_cases b2:(decide (cell%3=1)&&!('W'.isEmpty))=tj;(have cn:cs≠[]:=λe=>by rw[e] at b2;simp at b2);obtain⟨k,q,hk,hq⟩:=vo (cell.fdiv 3) cn;(have cp:(0:Int)<cs.length:=by have:=eY.mpr cn;lia);exact Mx (d:=1+Pc%1000) S (by lia) (by lia) La [ώ,sA qc (sA qx (sF (u1 rfl) (sV ((p4 (aQ [Ψ,[Ψ,rfl,mod_int (by decide)],eq_int]) (aQ (aD rfl (im rfl rfl) (vh (Fa S))))).trans (congrArg (λb=>[LM,b]) (by simpa using b2))) (sA [Ψ,eF (g:=RU) rfl (aD [Ψ,rfl,fj (by decide) (by decide)] [ψ,db] ((mod_int cp).trans (congrArg (λz=>[LM,D.int z]) hk))) hq,rfl] (sR (im (aE (fY [Ϙ,[Ϙ,[Ω,[I9,rfl,[Ψ,[Ψ,rfl,fj (by decide) (by decide)],mod_int (by decide)]]]]] rfl) [Ω,fY [Ϙ,[Ϙ,[Ω,[I9,rfl,[Ψ,[Ψ,rfl,fj (by decide) (by decide)],mod_int (by decide)]]]]] rfl]) rfl) rfl)) LQ)))];have u2:Ul (Qy [ϟ,Qr Rg μ [΢,3],[΢,1]]) [ϗ,Js,χ,Rk ff Qg] [se (.at 0),ZS,JO,[π,'W'],[ω,cell],O7,ng,ng] h=.ok ff h:=(p4 (aQ [Ψ,[Ψ,rfl,mod_int (by decide)],eq_int]) (aQ (aD rfl (im rfl rfl) (vh (Fa S))))).trans (congrArg (λb=>[LM,b]) (by simpa using b2));refine Mz S Nw [ώ,sA qc (sA qx (sF (u1 rfl) (sF u2 ?_)))];by_cases gx:x∈gone;rw[P8 gx];exact sT (aQ [Ψ,rfl,Yh.trans (by rw[P9 gx];rfl)]) [Ϸ,rfl];rw[P7 gx];exact sF (aQ [Ψ,rfl,Yh.trans (by rw[Qb gx];rfl)]) [Ϸ,rfl]
end
section
variable {ns:Zv}
theorem law_ok (hn:ns.length<=63):e_law [.at 0] [ό]=.ok TE [ό]:=by obtain⟨hs,gone,cs,q1,S⟩:=zdL (ns:=ns);obtain⟨_,q2,R1,qs,rfl,H1⟩:=zdP (ns:=ns) S;obtain⟨_,t2,q3,⟨R2,qs2,rfl,H2⟩,pm⟩:=zdS (A:=.mi 2 (RJ (Tz hs λx=>[Ϫ,x,gone]) 'Z' R1 qs)) S (λ_=>pW) hn;cases pX H1 H2 pm.symm;have l5:=S.hl;generalize ec:(Tz hs λx=>[Ϫ,x,gone])=c at H1 H2 q2 q3;generalize et:'Z'=t1 at H1 q2 q3 pm;have nc:'0'=hs:=ec▸jJ;have qh:∀x∈hs,Yn x:=λx hx=>(vk S hx).ok;(have kA:∀{a b c' t' R' q' c2 t2 R2 q2},a=.mi 2 (RJ c' t' R' q')->b=.mi 2 (RJ c2 t2 R2 q2)->Cl [ό,a,b,.ml []]:=λe1 e2=>by subst e1 e2;exact yI (λ_=>pW) (λ_=>pW) λ_ d hd=>by cases hd);obtain⟨d,fd,tl⟩:=EW (hs:=hs) H1 (by rw[nc];exactλx hx=>hx) (by lia (verbose:=false)) (by rw[nc];exact qh);obtain⟨d1,d2,c',F,q4,nc',fp,dn⟩:=zbb (ns:=ns) (h:=[ό,.mi 2 (RJ c t1 R1 qs),.mi 2 (RJ c t2 R2 qs),.ml []]) S rfl;rw[ec,et] at dn;obtain⟨Da,Db⟩:=dn (lQ _);obtain⟨Ea,Eb⟩:=dn pm;obtain⟨R3,q',e3,H3⟩:=Da.h (h:=[ό,.mi 2 (RJ c t1 R1 qs),.mi 2 (RJ c t2 R2 qs),.ml []]) (i:=1) (kA rfl rfl) H1 rfl;obtain⟨R4,q4',e4,H4⟩:=Ea.h (h:=[ό,.mi 2 (RJ c' (F t1) R3 q'),.mi 2 (RJ c t2 R2 qs),.ml []]) (i:=2) (kA rfl rfl) H2 rfl;cases pX H3 H4 (fp pm.symm);obtain⟨d',fd',tl'⟩:=EW (hs:=hs) H3 (by rw[nc'];exactλx hx=>hx) (by lia (verbose:=false)) (by rw[nc'];exact qh);obtain⟨R5,q5',e5,H5⟩:=Db.h (h:=[ό,.mi 2 (RJ c' (F t1) R3 q'),.mi 2 (RJ c' (F t2) R4 q'),.ml []]) (i:=1) (kA rfl rfl) H3 rfl;cases pX H1 H5 (lQ _);obtain⟨R6,q6',e6,H6⟩:=Eb.h (h:=[ό,.mi 2 (RJ c t1 R5 qs),.mi 2 (RJ c' (F t2) R4 q'),.ml []]) (i:=2) (kA rfl rfl) H4 rfl;cases pX H2 H6 (lQ _);have nb:Qq (RM c qs)=hs:=(u7 H1.ct.ndc).trans nc;have nb':Qq (RM c' q')=hs:=(u7 H3.ct.ndc).trans nc';have f1:=EY (a:=RM c qs) (b:=RM c' q') (by rw[nb'];exact qh);have f2:=EY (a:=RM c' q') (b:=RM c qs) (by rw[nb];exact qh);(have ll:(WV (RM c qs) (RM c' q')).length<=20:=by have a:=gy (λx:Qi×(Zx)×(Zx)=>decide (x.2.1≠x.2.2)) ((RM c' q').map λp=>(p.1,(Sr p.1 (RM c qs)).getD (0,1),p.2));have b:=congrArg qH nb';simp only[Qq,a8] at a b;unfold WV;lia (verbose:=false));have fh:R9 9 (.lst ('0'.map .str))=tj:=oA (by rw[nc];exact qh);refine[ώ,sG (ρ1:=[se (.at 0),ZS,JO,[π,'W'],ng,ng,ng,ng,ng,ng,ng]) (iE [ψ,q1] (by unfold Yl;rfl)) (sA [ψ,q2] (sA [ψ,q3] (sA [ψ,tl (i:=1) (kA rfl rfl) H1 (lQ _) rfl] (sF ((n9 (aQ [Ψ,[ψ,tl (i:=2) (kA rfl rfl) H2 pm.symm rfl],eq_self fd])).trans (aQ (aD [ϊ,rfl,rfl,Eu (i:=1) (t:=t1) (R:=R1) (qs:=qs) rfl] [ϊ,rfl,rfl,Eu (i:=2) (t:=t2) (R:=R2) (qs:=qs) rfl] (eq_self fh)))) (sG (ρ1:=[se (.at 0),ZS,JO,[π,'W'],se (.at 1),se (.at 2),Ϡ,se d1,se d2,ng,ng]) (iE [ψ,q4] (by unfold rL2;rfl)) (sA [ψ,e3] (sF ((n9 (aQ [Ψ,[ψ,e4],eq_self f1])).trans (aQ (aD [ψ,tl' (i:=1) (kA rfl rfl) H3 (lQ _) rfl] [ψ,tl' (i:=2) (kA rfl rfl) H4 (fp pm.symm) rfl] (eq_self fd')))) (sA (cA (l:=WV (RM c qs) (RM c' q')) (g:=Ya) (v:=λx=>.tup [.str x.1,Sd x.2.2,Sd x.2.1]) Og cU (by lia (verbose:=false)) (λx hx=>#[_,by unfold Yl Ya;rfl,fY rfl rfl]) (show _=(WV (RM c' q') (RM c qs)).map Ya from ?_)) (sF ((n9 (aQ [Ψ,[ψ,e5],eq_self f2])).trans (aQ [Ψ,[ψ,e6],eq_self f2])) (sR (uV [Ψ,[ψ,tl (i:=1) (kA rfl rfl) H5 (lQ _) rfl],eq_self fd] [Ψ,[ψ,tl (i:=2) (kA rfl rfl) H6 pm.symm rfl],eq_self fd]) ?_))))))))))];rw[Ma (nb.trans nb'.symm) (nb▸S.nd),cj];rfl;exact pK (h:=[ό]) (t:=[_,_,_]) (λo ho=>by rw[cT.mp ho];trivial) (by trivial)
end
end NAY
namespace NAL.RZ
open PySem PySem.Spec PyProof.Rows NAL NAL.EX NAL.RX
inductive Ro where
 | dat (o:RB) | pin (o:RB) | slo (o:RB) | own (i:Nat) | loc | tab (k:Nat)
noncomputable def Ro.fix:Ro->Bool| .dat _=>tj| .pin _=>tj| .slo _=>tj| _=>ff
structure Gs where
 G:Qh->Option Ro
 ι:Lh
structure Cb where
 C:CT
 P:Qv
 w:Q0
abbrev WL:=List (D×Value)
noncomputable abbrev Vi (us:ϖ) (n:Nat):RB:={ cls:=.type "list",data:=.seq us.toArray n}
abbrev Fz (g:Gs)(a:Qh)(φ:QF->Prop):Prop:=∃o,ϒ=ZT/\∀h:QF,'8'=Υ->φ h
inductive DU (B:Cb) (g:Gs):D->Value->Prop
 | non:DU B g .non .none
 | bl {b:Bool}:DU B g (.bl b) (.bool b)
 | int {i:Int} {t:Tok}:DU B g MA (.int i t)
 | str {x:Qi} {t:Tok}:DU B g ϋ (.str x t)
 | fn {k:Nat} {a:Qh} (f:Fz g a λh=>∃o es,'8'=Υ/\o.data=.dict es k):DU B g (.fn k) ύ
 | at_ {i:Nat} {a:Qh} (e:g.ι[i]?=lT):DU B g (.at i) ύ
 | lst {a:Qh} {ds:Φ} {us:ϖ} {n:Nat} (f:ϒ=se (.dat (Vi us n))) (l:ds.length=us.length) (z:us.length<=sizeLine) (A:∀w∈ϝ,DU B g w.1 w.2):DU B g O8 ύ
 | tup {a:Qh} {ds:Φ} {us:ϖ} (f:Fz g a λh=>IsTup h a us.toArray) (l:ds.length=us.length) (z:us.length<=sizeLine) (A:∀w∈ϝ,DU B g w.1 w.2):DU B g Pz ύ
 | dic {a:Qh} {ks:Ϛ} {ds:Φ} {us:ϖ} (f:Fz g a λh=>h.DictOf (Ra B.P B.w) a '5') (n:(a==SS)=ff) (k:ks.length=ds.length) (l:ds.length=us.length) (z:us.length<=sizeLine) (A:∀w∈ϝ,DU B g w.1 w.2):DU B g (.dic ks ds) ύ
abbrev cF (B:Cb)(g:Gs)(ws:WL):Prop:=∀w∈ws,DU B g w.1 w.2
inductive Th (B:Cb) (g:Gs) (h:QF) (i:Nat) (a:Qh):TM->Prop
 | ml {ds:Φ} {us:ϖ} {n:Nat} (r:ϒ=TA) (e:'8'=se (Vi us n)) (l:ds.length=us.length) (z:us.length<=sizeLine) (A:cF B g ϝ):Th B g h i a (.ml ds)
 | mr {ns:Zv} {us:ϖ} {n:Nat} (f:ϒ=se (.dat (Vi us n))) (l:ns.length=us.length) (z:us.length<=sizeLine) (A:∀w∈ns.zip us,∃t,w.2=.int w.1 t):Th B g h i a ό
 | md {ks:Ϛ} {ds:Φ} {us:ϖ} (r:ϒ=TA) (e:h.DictOf (Ra B.P B.w) a '5') (n:(a==SS)=ff) (k:ks.length=ds.length) (l:ds.length=us.length) (z:us.length<=sizeLine) (A:cF B g ϝ):Th B g h i a (.md ks ds)
 | mi {c:Nat} {ds:Φ} {us:ϖ} {dx:Qh} (r:ϒ=TA) (r':g.G dx=TA) (e:Yc h a dx (B.C.cl c) λf=>((B.C.nm c).zip us).lookup f) (l:ds.length=us.length) (z:us.length<=(B.C.nm c).length) (A:cF B g ϝ):Th B g h i a (.mi c ds)
 | mx {c:Nat} (r:ϒ=TA) (e:zax a (B.C.xc c) h):Th B g h i a (.mx c)
 | mf {k:Nat} {pm:Value} {c:Qh} {ctv:Value} (r:ϒ=TA) (e:'8'=se (AV "<lambda>" '4'.qual '4'.params '4'.body '4'.scope [] pm c ctv)) (f:Fz g c λh=>h.CodeRec KY '4'.qual):Th B g h i a (.mf k)
 | no:Th B g h i a .no
def Tb (B:Cb)(g:Gs)(h:QF)(k:Nat):Prop:=(∃j,g.G (B.C.tb k)=se (.tab j))/\∃ps,h.get? (B.C.tb k)=se { cls:=.none,data:=.fields ps}/\TriplesOk ps.toList/\∀pos c,Vw pos ps.toList=ϓ->∃c',c=.ref c'/\Fz g c' λh=>h.CodeRec (.ref c') '4'.qual
abbrev NF (o:RB):Prop:=∀vs,o.data≠Lx
structure Hk (B:Cb)(g:Gs)(h:TH)(H:QF):Prop where
 st:∀a o,ϒ=ZT\/ϒ=[ϵ,o]->'U'=Υ
 sl:∀a o,ϒ=se Lf->NF o/\∃sl,'U'=se { o with slots:=sl}
 al:∀a r,ϒ=τ->∃o,'U'=Υ
 len:g.ι.length=h.length
 th:∀(i:Nat) t a,h[i]?=se t->g.ι[i]?=lT->Th B g H i a t
 tb:∀k,k<B.C.nl->Tb B g H k
structure Le (g g':Gs):Prop where
 d:∀a o,ϒ=ZT->Jn=ZT
 i:∃l,g'.ι=g.ι++l
section
variable {B:Cb}{g g':Gs}{h:TH}{H H':QF}{a b:Qh}{o o':RB}{i:Nat}{t:TM}{d:D}{u:Value}{ws:WL}{r:Ro}
theorem Le.refl:Le g g:=#[λ_ _ z=>z,[],by simp]
theorem Le.fz (x:Le g g')(f:Fz g a φ):Fz g' a φ:=by obtain⟨o,e,q⟩:=f;exact#[o,x.d _ _ e,q]
theorem Le.du (x:Le g g')(q:DU B g d u):DU B g' d u:=by induction q with| non=>exact .non| bl=>exact .bl| int=>exact .int| str=>exact .str| fn f=>exact .fn (x.fz f)| at_ e=>exact .at_ (by obtain⟨l,f⟩:=x.i;grind)| lst f l z _ ih=>exact .lst (x.d _ _ f) l z ih| tup f l z _ ih=>exact .tup (x.fz f) l z ih| dic f n k l z _ ih=>exact .dic (x.fz f) n k l z ih
theorem Le.held (x:Le g g')(q:cF B g ws):cF B g' ws:=λw z=>x.du (q w z)
theorem Th.go (x:Le g g')(ow:∀b,ϛ=TA->Hg=TA)(k:∀b o,ϛ=TA->'D'=Υ->'&'=Υ)(q:Th B g H i a t):Th B g' H' i a t:=by cases q with| ml r e l z A=>exact .ml (ow _ r) (k _ _ r e) l z (x.held A)| mr f l z A=>exact .mr (x.d _ _ f) l z A| md r e n kk l z A =>obtain⟨o,es,ep,e1,e2⟩:=e;exact .md (ow _ r) #[o,es,ep,k _ _ r e1,e2] n kk l z (x.held A)| mi r r' e l z A =>exact .mi (ow _ r) (ow _ r') #[k _ _ r e.obj,e.ns.at λo=>k _ o r',e.ne] l z (x.held A)| mx r e=>obtain⟨o,vs,e1,e2⟩:=e;exact .mx (ow _ r) #[o,vs,k _ _ r e1,e2]| mf r e f=>exact .mf (ow _ r) (k _ _ r e) (x.fz f)| no=>exact .no
theorem Tb.go (x:Le g g')(ow:∀b k,ϛ=se (.tab k)->Hg=se (.tab k))(k:∀b o j,ϛ=se (.tab j)->'D'=Υ->'&'=Υ)(q:Tb B g H n):Tb B g' H' n:=by obtain⟨⟨j,r⟩,ps,e,q1,q2⟩:=q;exact#[#[j,ow _ _ r],ps,k _ _ _ r e,q1,λpos c z=>by obtain⟨c',e,f⟩:=q2 pos c z;exact#[c',e,x.fz f]]
theorem Hk.go (q:Hk B g h H)(x:Le g g')(hi:g'.ι=g.ι)(ow:∀b r,ϛ=τ->(∃i,r=.own i\/r=.tab i)->Hg=τ/\∀o,'D'=Υ->'&'=Υ) (st:∀a o,Jn=ZT\/Jn=[ϵ,o]->NA=Υ) (sl:∀a o,Jn=se Lf->NF o/\∃sl,NA=se { o with slots:=sl}) (al:∀a r,Jn=τ->∃o,NA=Υ):Hk B g' h H' :=#[st,sl,al,by exact hi▸q.len,λi t a e1 e2=>(q.th i t a e1 (by rwa [<-hi])).go x (λb z=>(ow b _ z #[i,gV]).1) λb o z=>(ow b _ z #[i,gV]).2 o,λk z=>(q.tb k z).go x (λb j z=>(ow b _ z #[j,Mi]).1) λb o j z=>(ow b _ z #[j,Mi]).2 o]
theorem Hk.kept (q:Hk B g h H)(k:∀b o,'D'=Υ->'&'=Υ):Hk B g h H' :=q.go .refl rfl (λb r z _=>#[z,λo=>k b o]) (λa o z=>k _ _ (q.st a o z)) (λa o z=>by obtain⟨n,s,e⟩:=q.sl a o z;exact#[n,s,k _ _ e]) λa r z=>let #[o,e]:=q.al a r z;#[o,k _ _ e]
theorem Hk.fresh (q:Hk B g h H)(z:'U'=ng):ϒ=none:=by cases e:ϒ with| none=>rfl| some r=>obtain⟨o,e1⟩:=q.al a r e;rw[z] at e1;cases e1
noncomputable def Gs.upd (g:Gs) (a:Qh) (r:Option Ro):Gs:=#[λb=>if b=a then r else ϛ,g.ι]
theorem Gs.upd_same:(g.upd a r').G a=r':=Cx
theorem Gs.upd_ne (n:b≠a):(g.upd a r').G b=ϛ:=P7 n
def Gs.free (g:Gs)(a:Qh):Prop:=∀r,ϒ=τ->(∃o,r=JA\/r=Lf)\/r=.loc
theorem Le.upd (f:g.free a):Le g (g.upd a r'):=#[λb o z=>by by_cases e:b=a;subst e;rcases f _ z with ⟨_,y | y⟩ | y<;>cases y;rwa [Gs.upd_ne e],[],by simp[Gs.upd]]
theorem Hk.role (q:Hk B g h H)(f:g.free a)(r':Option Ro)(k:∀b o,b≠a->'D'=Υ->'&'=Υ)(ok:∀r,r'=τ->∃o,NA=Υ/\(∀o',r=.dat o'\/r=.pin o'->o=o')/\∀o',r=.slo o'->NF o'/\∃sl,o={ o' with slots:=sl}):Hk B (g.upd a r') h H':=by refine q.go (.upd f) rfl (λb r z y=>?_) (λb o z=>?_) (λb o z=>?_) λb r z=>?_;(have n:b≠a:=by rintro rfl;obtain⟨i,y⟩:=y;rcases f _ z with ⟨_,x | x⟩ | x<;>subst x<;>rcases y with y | y<;>cases y);exact#[by rwa [Oc],λo=>k b o n];(all_goals by_cases n:b=a);subst n;rw[Gs.upd_same] at z;rcases z with z | z<;>obtain⟨o1,e1,e2,_⟩:=ok _ z<;>rw[e1,e2 o (by simp)];rw[Oc] at z;exact k b o n (q.st b o z);subst n;rw[Gs.upd_same] at z;obtain⟨o1,e1,_,e2⟩:=ok _ z;obtain⟨m,s,e3⟩:=e2 o rfl;exact#[m,s,by rw[e1,e3]];rw[Oc] at z;obtain⟨m,s,e⟩:=q.sl b o z;exact#[m,s,k b _ n e];subst n;rw[Gs.upd_same] at z;obtain⟨o1,e1,_⟩:=ok _ z;exact#[o1,e1];rw[Oc] at z;obtain⟨o,e⟩:=q.al b r z;exact#[o,k b o n e]
theorem Hk.dat (q:Hk B g h H)(n:ϒ=ng)(k:∀b o,'D'=Υ->'&'=Υ)(e:NA=Υ):Hk B (g.upd a ZT) h H' :=q.role (λr z=>by rw[n] at z;cases z) _ (λb o _=>k b o) λr z=>#[o,e,λo' y=>by cases z;rcases y with y | y<;>cases y;rfl,λo' y=>by cases z;cases y]
theorem Hk.set (q:Hk B g h H)(k:∀b o,ϛ≠TA->'D'=Υ->'&'=Υ)(al:∀b,ϛ=TA->∃o,'&'=Υ)(new:∀a,g.ι[i]?=lT->Th B g H' i a t):Hk B g [ϧ,t] H':=by have nf:∀{b r},ϛ=τ->r≠.own i->∀o,'D'=Υ->'&'=Υ:=λ{b r} z n o=>k b o (by exact z▸λy=>n (c8 y));refine#[λa o z=>k a o (by rcases z with z | z<;>rw[z]<;>simp) (q.st a o z),λa o z=>by obtain⟨n,s,e⟩:=q.sl a o z;exact#[n,s,nf z (by simp) _ e],λa r z=>?_,by rw[eD];exact q.len,λj t' a e1 e2=>?_,λj z=>(q.tb j z).go .refl (λ_ _ z=>z) λb o j z=>nf z (by simp) o];by_cases n:r=.own i;subst n;exact al a z;obtain⟨o,e⟩:=q.al a r z;exact#[o,nf z n o e];by_cases n:i=j;subst n;rw[gT (by have:='@'.1;simpa using this)] at e1;cases e1;exact new a e2;rw[ee n] at e1;exact(q.th j t' a e1 e2).go .refl (λ_ z=>z) λb o z=>nf z (λy=>n (by cases y;rfl)) o
theorem Hk.mut (q:Hk B g h H)(as:Lh)(n:∀b∈as,ϛ=ng)(al:∀b∈as,∃o,'D'=Υ) (new:∀g',g'.G=(λb=>if b∈as then Pg else ϛ)->g'.ι=g.ι++[a]->Le g g'->Th B g' H h.length a t):Le g #[λb=>if b∈as then Pg else ϛ,g.ι++[a]]/\Hk B #[λb=>if b∈as then Pg else ϛ,g.ι++[a]] (h++[t]) H:=by have x:Le g #[λb=>if b∈as then Pg else ϛ,g.ι++[a]]:=#[λb o z=>by by_cases y:b∈as;rw[n b y] at z;cases z;show(if b∈as then _ else _)=_;rwa [P7 y],[a],rfl];(have old:∀b r,ϛ=τ->(if b∈as then se (Ro.own h.length)else ϛ)=τ:=λb r z=>by by_cases y:b∈as;rw[n b y] at z;cases z;rwa [P7 y]);refine#[x,λb o z=>?_,λb o z=>?_,λb r z=>?_,by simp[q.len],λj t' c e1 e2=>?_,λj z=>(q.tb j z).go x (λb j=>old b _) λb o j _ z=>z];dsimp only at z;by_cases y:b∈as;rw[P8 y] at z;rcases z with z | z<;>cases z;rw[P7 y] at z;exact q.st b o z;dsimp only at z;by_cases y:b∈as;rw[P8 y] at z;cases z;rw[P7 y] at z;exact q.sl b o z;dsimp only at z;by_cases y:b∈as;exact al b y;rw[P7 y] at z;exact q.al b r z;dsimp only at e2;by_cases y:j<h.length;exact(q.th j t' c (by rwa [i7 y] at e1) (by rwa [i7 (by rwa [q.len])] at e2)).go x (λb=>old b _) λb o _ z=>z;(have e:j=h.length:=by have:='@'.1;simp at this;lia);subst e;rw[vU] at e1;rw[<-q.len,vU] at e2;cases e1;cases e2;exact new _ rfl rfl x
theorem Hk.gone (q:Hk B g h H)(e:'U'=Υ)(r:ϒ=TA):Le g (g.upd a ZT)/\Hk B (g.upd a ZT) [ϧ,.no] H:=by have x:Le g (g.upd a ZT):=#[λb o' z=>by by_cases n:b=a;subst n;rw[r] at z;cases z;rwa [Oc],[],by simp[Gs.upd]];refine#[x,λb o' z=>?_,λb o' z=>?_,λb r' z=>?_,by rw[eD];exact q.len,λj t' c e1 e2=>?_,λj z=>(q.tb j z).go x (λb j z=>?_) λb o j _ z=>z];by_cases n:b=a;subst n;rw[Gs.upd_same] at z;rcases z with z | z<;>cases z;exact e;rw[Oc] at z;exact q.st b o' z;by_cases n:b=a;subst n;rw[Gs.upd_same] at z;cases z;rw[Oc] at z;exact q.sl b o' z;by_cases n:b=a;subst n;exact#[o,e];rw[Oc] at z;exact q.al b r' z;by_cases n:i=j;subst n;rw[gT (by have:='@'.1;simpa using this)] at e1;cases e1;exact .no;rw[ee n] at e1;refine(q.th j t' c e1 e2).go x (λb z=>?_) λb o _ z=>z;(have nb:b≠a:=by rintro rfl;rw[r] at z;cases z;exact n rfl);rwa [Gs.upd_ne nb];(have nb:b≠a:=by rintro rfl;rw[r] at z;cases z);rwa [Gs.upd_ne nb]
end
structure Gr (g g':Gs):Prop where
 f:∀a r,ϒ=τ->r.fix=tj\/r=.loc->Jn=τ
 i:∃l,g'.ι=g.ι++l
abbrev ERt:=ME->Gs->Qe->(Nat->TH->Prop)->Value->Qe->Prop
structure Bz where
 B:Cb
 mg:Qi->ZH
 base:QF
 ER:ERt
structure Cz extends Bz where
 A:Qs
 N:Χ
 g₀:Gs
 s₀:Qe
 env:Env
 outer:ME
 stack:ME
 fn:Qi->Bool
 calm:Bool
 E:Nat->TH->Prop
 xe:Value->Qe->Prop
abbrev Cz.wp (X:Cz)(t:Sem α)(Q:α->Qe->Prop)(s:Qe):Prop:=Qn [ZV,X.B.w] X.A t Q X.xe s
structure Cz.Ok (X:Cz):Prop where
 mod:Mod X.B.C.K X.mg X.base
 kind:X.env.scope.kind=.function
 glob:X.env.globals=Qw
 blt:X.env.builtins=builtinsNs
 inj:∀x y c,Hf=ϓ->K2=ϓ->x=y
 has:∀x,(JC=Z7\/JC=Hr)->∃c,Hf=ϓ
 hd:X.calm=tj->X.A.handled=ng
 frames:X.A.frames=se X.stack
 fr:∀env∈X.stack,env.scope.kind≠.module/\∃L,env.frame=se L/\(L=X.env.locals\/∃o,X.g₀.G L=se Lf)
structure Iv (X:Cz)(g:Gs)(ρ:Rb)(h:TH)(s:Qe):Prop where
 ok:X.Ok
 os:s.os=X.s₀.os
 bare:AllBare s.gens
 hk:Hk X.B g h s.heap
 bs:∀b o,X.base.get? b=Υ->ϛ=ZT
 kp:∀a r,X.g₀.G a=τ->r.fix=tj->ϒ=τ
 ip:∃l,g.ι=X.g₀.ι++l
 lf:g.G X.env.locals=lS
 lc:∃m,s.heap.Ns X.env.locals m/\∀(i:Nat) x d,X.N[i]?=σ->ρ[i]?=Nd->Vis X.env.scope x->∃u,DU X.B g d u/\Look X.env s.heap m x u
 ce:∀x c,Hf=ϓ->(∃v,[Kg,v])/\(g.G c=lS\/(∃o,g.G c=[ϵ,o])/\X.fn x=ff)
 len:ρ.length=X.N.length
inductive J (X:Cz) (pins:List (Qh×RB)) (ρ:Rb) (h:TH) (ws:WL) (s:Qe):Prop
 | mk (g:Gs) (I:Iv X g ρ h s) (p:∀p∈pins,g.G p.1=[ϵ,p.2]) (W:cF X.B g ws)
section
variable {X:Cz}{g g':Gs}{ρ:Rb}{h h':TH}{s s':Qe}{H H':QF}{pins:List (Qh×RB)}{ws:WL}{a b:Qh}{o:RB}{d:D}{u:Value}
theorem Gr.refl:Gr g g:=#[λ_ _ z _=>z,[],by simp]
theorem Gr.le (x:Gr g g'):Le g g':=#[λa o z=>x.f a _ z gV,x.i]
theorem Gr.upd (n:ϒ=ng):Gr g (g.upd a r):=#[λb r z _=>by rwa [Gs.upd_ne (by rintro rfl;rw[n] at z;cases z)],[],by simp[Gs.upd]]
theorem Gr.ip (x:Gr g g')(y:∃l,g.ι=l0++l):∃l,g'.ι=l0++l:=by obtain⟨l,e⟩:=x.i;obtain⟨m,f⟩:=y;exact#[m++l,by rw[e,f,gb]]
theorem Iv.bk (I:Iv X g ρ h s):∀b o,X.base.get? b=Υ->ϣ=Υ:=λb o e=>[OT,b,o,I.bs b o e]
theorem Iv.kIn (I:Iv X g ρ h s):MF:=I.ok.mod.kin.keeps I.bk
theorem Iv.nolimit (I:Iv X g ρ h s):s.heap.NoLimit:=I.ok.mod.nolimit.keeps I.bk
theorem Iv.cne (I:Iv X g ρ h s)(e:Hf=ϓ):c≠X.env.locals:=by rintro rfl;obtain⟨⟨v,o,ho,hd⟩,_⟩:=I.ce x _ e;obtain⟨m,⟨o',es,ep,ho',jY,_⟩,_⟩:=I.lc;rw[ho'] at ho;cases ho;rw[jY] at hd;cases hd
theorem Iv.go (I:Iv X g ρ h s)(x:Gr g g')(q:Hk X.B g' h' H')(k:∀b o,ϛ=lS->ϣ=Υ->'&'=Υ)(t:Nat):Iv X g' ρ h' { s with heap:=H',toks:=t}:=by(have cl:∀{y c},K2=ϓ->∀{v},[Kg,v]->H'.IsCell c v:=λ{y c} e {v} #[o,ho,hd]=>by rcases(I.ce y c e).2 with z | ⟨⟨o',z⟩,_⟩;exact#[o,k _ _ z ho,hd];have e1:=[HQ,c,o',z];rw[ho] at e1;cases e1;exact#[_,q.st c _ (.inr (x.f _ _ z gV)),hd]);refine#[I.ok,I.os,I.bare,q,λb o e=>x.f _ _ (I.bs b o e) gV,λa r e f=>x.f _ _ (I.kp a r e f) (.inl f),x.ip I.ip,x.f _ _ I.lf Mi,?_,λy c e=>?_,I.len];obtain⟨m,⟨o,es,ep,ho,r⟩,hl⟩:=I.lc;refine#[m,#[o,es,ep,k _ _ I.lf ho,r],λi y d e1 e2 e3=>?_];obtain⟨u,dq,l⟩:=hl i y d e1 e2 e3;refine#[u,x.le.du dq,?_];rcases l with l | ⟨kk,c,e,z⟩;exact .inl l;exact .inr #[kk,c,e,cl e z];obtain⟨⟨v,z⟩,r⟩:=I.ce y c e;refine#[#[v,cl e z],?_];rcases r with r | ⟨⟨o,r⟩,f⟩;exact .inl (x.f _ _ r Mi);exact .inr #[#[o,x.f _ _ r gV],f]
theorem Iv.nf (I:Iv X g ρ h s):∀o,s.heap.get? X.env.locals=Υ->NF o:=λo e vs z=>by obtain⟨m,⟨o',es,ep,ho,hd,_⟩,_⟩:=I.lc;rw[e] at ho;cases ho;rw[hd] at z;cases z
theorem J.kept (j:J X pins ρ h ws s)(k:∀b o,ϣ=Υ->'&'=Υ)(t:Nat):J X pins ρ h ws { s with heap:=H',toks:=t}:=by cases j with | mk g I p W=>exact#[g,I.go .refl (I.hk.kept k) (λb o _=>k b o) t,p,W]
theorem J.tok (j:J X pins ρ h ws s)(t:Nat):J X pins ρ h ws { s with toks:=t}:=j.kept (λ_ _ z=>z) t
theorem J.sub (j:J X pins ρ h ws s)(f:∀w∈ws',w∈ws):J X pins ρ h ws' s:=by cases j with | mk g I p W=>exact#[g,I,p,λw q=>W w (f w q)]
theorem J.tl (j:J X pins ρ h (w::ws) s):J X pins ρ h ws s:=j.sub λ_=>aY _
theorem J.add (j:J X pins ρ h ws s)(q:∀g,DU X.B g d u):J X pins ρ h ((d,u)::ws) s:=by cases j with | mk g I p W=>exact#[g,I,p,λw z=>by rcases 'x' with rfl | z;exact q _;exact W w z]
theorem J.at (j:J X pins ρ h ws s)(m:(d,u)∈ws):Ex2 (Hk X.B · h s.heap) (DU X.B · d u):=by cases j with | mk g I p W=>exact#[g,I.hk,W _ m]
theorem J.int (j:J X pins ρ h ((MA,u)::ws) s):∃t,u=.int i t:=by obtain⟨_,_,q⟩:=j.at aI;cases q;exact#[_,rfl]
theorem J.str (j:J X pins ρ h ((.str i,u)::ws) s):∃t,u=.str i t:=by obtain⟨_,_,q⟩:=j.at aI;cases q;exact#[_,rfl]
theorem J.bl (j:J X pins ρ h ((.bl i,u)::ws) s):u=.bool i:=by obtain⟨_,_,q⟩:=j.at aI;cases q;rfl
theorem J.non (j:J X pins ρ h ((.non,u)::ws) s):u=.none:=by obtain⟨_,_,q⟩:=j.at aI;cases q;rfl
theorem J.via (I:Iv X g ρ h s)(p:∀p∈pins,g.G p.1=[ϵ,p.2])(x:Gr g g')(q:Hk X.B g' h' H')(k:∀b o,ϛ=lS->ϣ=Υ->'&'=Υ)(W:cF X.B g' ws)(t:Nat):J X pins ρ h' ws { s with heap:=H',toks:=t} :=#[g',I.go x q k t,λy z=>x.f _ _ (p y z) gV,W]
inductive RP (X:Cz) (pins:List (Qh×RB)) (ρ:Rb) (ws:WL) (P:D->TH->Prop) (u:Value) (s:Qe):Prop
 | mk (d:D) (h:TH) (j:J X pins ρ h ((d,u)::ws) s) (p:P d h)
inductive AR (X:Cz) (pins:List (Qh×RB)) (ρ:Rb) (ws:WL) (P:Φ->TH->Prop) (us:ϖ) (s:Qe):Prop
 | mk (ds:Φ) (h:TH) (l:ds.length=us.length) (j:J X pins ρ h (ϝ++ws) s) (p:P ds h)
inductive TR (X:Cz) (pins:List (Qh×RB)) (ρ:Rb) (ws:WL) (P:α->TH->Prop) (b:α) (s:Qe):Prop
 | mk (h:TH) (j:J X pins ρ h ws s) (p:P b h)
def SR (X:Cz)(pins:List (Qh×RB))(ws:WL)(P:RX.Fl->TH->Prop)(f:Flow)(s:Qe):Prop:=match f with| .next=>∃ ρ h,J X pins ρ h ws s/\P NC h| .ret u=>∃d ρ h,J X pins ρ h ((d,u)::ws) s/\P (.rt d) h| _=>False
theorem J.gint (j:J X pins ρ h ws s)(p:P MA h):RP X pins ρ ws P (.int i t) { s with toks:=t'}:=#[_,_,(j.tok _).add λ_=>.int,p]
theorem J.gbl (j:J X pins ρ h ws s)(p:P (.bl i) h):RP X pins ρ ws P (.bool i) s:=#[_,_,j.add λ_=>.bl,p]
theorem J.gstr (j:J X pins ρ h ws s)(p:P (.str i) h):RP X pins ρ ws P (.str i t) { s with toks:=t'}:=#[_,_,(j.tok _).add λ_=>.str,p]
theorem J.gnon (j:J X pins ρ h ws s)(p:P .non h):RP X pins ρ ws P .none s:=#[_,_,j.add λ_=>.non,p]
theorem Hk.loc (q:Hk B g h H)(k:∀b o,ϛ≠lS->'D'=Υ->'&'=Υ)(al:∀b o,'D'=Υ->∃o,'&'=Υ):Hk B g h H' :=q.go .refl rfl (λb r z y=>#[z,λo=>k b o (by rw[z];obtain⟨i,y | y⟩:=y<;>subst y<;>simp)]) (λa o z=>k a o (by rcases z with z | z<;>rw[z]<;>simp) (q.st a o z)) (λa o z=>by obtain⟨n,s,e⟩:=q.sl a o z;exact#[n,s,k _ _ (by rw[z];simp) e]) λa r z=>let #[o,e]:=q.al a r z;al a o e
theorem J.store (j:J X pins ρ h ((d,u)::ws) s)(nd:X.N.Nodup)(hi:X.N[i]?=σ)(hx:Loc X.env.scope x)(hf:X.fn x=tj\/JY=Z6) (q:∀s',J X pins (ρ.set i Ϡ) h ws s'->Q () s'):Qn M A (storeName X.env x u) Q E s:=by cases j with | mk g I p W =>obtain⟨m,hn,hl⟩:=id I.lc;(have hiρ:=by exact I.len▸'l'.1);(have fin:∀{a:Qh} {H':QF} {t:Nat} {m':Qi->Option Value},ϒ=lS->[K9,a,H']->(∃o,NA=Υ)->H'.Ns X.env.locals m'->(∀y c,K2=ϓ->∃v,H'.IsCell c v)->(∀y v,y≠x->Look X.env s.heap m y v->Look X.env H' m' y v)->Look X.env H' m' x u->J X pins (ρ.set i Ϡ) h ws { s with heap:=H',toks:=t}:=λ{a H' t m'} r sb ho hn' hc hy hZ=>by refine#[g,#[I.ok,I.os,I.bare,I.hk.loc (λb o z e=>(sb.2 b (by rintro rfl;exact z r)).trans e) (λb o e=>?_),I.bs,I.kp,I.ip,I.lf,#[m',hn',λj y d' e1 e2 e3=>?_],λy c e=>#[hc y c e,(I.ce y c e).2],by simpa using I.len],p,λw z=>W w (aY _ z)];by_cases n:b=a;subst n;exact ho;exact#[o,(sb.2 b n).trans e];by_cases n:i=j;subst n;rw[hi] at e1;cases e1;rw[gT hiρ] at e2;cases e2;exact#[u,W _ aI,hZ];rw[ee n] at e2;obtain⟨v,dq,l⟩:=hl j y d' e1 e2 e3;exact#[v,dq,hy y v (λe=>n (UL nd hi (e▸e1))) l]);rcases hx with hk | hk;refine wpAny_storeName_local hk hn (λH' hn' hs=>q _ (fin I.lf hs (by obtain⟨o,_,_,e,_⟩:=hn';exact#[o,e]) hn' (λy c e=>?_) (λy v n l=>?_) (.inl #[hk,by simp]))) (by rw[I.ok.kind];rfl);obtain⟨⟨v,z⟩,_⟩:=I.ce y c e;exact#[v,z.sameBut hs (I.cne e)];rcases l with ⟨k,e⟩ | ⟨k,c,e,z⟩;exact .inl #[k,by simp[n,e]];exact .inr #[k,c,e,z.sameBut hs (I.cne e)];(have hfn:X.fn x=tj:=by rcases hf with z | z;exact z;rw[z] at hk;cases hk);obtain⟨c,hc⟩:=I.ok.has x (.inl hk);obtain⟨⟨w',z⟩,r⟩:=I.ce x c hc;rcases r with r | ⟨_,r⟩;refine wpAny_storeName_cell I.ok.kind hk hc z (λH' oS hs=>q _ (fin r hs (by obtain⟨o,e,_⟩:=oS;exact#[o,e]) (hn.sameBut hs (Ne.symm (I.cne hc))) (λy c' e=>?_) (λy v n l=>?_) (.inr #[.inl hk,c,hc,oS])));by_cases n:c'=c;subst n;exact#[_,oS];obtain⟨⟨v,z⟩,_⟩:=I.ce y c' e;exact#[v,z.sameBut hs n];rcases l with l | ⟨k,c',e,z⟩;exact .inl l;exact .inr #[k,c',e,z.sameBut hs λy=>n (I.ok.inj _ _ _ (y▸e) hc)];rw[hfn] at r;cases r
noncomputable def Gs.hid (g:Gs) (H:QF) (L:Qh):Gs:=#[λa=>match ϒ with| some .loc=>'U'.map (if a=L then Ro.slo else Ro.pin)| r=>r,g.ι]
noncomputable def Gs.back (g g':Gs):Gs:=#[λa=>match ϒ with| some .loc=>lS| _=>Jn,g'.ι]
theorem iU (n:ϒ≠lS):(g.hid H L).G a=ϒ:=by unfold Gs.hid;dsimp only;split;rename_i e;exact absurd e n;rfl
theorem kO (e:ϒ=lS)(e1:'U'=Υ):(g.hid H L).G a=se (if a=L then Lf else JA):=by unfold Gs.hid;dsimp only;rw[e,e1];by_cases n:a=L<;>simp[n]
theorem Le.hid:Le g (g.hid H L):=#[λa o z=>by rw[iU (by rw[z];simp),z],[],by simp[Gs.hid]]
theorem Hk.hid (q:Hk B g h H)(nf:∀o,H.get? L=Υ->NF o):Hk B (g.hid H L) h H:=by(have cs:∀{a r},(g.hid H L).G a=τ->ϒ=τ\/(∃o,'U'=Υ/\((r=Lf/\a=L)\/r=JA)):=λ{a r} z=>by by_cases n:ϒ=lS;obtain⟨o,e⟩:=q.al a _ n;rw[kO n e] at z;cases z;exact .inr #[o,e,by by_cases y:a=L<;>simp[y]];rw[iU n] at z;exact .inl z);refine q.go .hid rfl (λb r z y=>#[by rw[iU (by rw[z];obtain⟨i,y | y⟩:=y<;>subst y<;>simp),z],λ_ e=>e]) (λa o z=>?_) (λa o z=>?_) λa r z=>?_;rcases z with z | z<;>rcases cs z with y | ⟨o',e,⟨y,_⟩ | y⟩;exact q.st a o (.inl y);cases y;cases y;exact q.st a o (.inr y);cases y;cases y;exact e;rcases cs z with y | ⟨o',e,⟨y,rfl⟩ | y⟩;exact q.sl a o y;cases y;exact#[nf _ e,o.slots,e];cases y;rcases cs z with y | ⟨o,e,_⟩;exact q.al a r y;exact#[o,e]
theorem yJ (e:ϒ=lS):'a'.G a=lS:=by unfold Gs.back;dsimp only;rw[e]
theorem ky (n:ϒ≠lS):'a'.G a=Jn:=by unfold Gs.back;dsimp only;split;rename_i e;exact absurd e n;rfl
theorem Iv.back (I:Iv X g ρ h s)(x:Gr [Lr,s.heap] g')(q:Hk X.B g' h' s'.heap)(os:s'.os=s.os)(br:KQ):Iv X 'a' ρ h' s'/\Gr g 'a':=by(have ol:∀{a},ϒ=lS->∃o,Z5=Υ/\Jn=se (if a=X.env.locals then Lf else JA):=λ{a} z=>by obtain⟨o,e⟩:=[IZ,a,z];exact#[o,e,x.f _ _ (kO z e) (.inl (by by_cases y:a=X.env.locals<;>simp[y,Ro.fix]))]);(have nl:∀{a r},Jn=τ->(∀o,r≠Lf)->(∀o,r≠JA)->ϒ≠lS:=λ{a r} z n1 n2 y=>by obtain⟨o,_,e⟩:=ol y;rw[z] at e;cases e;by_cases w:a=X.env.locals;rw[P8 w] at n1;exact n1 o rfl;rw[P7 w] at n2;exact n2 o rfl);have gr:Gr g 'a':=#[λa r z f=>by by_cases n:ϒ=lS;rw[n] at z;cases z;exact yJ n;rw[ky n];exact x.f a r (by rwa [iU n]) f,x.i];(have hk:Hk X.B 'a' h' s'.heap:=by refine q.go #[λa o z=>by rwa [ky (nl z (by simp) (by simp))],[],by simp[Gs.back]] rfl (λb r z y=>#[by rwa [ky (nl z (by obtain⟨i,y | y⟩:=y<;>subst y<;>simp) (by obtain⟨i,y | y⟩:=y<;>subst y<;>simp))],λ_ e=>e]) (λa o z=>?_) (λa o z=>?_) λa r z=>?_;(all_goals by_cases n:ϒ=lS);rw[yJ n] at z;rcases z with z | z<;>cases z;rw[ky n] at z;exact q.st a o z;rw[yJ n] at z;cases z;rw[ky n] at z;exact q.sl a o z;obtain⟨o,_,e⟩:=ol n;exact q.al a _ e;rw[ky n] at z;exact q.al a r z);(have cl:∀{y c},K2=ϓ->∀{v},[Kg,v]->s'.heap.IsCell c v:=λ{y c} e {v} #[o,ho,hd]=>by rcases(I.ce y c e).2 with z | ⟨⟨o',z⟩,_⟩;obtain⟨o',e1,e2⟩:=ol z;rw[P7 (I.cne e)] at e2;rw[ho] at e1;cases e1;exact#[_,q.st c _ (.inr e2),hd];have e1:=[HQ,c,o',z];rw[ho] at e1;cases e1;exact#[_,hk.st c _ (.inr (gr.f _ _ z gV)),hd]);refine#[#[I.ok,os.trans I.os,br,hk,λb o e=>gr.f _ _ (I.bs b o e) gV,λa r e f=>gr.f _ _ (I.kp a r e f) (.inl f),gr.ip I.ip,gr.f _ _ I.lf Mi,?_,λy c e=>?_,I.len],gr];obtain⟨m,⟨o,es,ep,ho,dd,r⟩,hl⟩:=I.lc;obtain⟨o',e1,e2⟩:=ol I.lf;rw[ho] at e1;cases e1;rw[Cx] at e2;obtain⟨_,sl,e3⟩:=q.sl _ _ e2;refine#[m,#[_,es,ep,e3,dd,r],λi y d e1 e2 e3=>?_];obtain⟨u,dq,l⟩:=hl i y d e1 e2 e3;refine#[u,gr.le.du dq,?_];rcases l with l | ⟨kk,c,e,z⟩;exact .inl l;exact .inr #[kk,c,e,cl e z];obtain⟨⟨v,z⟩,r⟩:=I.ce y c e;refine#[#[v,cl e z],?_];rcases r with r | ⟨⟨o,r⟩,f⟩;exact .inl (gr.f _ _ r Mi);exact .inr #[#[o,gr.f _ _ r gV],f]
end
structure QE (X:Cz)(e:QD)(f:RE):Prop where
 h:∀{pins ρ h ws s P},J X pins ρ h ws s->(f ρ h).sat P X.E->X.wp [Ϭ,e] (RP X pins ρ ws P) s
structure QA (X:Cz)(es:Ia)(f:RA):Prop where
 h:∀{pos pins ρ h ws s P},J X pins ρ h ws s->(f ρ h).sat P X.E->X.wp (spliced (backTo pos [ϴ,es])) (AR X pins ρ ws P) s
structure QT (X:Cz)(e:QD)(f:RT):Prop where
 h:∀{pins ρ h ws s P},J X pins ρ h ws s->(f ρ h).sat P X.E->X.wp (isTrue e X.env [Ϭ,e]) (TR X pins ρ ws P) s
structure QW (X:Cz)(e:QD)(f:RT):Prop where
 h:∀{w pins ρ h ws s P},J X pins ρ h ws s->(f ρ h).sat P X.E->X.wp (isTrue e X.env w) (TR X pins ρ ws P) s
structure QS (X:Cz)(st:RV)(f:RS):Prop where
 h:∀{pins ρ h ws s P},J X pins ρ h ws s->(f ρ h).sat P X.E->X.wp (exec st X.env) (SR X pins ws P) s
structure QB (X:Cz)(st:List RV)(f:RS):Prop where
 h:∀{pins ρ h ws s P},J X pins ρ h ws s->(f ρ h).sat P X.E->X.wp (execs st X.env) (SR X pins ws P) s
class Ve (X:Cz) (op:CmpOp) (g:D->D->TH->tv):Prop where
 h:∀{pins ρ h ws s P x y u v},J X pins ρ h ((y,v)::(x,u)::ws) s->(g x y h).sat P X.E->X.wp (compareOp op u v) (RP X pins ρ ws P) s
class X0 (X:Cz) (op:Operator) (g:D->D->TH->tv):Prop where
 h:∀{pins ρ h ws s P x y u v},J X pins ρ h ((y,v)::(x,u)::ws) s->(g x y h).sat P X.E->X.wp (binaryOp op u v) (RP X pins ρ ws P) s
abbrev Fb (X:Cz)(v:Value)(g:Φ->TH->tv):Prop:=∀{pins ρ h ws s P} {ds:List D} {us:List Value},ds.length=us.length->J X pins ρ h (ϝ++ws) s->(g ds h).sat P X.E->X.wp (call v us) (RP X pins ρ ws P) s
class BOk (X:Cz) (x:Qi) (g:Φ->TH->tv):Prop where
 ex:∃v,X.mg x=ng/\QR x=ZJ/\((∃i,v=.builtin i)\/∃i,v=.type i)/\Fb X v g
noncomputable def bltN:Χ:=["abs","all","any","bool","dict","enumerate","int","isinstance","len","list","max","min","range","reversed","set","sorted","str","sum","tuple","zip","ValueError"]
abbrev NAG (X:Cz)(x:Qi):Prop:=JC=se .globalImplicit
class Yx (X:Cz) (k:outParam Nat):Prop where
 room:RC k X.A
 calm:X.calm=tj
 blt:∀x∈bltN,X.mg x=ng
 nd:X.N.Nodup
 po:PassesOwn [ZV,X.B.w] X.A X.env X.xe
 xp:∀{g ρ h s e s'},Iv X g ρ h s->X.ER X.stack [Lr,s.heap] s X.E e s'->X.xe e s'
 en:∀{st g s e s'},X.ER st g s (λ_ _=>False) e s'->False
 fld:∀c f,'?'.contains f=tj->ClsF X.B.C.K OH f
theorem Yx.no (Y:Yx X k)(x:Qi)(h:bltN.contains x=tj:=by decide +kernel):X.mg x=none:=Y.blt x (kf.mp h)
structure RCst (B:Cb)(mg:Qi->ZH)(base:QF)(x:Qi)(d:D):Prop where
 is:∃u,mg x=TG/\∀g:Gs,(∀b o,Mq=Υ->ϛ=ZT)->DU B g d u
section
variable {X:Cz}{k:Nat}{m:Bool}{a b c e:QD}{es rest:Ia}{x y f:Qi}{pos p q:Tx}{fa fb fc:RE}{fA:RA}{fT fU:RT}{g g':D->D->TH->tv}{i j:Nat}{iv:Int}{st:RV}{sts body Ux:List RV}{fs fu:RS}
theorem J.inv (z:J X pins ρ h ws s):∃g,Iv X g ρ h s:=by cases z with | mk g I p W=>exact#[g,I]
theorem yK (z:J X pins ρ h ws s)(hg:NAG X x)(hm:X.mg x=TG)(q:Q u s)(hd:(x==("__debug__"))=ff):Qn [ZV,X.B.w] X.A [Ϭ,[L2,pos]] Q E s:=by obtain⟨g,I⟩:=z.inv;exact Calls.Name_function_global I.ok.kind hg (Calls.loadGlobal_global (by exact I.ok.glob▸'s') hm q) hd
theorem io (z:J X pins ρ h ws s)(hg:NAG X x)(hm:X.mg x=ng)(hv:QR x=TG)(q:Q u s)(hn:x≠"__name__")(hd:(x==("__debug__"))=ff):Qn [ZV,X.B.w] X.A [Ϭ,[L2,pos]] Q E s:=by obtain⟨g,I⟩:=z.inv;obtain⟨mb,h1,h2⟩:=I.ok.mod.blt;exact Calls.Name_function_global I.ok.kind hg (Calls.loadGlobal_builtin (by exact I.ok.glob▸'s') hm (by exact I.ok.blt▸h1.keeps I.bk) ((h2 x hn).trans hv) q) hd
theorem q_v (hN:X.N[i]?=σ:=by rfl)(hv:Vis X.env.scope x:=by first |exact Or.inl rfl |exact qN (Or.inl rfl) |exact qN (qN rfl))(hd:(x==("__debug__"))=ff:=by decide)(hcd:(x==("__classdict__"))=ff:=by decide):QE X [L2,pos] (rV i):=#[λz q=>by cases z with | mk g I p W =>unfold rV at q;split at q;rename_i v e;rw[aW] at e;obtain⟨m,hn,hl⟩:=I.lc;obtain⟨u,r,l⟩:=hl i x v hN e hv;have fin:RP X _ _ _ _ u _:=#[v,_,#[g,I,p,λw' z=>by rcases 'x' with rfl | z;exact r;exact W w' z],q];rcases l with ⟨hk,hm⟩ | ⟨hk | hk,c,hc,hcell⟩;exact wpAny_Name (wpAny_loadName_local I.ok.kind hk hn hm fin) hd;exact wpAny_Name (wpAny_loadName_cell I.ok.kind hk hc hcell fin) hd;exact wpAny_Name (wpAny_loadName_free I.ok.kind hk hc hcell fin hcd) hd;exact q.elim]
theorem yL:QE X (.Constant (.int iv) j pos) [΢,iv]:=#[λz q=>wpAny_Constant_int (z.gint q)]
theorem zex:QE X (.Constant (.bool m) j pos) (rC (.bl m)):=#[λz q=>Constant_bool (z.gbl q)]
theorem MC:QE X (.Constant .none j pos) Kk:=#[λz q=>Constant_none (z.gnon q)]
theorem zcS:QE X (.Constant ϋ j pos) (rC ϋ):=#[λz q=>Calls.Constant_str (z.gstr q)]
theorem zbX (h:RCst X.B X.mg X.base x d:=by assumption)(hg:NAG X x:=by rfl)(hd:(x==("__debug__"))=ff:=by decide):QE X [L2,pos] (rC d):=#[λz q=>by obtain⟨u,h1,h3⟩:=h.is;refine yK z hg h1 #[_,_,?_,q] hd;cases z with | mk g I p W=>exact#[g,I,p,λw z=>by rcases 'x' with rfl | z;exact h3 g I.bs;exact W w z]]
theorem zej [B:X0 X op g] (ha:QE X a fa)(hb:QE X b fb):QE X (.BinOp a op b pos) (Qr g fa fb):=#[λz q=>wpAny_BinOp (Rj [wr,z] λ_ _ #[_,_,z,q]=>Rj (hb.h z q.bnd) λ_ _ #[_,_,z,q]=>B.h z q)]
theorem zck [B:Ve X op g] (ha:QE X a fa)(hb:QE X b fb)(hm:behindInMarks op b=ff:=by rfl):QE X (.Compare a [op] [b] pos) (Qr g fa fb):=#[λz q=>wpAny_Compare1 (Rj [wr,z] λ_ _ #[_,_,z,q]=>Rj (hb.h z q.bnd) λ_ _ #[_,_,z,q]=>B.h z q) hm]
theorem Fc (t:RP X pins ρ ws (λx h=>(match x with | .bl b=>.ok b h| _=>.no:RX.R Bool).sat P (X.E)) u s):X.wp (truthy u) (TR X pins ρ ws P) s:=by obtain⟨d,h,z,q⟩:=t;split at q;cases z.bl;exact Rq #[_,z.tl,q];exact q.elim
theorem MH [B:Ve X op g] (ha:QE X a fa)(hb:QE X b fb)(hm:behindInMarks op b=ff:=by rfl):QT X (.Compare a [op] [b] pos) [ϗ,g,fa,fb]:=#[λz q=>wpAny_isTrue_Compare1 (Rj (ha.h z q.bnd.bnd) λ_ _ #[_,_,z,q]=>Rj (hb.h z q.bnd) λ_ _ #[_,_,z,q]=>Rj (B.h z q) λ_ _=>Fc) hm]
theorem zcB [B:Ve X op g] [B':Ve X op' g'] (ha:QE X a fa)(hb:QE X b fb)(hc:QE X c fc)(hm:lastMarks [op,op'] [b,c]=ff:=by with_unfolding_all rfl):QE X (.Compare a [op,op'] [b,c] pos) (XG g g' fa fb fc):=#[λ{pins ρ h ws s P} z q =>Compare_chain (Rj [wr,z] λ_ _ #[_,_,z,q]=>chain_link (Rj (hb.h z q.bnd) λv _ #[y,_,z,q]=>Rj (B.h (ws:=(y,v)::ws) (z.sub Τ) q.bnd) λ_ _ #[_,_,z,q]=>by split at q;rename_i k;cases z.bl;refine Rq ?_;(cases k with| false=>exact ite_ff (z.tl.tl.gbl q)| true=>exact ite_tt (chain_last (Rj (hc.h z.tl q.bnd) λ_ _ #[_,_,z,q]=>B'.h z q)));exact q.elim)) hm]
theorem zdq (ha:QE X a fa):QE X (.UnaryOp .USub a pos) (rUn X9 fa):=#[λz q=>UnaryOp_ (Rj [wr,z] λ_ _ #[_,_,z,q]=>by unfold X9 at q;split at q;obtain⟨t,rfl⟩:=z.int;exact neg_int (z.tl.gint q);exact q.elim)]
theorem MK (ha:QE X a fa):QE X (.UnaryOp .Not a pos) (rNotV fa):=#[λz q=>UnaryOp_ (Rj [wr,z] λ_ _ #[_,_,z,q]=>by split at q;cases z.bl;exact not_of (Rq (z.tl.gbl q));exact q.elim)]
theorem ML (ha:QE X a fa)(hb:QE X [Mv,.And,b::rest] fb):QE X [Mv,.And,a::b::rest] (Uv fa fb):=#[λz q=>BoolOp_and (Rj [wr,z] λ_ _ #[_,_,z,q]=>by split at q;rename_i k;cases z.bl;refine Rq ?_;(cases k with| true=>exact hb.h z.tl q| false=>exact z.tl.gbl q);exact q.elim)]
theorem MM (ha:QE X a fa)(hb:QE X [Mv,.Or,b::rest] fb):QE X [Mv,.Or,a::b::rest] (Ze fa fb):=#[λz q=>BoolOp_or (Rj [wr,z] λ_ _ #[_,_,z,q]=>by split at q;rename_i k;cases z.bl;refine Rq ?_;(cases k with| false=>exact hb.h z.tl q| true=>exact z.tl.gbl q);exact q.elim)]
theorem MN (hc:QT X c fT)(ha:QE X a fa)(hb:QE X b fb):QE X (.IfExp c a b pos) (Zh fT fa fb):=#[λz q=>wpAny_IfExp (Rj (hc.h z q.bnd) λd _ #[_,z,q]=>by cases d with| true=>exact ha.h z q| false=>exact hb.h z q)]
theorem MO (ha:QE X e fa)(he:∀mU,isTrue e X.env mU=(do let v <-mU;standAt e.pos;holding [v] (truthy v)):=by intro _;rfl):QT X e (Qy fa):=#[λz q=>isTrue_plain (Rj [wr,z] λ_ _=>Fc) (he _)]
theorem MP (ha:QT X a fT):QT X (.UnaryOp .Not a pos) (Xa fT):=#[λz q=>isTrue_not (Rj [wr,z] λ_ _ #[_,z,q]=>#[_,z,q])]
theorem Fd (ha:QT X a fT)(hb:QW X [Mv,.And,b::rest] fU):QW X [Mv,.And,a::b::rest] (Ul fT fU):=#[λz q=>isTrue_and (Rj [wr,z] λk _ #[_,z,q]=>by cases k with| true=>exact hb.h z q| false=>exact#[_,z,q])]
theorem Fe (ha:QT X a fT)(hb:QW X [Mv,.Or,b::rest] fU):QW X [Mv,.Or,a::b::rest] (Zf fT fU):=#[λz q=>isTrue_or (Rj [wr,z] λk _ #[_,z,q]=>by cases k with| false=>exact hb.h z q| true=>exact#[_,z,q])]
theorem zaD (h:QE X a fa):QE X [Mv,op,[a]] fa:=#[λz q=>BoolOp_one (h.h z q)]
theorem Ff (h:QW X a fT):QT X a fT:=#[h.h]
theorem MR (h:QT X a fT):QW X [Mv,.And,[a]] fT:=#[λz q=>isTrue_and (Rj (h.h z q) λk _ t=>by cases k with| true=>exact isTrue_and_nil t| false=>exact t)]
theorem MS (h:QT X a fT):QW X [Mv,.Or,[a]] fT:=#[λz q=>isTrue_or (Rj (h.h z q) λk _ t=>by cases k with| false=>exact isTrue_or_nil t| true=>exact t)]
theorem p8:QA X [] Qg:=#[λz q=>Calls.spliced_nil #[[],_,rfl,z,q]]
theorem p9 (ha:QE X e fa)(hr:QA X es fA)(hs:[ϴ,e::es]=(ff,[Ϭ,e])::[ϴ,es]:=by rfl):QA X (e::es) (Qc fa fA):=#[λ{pos} {pins} {ρ} {h} {ws} {s} {P} z q=>by exact hs▸[HH,[wr,z],λ_ _ #[_,_,z,q]=>Rj (hr.h z q.bnd) λ_ _ #[ds,_,l,z,q]=>#[_::ds,_,by simp[l],z.sub (by simp +contextual [or_imp]),q]]]
theorem MT:QS X st TL:=#[λ_ q=>q.elim]
theorem zcu:QB X [] Q9:=#[λz q=>Uj #[_,_,z,q]]
theorem MV (h:QS X st fs):QB X [st] fs:=#[λz q=>wpAny_execs_cons (Rj (h.h z q) λf _ t=>by cases f with| next=>exact Uj t| ret v=>exact t| brk=>exact t| cont=>exact t)]
theorem zc9 (h:QS X st fs)(h2:QB X sts fu):QB X (st::sts) (Ql fs fu):=#[λz q=>wpAny_execs_cons (Rj (h.h z q.bnd) λf _ t=>by cases f with| next=>obtain⟨_,_,z,q⟩:=t;exact h2.h z q| ret v=>exact t| brk=>exact t| cont=>exact t)]
theorem MX (h:QE X e fa)(hs:UC e ng pos.line X.env=Ij:=by rfl):QS X (.Expr e pos) (TN fa):=#[λz q=>by obtain⟨_,I⟩:=z.inv;exact wpAny_Expr_any (Rj (h.h z q.bnd) λ_ _ #[_,_,z,q]=>#[_,_,z.tl,q]) (by simp[interactive,I.ok.kind]) hs]
theorem zch (h:QE X e fa):QS X (.Return (se e) pos) (QU fa):=#[λz q=>wpAny_Return_some (Rj (h.h z q.bnd) λ_ _ #[_,_,z,q]=>#[_,_,_,z,q])]
theorem MZ (hc:QT X c fT)(ha:QB X body fs)(hb:QB X Ux fu):QS X (.If c body Ux pos) (Rc fT fs fu):=#[λz q=>wpAny_If (Rj (hc.h z q.bnd) λd _ #[_,z,q]=>by cases d with| true=>exact ha.h z q| false=>exact hb.h z q)]
end
inductive OS (X:Cz) (pins:List (Qh×RB)) (ρ:Rb) (h:TH) (ws:WL) (s:Qe) (φ:Qh->ϖ->Prop) (ds:Φ) (u:Value):Prop
 | mk (a:Qh) (us:ϖ) (e:u=ύ) (l:ds.length=us.length) (z:us.length<=sizeLine) (f:φ a us) (j:J X pins ρ h (ϝ++ws) s)
section
variable {X:Cz}{g g':Gs}{ρ:Rb}{h:TH}{s:Qe}{H H':QF}{pins:List (Qh×RB)}{ws ws':WL}{a b:Qh}{o:RB}{d x:D}{u:Value}{ds ds':Φ}{us us':ϖ}{P:D->TH->Prop}{k i c n t:Nat}{m:Bool}{ks:Ϛ}
@[elab_as_elim] theorem yM {α β:Type}{M:υ->Na->Prop}(nil:M [] [])(cons:∀a as b bs,as.length=bs.length->M as bs->M (a::as) (b::bs)){as bs}(l:as.length=bs.length):M as bs:=by revert bs;induction as with| nil=>(intro bs l;cases bs with| nil=>exact nil| cons _ _=>cases l)| cons a as ih=>intro bs l;cases bs with| nil=>cases l| cons b bs=>exact cons a as b bs (jy l) (ih (jy l))
@[elab_as_elim] theorem vw {α β γ:Type}{M:υ->Na->XK->Prop}(nil:M [] [] [])(cons:∀a as b bs c cs,as.length=bs.length->bs.length=cs.length->M as bs cs->M (a::as) (b::bs) (c::cs)){as bs cs}(l:as.length=bs.length)(l2:bs.length=cs.length):M as bs cs:=by refine@yM α β (λas bs=>∀cs,bs.length=cs.length->M as bs cs) (λcs e=>?_) (λa as b bs l ih cs e=>?_) as bs l cs l2;(cases cs with| nil=>exact nil| cons _ _=>cases e);cases cs with| nil=>cases e| cons c cs=>exact cons a as b bs c cs l (jy e) (ih cs (jy e))
theorem RP.tl (r:RP X pins ρ (w::ws) P u s):RP X pins ρ ws P u s:=by cases r with | mk d h j p=>exact#[d,h,j.sub (by simp +contextual),p]
theorem gf:s.heap.get? s.heap.objs.size=none:=Heap.get?_none_of_le ϭ
theorem jK (A:cF B g ws)(W:cF B g ws'):cF B g (ws++ws'):=λw z=>(dE.mp z).elim (A w) (W w)
theorem qa (q:DU B g d u)(W:cF B g ws):cF B g ((d,u)::ws):=λw z=>'x'.elim (λe=>e▸q) (W w)
theorem J.opS (j:J X pins ρ h ws s)(m:(x,u)∈ws)(e:eS h x=Pa):OS X pins ρ h ws s (λa us=>bif ϩ then IsTup s.heap a us.toArray else∃n,Z5=se (Vi us n)) ds u:=by cases j with | mk g I p W =>have q:=W _ m;unfold eS at e;split at e;cases e;(cases q with | tup f l z A=>obtain⟨o,e,f⟩:=f;exact#[_,_,rfl,l,z,f _ [OT,_,_,e],g,I,p,jK A W]);cases e;(cases q with | lst f l z A=>exact#[_,_,rfl,l,z,#[_,[OT,_,_,f]],g,I,p,jK A W]);(cases q with | at_ e0 =>split at e;rename_i e1;cases e;rw[aW] at e1;(cases[Jp,_,_,_,e1]with | ml r e l z A=>exact#[_,_,rfl,l,z,#[_,e],g,I,p,jK A W]);rename_i e1;cases e;rw[aW] at e1;(cases[Jp,_,_,_,e1]with | mr f l z A=>exact#[_,_,rfl,by simpa using l,z,#[_,[OT,_,_,f]],g,I,p,jK (λw q=>by rw[wq] at q;obtain⟨y,y1,rfl⟩:=aO.mp q;obtain⟨t,e⟩:=A y y1;exact e▸.int) W]);cases e);cases e
theorem zaE (e:eL h x=Pa):eS h x=Pa/\ϩ=ff:=by unfold eL at e;unfold eS;split at e;exact#[e,rfl];split at e;rename_i e1;dsimp only;exact e1▸#[e,rfl];cases e;cases e
theorem J.opL (j:J X pins ρ h ws s)(m:(x,u)∈ws)(e:eL h x=Pa):OS X pins ρ h ws s (λa us=>∃n,Z5=se (Vi us n)) ds u:=by obtain⟨e1,e2⟩:=zaE e;obtain⟨a,us,e,l,z,f,j⟩:=j.opS m e1;rw[e2] at f;exact#[a,us,e,l,z,f,j]
theorem J.opD (j:J X pins ρ h ws s)(m:(x,u)∈ws)(e:eK h x=se (ks,ds)):ks.length=ds.length/\OS X pins ρ h ws s (λa us=>(a==SS)=ff/\s.heap.DictOf [ZC,X.B.w] a '5') ds u:=by cases j with | mk g I p W =>have q:=W _ m;unfold eK at e;split at e;cases e;(cases q with | dic f n k l z A=>obtain⟨o,e,f⟩:=f;exact#[k,_,_,rfl,l,z,#[n,f _ [OT,_,_,e]],g,I,p,jK A W]);(cases q with | at_ e0 =>split at e;rename_i e1;cases e;rw[aW] at e1;(cases[Jp,_,_,_,e1]with | md r e n k l z A=>exact#[k,_,_,rfl,l,z,#[n,e],g,I,p,jK A W]);cases e);cases e
theorem Fg (I:Iv X g ρ h s)(p:∀p∈pins,g.G p.1=[ϵ,p.2])(W:cF X.B g (ws'++ws))(n:ϒ=ng)(k:∀b o,ϣ=Υ->'&'=Υ)(e:NA=Υ)(mk:∀g,cF X.B g ws'->ϒ=ZT->DU X.B g d ύ)(t:Nat):J X pins ρ h ((d,ύ)::ws) { s with heap:=H',toks:=t}:=by have x:=Gr.upd (r:=ZT) n;refine J.via I p x (I.hk.dat n k e) (λb o _=>k b o) (qa (mk _ (x.le.held λw z=>W w (c9 _ z)) Gs.upd_same) (x.le.held λw z=>W w (eI _ z))) t
theorem J.dat (j:J X pins ρ h (ws'++ws) s)(n:Z5=ng)(k:∀b o,ϣ=Υ->'&'=Υ)(e:NA=Υ)(mk:∀g,cF X.B g ws'->ϒ=ZT->DU X.B g d ύ)(t:Nat):J X pins ρ h ((d,ύ)::ws) { s with heap:=H',toks:=t}:=by cases j with | mk g I p W=>exact Fg I p W (I.hk.fresh n) k e mk t
theorem vy (I:Iv X g ρ h s)(p:∀p∈pins,g.G p.1=[ϵ,p.2])(W:cF X.B g (ws'++ws))(as:Lh)(n:∀b∈as,ϛ=ng)(k:∀b o,ϣ=Υ->'&'=Υ)(al:∀b∈as,∃o,'&'=Υ) (mk:∀g',Le g g'->cF X.B g' ws'->(∀b∈as,Hg=Pg)->Th X.B g' H' h.length a tm) (t:Nat):J X pins ρ (h++[tm]) ((.at h.length,ύ)::ws) { s with heap:=H',toks:=t}:=by(obtain⟨x,q⟩:=(I.hk.kept k).mut as n al λg' e _ x=>mk g' x (x.held λw z=>W w (c9 _ z)) λb z=>by exact e▸ZL);refine J.via I p #[λb r z _=>?_,_,rfl] q (λb o _=>k b o) (qa (.at_ (by exact I.hk.len▸vU)) (x.held λw z=>W w (eI _ z))) t;show(if b∈as then _ else _)=_;rw[P7 λy=>by rw[n b y] at z;cases z];exact z
theorem J.mut (j:J X pins ρ h (ws'++ws) s)(as:Lh)(n:∀b∈as,ϣ=ng)(k:∀b o,ϣ=Υ->'&'=Υ)(al:∀b∈as,∃o,'&'=Υ) (mk:∀g,cF X.B g ws'->(∀b∈as,ϛ=Pg)->Th X.B g H' h.length a tm) (t:Nat):J X pins ρ (h++[tm]) ((.at h.length,ύ)::ws) { s with heap:=H',toks:=t}:=by cases j with | mk g I p W=>exact vy I p W as (λb z=>I.hk.fresh (n b z)) k al (λg _=>mk g) t
theorem Fh (I:Iv X g ρ h s)(p:∀p∈pins,g.G p.1=[ϵ,p.2])(W:cF X.B g (ϝ++ws))(l:ds.length=us.length)(z:us.length<=sizeLine)(n:ϒ=ng)(k:∀b o,ϣ=Υ->'&'=Υ)(e:NA=se (Vi us c))(q:(RX.mk m ds h).sat P E)(t:Nat):RP X pins ρ ws P ύ { s with heap:=H',toks:=t}:=by unfold RX.mk at q;cases m with| false=>exact#[_,_,Fg I p W n k e (λg A r=>.lst r l z A) t,q]| true =>rw[show Gl=h.length from aR h,show hp h (.ml ds)=h++[.ml ds]from gY _ _] at q;exact#[_,_,vy I p W [a] (by simpa using n) k (by simpa using #[_,e]) (λg _ A r=>.ml (r a (by simp)) e l z A) t,q]
theorem J.mkL (j:J X pins ρ h (ϝ++ws) s)(l:ds.length=us.length)(z:us.length<=sizeLine)(n:Z5=ng)(k:∀b o,ϣ=Υ->'&'=Υ)(e:NA=se (Vi us c))(q:(RX.mk m ds h).sat P E)(t:Nat):RP X pins ρ ws P ύ { s with heap:=H',toks:=t}:=by cases j with | mk g I p W=>exact Fh I p W l z (I.hk.fresh n) k e q t
theorem J.pushL (j:J X pins ρ h (ϝ++ws) s)(l:ds.length=us.length)(z:us.length<=sizeLine)(q:(RX.mk m ds h).sat P E)(t:Nat):RP X pins ρ ws P PM { s with heap:=s.heap.push (Vi us c),toks:=t} :=j.mkL l z gf (λ_ _=>Heap.get?_push_of_some _) (Heap.get?_push_size _ rfl) q t
theorem J.mkD (j:J X pins ρ h (ϝ++ws) s)(kl:ks.length=ds.length)(l:ds.length=us.length)(z:us.length<=sizeLine)(n:Z5=ng)(k:∀b o,ϣ=Υ->'&'=Υ)(ns:(a==SS)=ff)(e:H'.DictOf [ZC,X.B.w] a '5')(q:(mkD m ks ds h).sat P E)(t:Nat):RP X pins ρ ws P ύ { s with heap:=H',toks:=t}:=by unfold RX.mkD at q;obtain⟨o,es,ep,e1,e2⟩:=id e;cases m with| false=>exact#[_,_,j.dat n k e1 (λg A r=>.dic #[_,r,λ_ e=>#[o,es,ep,e,e2]] ns kl l z A) t,q]| true =>rw[show Gl=h.length from aR h,show hp h (.md ks ds)=h++[.md ks ds]from gY _ _] at q;exact#[_,_,j.mut [a] (by simpa using n) k (by simpa using #[_,e1]) (λg A r=>.md (r a (by simp)) e ns kl l z A) t,q]
theorem J.set (j:J X pins ρ h ws s)(m:(.at i,ύ)∈ws)(r:∀g,Hk X.B g h s.heap->g.ι[i]?=lT->ϒ=TA)(k:∀b o,b≠a->ϣ=Υ->'&'=Υ)(e:∃o,NA=Υ)(new:∀g,cF X.B g ws->ϒ=TA->Th X.B g H' i a tm)(t:Nat) :J X pins ρ [ϧ,tm] ws { s with heap:=H',toks:=t}:=by cases j with | mk g I p W =>cases W _ m with | at_ e0 =>have r0:=r g I.hk e0;refine J.via I p .refl (I.hk.set (λb o z=>k b o (by rintro rfl;exact z r0)) (λb z=>?_) λa' e1=>?_) (λb o z=>k b o (by rintro rfl;rw[r0] at z;cases z)) W t;by_cases n:b=a;subst n;exact e;obtain⟨o,e⟩:=[IZ,b,z];exact#[o,k b o n e];rw[e0] at e1;cases e1;exact new g W r0
theorem M2 (e:h[i]?=[ϥ,ds])(g:Gs)(q:Hk B g h H)(e0:g.ι[i]?=lT):ϒ=TA:=by cases q.th _ _ _ e e0 with | ml r _ _ _ _=>exact r
theorem rM (e:h[i]?=se (.md ks ds))(g:Gs)(q:Hk B g h H)(e0:g.ι[i]?=lT):ϒ=TA:=by cases q.th _ _ _ e e0 with | md r _ _ _ _ _ _=>exact r
inductive OM (X:Cz) (pins:List (Qh×RB)) (ρ:Rb) (h:TH) (ws:WL) (s:Qe) (φ:Qh->ϖ->Prop) (i:Nat) (tm:TM) (x:D) (ds:Φ) (u:Value):Prop
 | mk (a:Qh) (us:ϖ) (ex:x=.at i) (e:u=ύ) (eh:h[i]?=se tm) (l:ds.length=us.length) (z:us.length<=sizeLine) (f:φ a us) (j:J X pins ρ h (ϝ++ws) s)
theorem J.opM (j:J X pins ρ h ws s)(m:(x,u)∈ws)(e:UZ h x=se (i,ds)):OM X pins ρ h ws s (λa us=>∃n,Z5=se (Vi us n)) i (.ml ds) x ds u:=by unfold UZ at e;split at e;split at e;rename_i e1;cases e;rw[aW] at e1;(cases j with | mk g I p W =>cases W _ m with | at_ e0 =>cases[Jp,_,_,_,e1]with | ml r e l z A=>exact#[_,_,rfl,rfl,e1,l,z,#[_,e],g,I,p,jK A W]);cases e;cases e
theorem J.opMd (j:J X pins ρ h ws s)(m:(x,u)∈ws)(e:Xg h x=se (i,ks,ds)):ks.length=ds.length/\OM X pins ρ h ws s (λa us=>(a==SS)=ff/\s.heap.DictOf [ZC,X.B.w] a '5') i (.md ks ds) x ds u:=by unfold Xg at e;split at e;split at e;rename_i e1;cases e;rw[aW] at e1;(cases j with | mk g I p W =>cases W _ m with | at_ e0 =>cases[Jp,_,_,_,e1]with | md r e n k l z A=>exact#[k,_,_,rfl,rfl,e1,l,z,#[n,e],g,I,p,jK A W]);cases e;cases e
theorem J.setL (j:J X pins ρ h ws s)(m:(.at i,ύ)∈ws)(eh:h[i]?=[ϥ,ds])(k:∀b o,b≠a->ϣ=Υ->'&'=Υ)(e:NA=se (Vi us' n))(l:ds'.length=us'.length)(z:us'.length<=sizeLine)(sub:∀w∈Mr,w∈ws)(t:Nat) :J X pins ρ (hs h i (.ml ds')) ws { s with heap:=H',toks:=t}:=by rw[show hs h i (.ml ds')=[ϧ,.ml ds']from eJ _ _ _];exact j.set m (M2 eh) k #[_,e] (λg W r=>.ml r e l z λw q=>W w (sub w q)) t
theorem J.setD (j:J X pins ρ h ws s)(m:(.at i,ύ)∈ws)(eh:h[i]?=se (.md ks ds))(k:∀b o,b≠a->ϣ=Υ->'&'=Υ)(ns:(a==SS)=ff)(e:H'.DictOf [ZC,X.B.w] a (ks'.zip us'))(kl:ks'.length=ds'.length)(l:ds'.length=us'.length)(z:us'.length<=sizeLine)(sub:∀w∈Mr,w∈ws)(t:Nat) :J X pins ρ (hs h i (.md ks' ds')) ws { s with heap:=H',toks:=t}:=by rw[show hs h i (.md ks' ds')=[ϧ,.md ks' ds']from eJ _ _ _];obtain⟨o,es,ep,e1,e2⟩:=id e;exact j.set m (rM eh) k #[_,e1] (λg W r=>.md r e ns kl l z λw q=>W w (sub w q)) t
theorem J.frz (j:J X pins ρ h ws s)(m:(x,u)∈ws)(e:Xg h x=se (i,ks,ds)):J X pins ρ (hs h i .no) ((.dic ks ds,u)::ws) s:=by obtain⟨kl,a,us,rfl,rfl,eh,l,z,⟨ns,dd⟩,j⟩:=j.opMd m e;obtain⟨o,es,ep,e1,e2⟩:=id dd;cases j with | mk g I p W =>cases W _ (eI _ m)with | at_ e0 =>obtain⟨x,q⟩:=I.hk.gone e1 (rM eh g I.hk e0);rw[show hs h i .no=[ϧ,.no]from eJ _ _ _];exact J.via (t:=s.toks) I p #[λb r z f=>by(have n:b≠a:=by rintro rfl;rw[rM eh g I.hk e0] at z;cases z;rcases f with f | f<;>cases f);rwa [Oc],x.i] q (λ_ _ _ e=>e) (qa (.dic #[o,Gs.upd_same,λ_ e=>#[o,es,ep,e,e2]] ns kl l z (x.held λw z=>W w (c9 _ z))) (x.held λw z=>W w (eI _ z)))
end
section
variable {X:Cz}{ρ:Rb}{h:TH}{s:Qe}{pins:List (Qh×RB)}{ws:WL}{d x y:D}{u v:Value}{ds:Φ}{us:ϖ}{P:D->TH->Prop}{k i n:Nat}{m:Bool}
inductive TI (p:Int->Int->Bool) (Q:Int->Int->Prop) (u v:Value):Prop
 | mk (i k:Int) (t t':Nat) (e:u=.int i t) (e':v=.int k t') (b:p i k=tj) (q:Q i k)
theorem oE (j:J X pins ρ h ((y,v)::(x,u)::ws) s)(q:(gI p g x y h).sat P E):TI p (λi k=>P (g i k) h) u v:=by unfold gI at q;split at q;obtain⟨t,rfl⟩:=j.int;obtain⟨t',rfl⟩:=j.tl.int;obtain⟨e,q⟩:=q.i;exact#[_,_,t',t,rfl,rfl,e,q];exact q.elim
instance:X0 X .Sub UN:=#[λj q=>by obtain⟨i,k,t,t',rfl,rfl,_,q⟩:=oE j q;exact PyProof.Rows.sub_int Ie]
instance:X0 X .FloorDiv Sg:=#[λj q=>by obtain⟨i,k,t,t',rfl,rfl,e,q⟩:=oE j q;unfold pDiv at e;rw[bW,bR,jE] at e;exact floordiv_int Τ Ie (.inl (PyProof.noPylong_of_log2 e.2))]
instance:X0 X .Mod Rg:=#[λj q=>by obtain⟨i,k,t,t',rfl,rfl,e,q⟩:=oE j q;unfold pMod at e;rw[gZ,decide_eq_true_iff] at e;exact mod_int' (by exact d9 e) (by exact(Int.fmod_eq_emod_of_nonneg i (by exact cE e))▸Ie)]
instance:X0 X .Pow gPow:=#[λj q=>by obtain⟨i,k,t,t',rfl,rfl,e,q⟩:=oE j q;obtain⟨h1,h2⟩:=zaH e;refine pow_int h1 h2 ?_;rw[show k.toNat=k.natAbs by lia];exact Ie]
instance:Ve X .Lt Y6:=#[λj q=>by obtain⟨i,k,t,t',rfl,rfl,e,q⟩:=oE j q;rw[gZ] at q;exact AJ H9]
instance:Ve X .Gt X2:=#[λj q=>by obtain⟨i,k,t,t',rfl,rfl,e,q⟩:=oE j q;rw[gZ] at q;exact PyProof.Rows.gt_int H9]
instance:Ve X .GtE gGe:=#[λj q=>by obtain⟨i,k,t,t',rfl,rfl,e,q⟩:=oE j q;refine PyProof.Rows.ge_int (j.tl.tl.gbl ?_);rwa [show decide (k<=i)=! X1 i k by rw[gZ,fG];simp]]
instance:Ve X .LtE gLe:=#[λj q=>by unfold gLe at q;split at q;obtain⟨t,rfl⟩:=j.int;obtain⟨t',rfl⟩:=j.tl.int;refine PyProof.Rows.le_int (j.tl.tl.gbl ?_);rename_i i k;rwa [show decide (i<=k)=! X1 k i by rw[gZ,fG];simp];obtain⟨t,rfl⟩:=j.str;obtain⟨t',rfl⟩:=j.tl.str;rw[B3] at q;exact PySem.P.le_str H9;exact q.elim]
theorem Fi (q:DU B g d u):(u==.none)=isN d:=by cases q<;>rfl
instance:Ve X .Is (gIs ff):=#[λj q=>by unfold gIs at q;split at q;obtain⟨_,_,r⟩:=j.tl.at aI;cases j.non;rw[kB,<-Fi r] at q;exact is_none_gen H9;exact q.elim]
instance:Ve X .IsNot (gIs tj):=#[λj q=>by unfold gIs at q;split at q;obtain⟨_,_,r⟩:=j.tl.at aI;cases j.non;rw[vO,<-Fi r] at q;exact isnot_none_gen H9;exact q.elim]
instance:X0 X .Add (S8 m):=#[λ{pins ρ h ws s P x y u v} j q=>by unfold S8 at q;split at q;obtain⟨t,rfl⟩:=j.int;obtain⟨t',rfl⟩:=j.tl.int;exact PyProof.Rows.add_int Ie;rename_i a b;obtain⟨t,rfl⟩:=j.str;obtain⟨t',rfl⟩:=j.tl.str;obtain⟨e,q⟩:=q.i;rw[eE,aR,aR] at e;rw[zb9] at q;exact add_str (λt' tk=>J.gstr j.tl.tl q) (by rw[Sn];simpa [Str.length] using e);obtain⟨ds,e1,q⟩:=q.o;obtain⟨es,e2,q⟩:=q.o;obtain⟨e,q⟩:=q.i;rw[eE,aR,aR] at e;rw[gY] at q;obtain⟨b,vs,rfl,l2,z2,⟨n2,f2⟩,j⟩:=j.opL aI e2;obtain⟨a,us,rfl,l1,z1,⟨n1,f1⟩,j⟩:=j.opL (eI _ (aY _ aI)) e1;(have hz:(us++vs).length<=sizeLine:=by exact eU▸l1▸l2▸e);rw[<-gb,<-lO l1] at j;refine PySem.P.add_list f1 f2 ?_ (by simpa using hz);rw[show us.toArray++vs.toArray=(us++vs).toArray by simp];exact(j.pushL (by simp[l1,l2]) hz q _).tl.tl]
theorem M3:∀n,(List.replicate n d).zip (be n u)=be n (d,u):=by intro n;induction n with| zero =>exact rfl| succ n ih =>simp[nz,ih]
theorem mul_list {k:Int}(e:Ng=se (Vi cD n))(hz:cD.length*k.toNat<=sizeLine)(h1:-(2^63)<=k)(h2:k<2^63) (q:Q PM { s with heap:=s.heap.push (Vi (be k.toNat cD).flatten 0)}):Qn [ϔ,w] A (binaryOp .Mult HN (.int k t)) Q E s:=by(have dR:cD.toArray.size*k.toNat<=sizeLine:=by rwa [fR]);(have hcap:¬cD.toArray.size*k.toNat>(2^63-1)/8:=by(have:sizeLine<=(2^63-1)/8:=by decide);lia);refine wpAny_binaryOp_repeat_ref (by decide) #[_,e,rfl] (λs'=>typeIs_int s' k t) noFill_list_mul F.fills_int_mul F.slot_int_rmul repeat_list F.slot_int_index.lookup (S6 F.slot_int_rmul (typeIs_int s k t) F.entry_int_rmul (F.args_int_rmul_2 _ _) (int___rmul___int_list k t l cD.toArray n) #[e,rfl,#[_,e,rfl],S6 F.slot_list_mul #[_,e,rfl] F.entry_list_mul (F.args_list_mul_2 _ _) (AutoListH.list___mul___list_int_3 l cD.toArray n k t (by rw[fitsIndex_both h1 h2];exact qr) hcap (by rw[A9 dR];exact qr)) #[e,?_]]);(have f0:=λm=>by exact foldl_rep cD m []);rw[f0,show(be (if cD.toArray.isEmpty=tj then 0 else k.toNat) cD).flatten=(be k.toNat cD).flatten by cases cD<;>simp];exact q
instance:X0 X .Mult (Vs m):=#[λ{pins ρ h ws s P x y u v} j q=>by unfold Vs at q;split at q;obtain⟨t,rfl⟩:=j.int;obtain⟨t',rfl⟩:=j.tl.int;obtain⟨e,q⟩:=q.i;unfold pMul at e;rw[bW,bR,bR] at e;exact PyProof.Rows.mul_int Ie (HG e.1 e.2 (by decide));rename_i n _;obtain⟨ds,e1,q⟩:=q.o;split at q;rename_i d;obtain⟨eb,q⟩:=q.i;rw[eE] at eb;rw[B2] at q;obtain⟨t,rfl⟩:=j.int;obtain⟨l,us,rfl,l1,z1,⟨n1,e⟩,j⟩:=j.opL (aY _ aI) e1;obtain⟨u,rfl⟩:∃u,us=[u]:=vY.mp l1.symm;(have sz:n<=sizeLine:=by exact Sn▸eb);refine mul_list e (by simpa using sz) Τ (by rw[Sn] at sz;lia) ?_;rw[show((lH n).toNat)=n from rfl,zdc];exact(J.sub (ws':=(be n d).zip (be n u)++ws) j (by rw[M3];simp +contextual [List.mem_replicate,or_imp])).pushL (by simp) (by simpa using sz) q _;exact q.elim;exact q.elim]
end
section
variable {X:Cz}{B:Cb}{g:Gs}{H:QF}{ρ:Rb}{h:TH}{s:Qe}{pins:List (Qh×RB)}{ws:WL}{d x y:D}{u v:Value}{ds:Φ}{us:ϖ}{P:D->TH->Prop}{k i n:Nat}{m neg:Bool}
theorem Fj {f:D->VK}(r:∀{x d u},DU B g x u->f x=Ϡ->R9 n d=tj->∃as,Reads H u (py d) as):∀{ds es:List D} {us:List Value},QJ f ds=se es->ds.length=us.length->cF B g ϝ->XU n es=tj->∃as,ReadsAll H us (Zq es) as:=by intro ds;induction ds with| nil =>(rintro es us e l A _;cases e;cases us with| nil=>exact#[_,.nil]| cons _ _=>cases l)| cons d ds ih =>rintro es us e l A f;obtain⟨d',es,e1,e2,rfl⟩:=Qx.mp e;rw[rd,bW] at f;cases us with| nil=>cases l| cons u us =>obtain⟨as,ra⟩:=r (A (d,u) aI) e1 f.1;obtain⟨bs,rb⟩:=ih e2 (by simpa using l) (λw z=>A w (aY _ z)) f.2;exact#[_,.cons ra rb]
theorem Fk (q:Hk B g h H):∀(m n:Nat) {x d:D} {u:Value},DU B g x u->fz h 0 m x=Ϡ->R9 n d=tj->∃as,Reads H u (py d) as:=by intro m;induction m with| zero=>intro _ _ _ _ _ e;cases e| succ m ih =>intro n x d u r e f;cases n with| zero=>cases f| succ n =>have ih:=@ih n;(have lis:∀{ds us a} {c:Nat},H.get? a=se (Vi us c)->ds.length=us.length->cF B g (ds.zip us)->TZ (QJ (fz h 0 m) ds) D.lst=se d->∃as,Reads H (.ref a) (py d) as:=λ{ds us a c} e1 l A e=>by obtain⟨es,e2,rfl⟩:=ii e;obtain⟨as,ra⟩:=Fj ih e2 l A f;exact#[_,.list e1 rfl rfl (by exact ra)]);cases r with| non=>cases e;exact#[_,.none]| bl=>cases e;exact#[_,.bool _]| int=>cases e;exact#[_,.int _ _]| str=>cases e;exact#[_,.str _ _]| fn=>cases e;cases f| lst e1 l z A=>exact lis (q.st _ _ (.inl e1)) l A e| tup e1 l z A =>obtain⟨es,e2,rfl⟩:=ii e;obtain⟨as,ra⟩:=Fj ih e2 l A f;obtain⟨o,e3,e4⟩:=e1;obtain⟨o,e5,c,nn,hd⟩:=e4 _ (q.st _ _ (.inl e3));exact#[_,.tuple e5 c hd (by exact ra)]| dic e1 nn kk l z A=>obtain⟨es,e2,rfl⟩:=ii e;cases f| at_ e0 =>replace e:(match eg h _ with| some (.ml ds)=>TZ (QJ (fz h 0 m) ds) D.lst| _=>ng)=se d:=e;split at e;rename_i e1;rw[aW] at e1;(cases q.th _ _ _ e1 e0 with | ml r e1 l z A=>exact lis e1 l A e);cases e
theorem Fm (j:J X pins ρ h ((y,v)::(x,u)::ws) s)(q:(SO neg x y h).sat P E):∃d e as bs,Reads s.heap u (py d) as/\Reads s.heap v (py e) bs/\R9 60 d=tj/\R9 60 e=tj/\P (.bl (neg^^PyData.eqv (py d) (py e))) h:=by obtain⟨d,e1,q⟩:=q.o;obtain⟨e,e2,q⟩:=q.o;obtain⟨eb,q⟩:=q.i;obtain⟨b,e3,q⟩:=q.o;rw[bW] at eb;cases j with | mk g I p W =>obtain⟨as,ra⟩:=Fk I.hk 9 60 (W _ (aY _ aI)) e1 eb.1;obtain⟨bs,rb⟩:=Fk I.hk 9 60 (W _ aI) e2 eb.2;exact#[d,e,as,bs,ra,rb,eb.1,eb.2,by rw[Jd _ e3];exact q]
instance [Y:Yx X k]:Ve X .Eq (SO ff):=#[λj q=>by obtain⟨d,e,as,bs,ra,rb,f1,f2,q⟩:=Fm j q;rw[kB] at q;exact SeqAt.compareEq_shaped ra rb (re _ _ f1).shaped (re _ _ f2).shaped (Be Y.room) H9]
instance [Y:Yx X k]:Ve X .NotEq Js:=#[λj q=>by obtain⟨d,e,as,bs,ra,rb,f1,f2,q⟩:=Fm j q;rw[vO] at q;exact SeqAt.compareNe_shaped ra rb (re _ _ f1).shaped (re _ _ f2).shaped (Be Y.room) H9]
theorem oF (q:DU B g d u)(e:dk d=se kk):(Ra P' w').is kk u=tj:=by cases q<;>first |(cases e;exact za6 _ _ _ _)|(cases e;exact G6 _ _ _ _)|cases e
theorem vz (kk:QK)(l:ks.length=ds.length)(l2:ds.length=us.length):(lk kk ks ds=ng/\valueAt '5' kk=ng)\/∃d u,lk kk ks ds=Ϡ/\valueAt '5' kk=TG/\(d,u)∈ϝ:=by refine vw (.inl #[rfl,rfl]) (λj ks d ds u us _ _ ih=>?_) l l2;rw[Je,nX];by_cases z:j=kk;subst z;exact .inr #[d,u,by simp,by simp[valueAt],aI];rw[Qb z];rcases ih with ⟨a,b⟩ | ⟨d',u',a,b,c⟩;exact .inl #[a,by simpa [valueAt,Ar,z] using b];exact .inr #[d',u',a,by simpa [valueAt,Ar,z] using b,aY _ c]
noncomputable def YQ (v u:Value):Bool:=match u,v with| .none,.none=>tj| .bool a,.bool b=>a==b| .int a _,.int b _=>a==b| .str a _,.str b _=>a==b| _,_=>ff
inductive SV:V->Value->Prop
 | non:SV .non .none
 | bl {b:Bool}:SV (.bl b) (.bool b)
 | int {i:Int} {t:Tok}:SV MA (.int i t)
 | str {x:Qi} {t:Tok}:SV ϋ (.str x t)
theorem DU.sc (q:DU B g x v)(e:RX.Zc x=ϓ):SV c v:=by cases q<;>first |(cases e;constructor)|cases e
theorem SV.eq {c y:V}(a:SV c v)(b:SV y u)(k:WN y=WN c):SeqAt.EqAt A s u v (YQ v u)/\YQ v u=vEq y c:=by(cases a<;>cases b<;>first |(simp[WN] at k)|skip);exact#[SeqAt.EqAt.same _,rfl];exact#[SeqAt.EqAt.bool_bool _ _,by simp only[YQ,vEq,bEq];grind];exact#[SeqAt.EqAt.int_int _ _ _ _,by simp only[YQ,vEq,jE];rfl];exact#[SeqAt.EqAt.str_str _ _ _ _,by simp only[YQ,vEq,l7];rfl]
theorem M4 {A:Qs}{c:V}(q:SV c v):∀{ds:List D} {vs:List V} {us:List Value} {b:Bool},QJ RX.Zc ds=se vs->vIn c vs=se b->ds.length=us.length->cF B g ϝ->(∀u∈us,SeqAt.EqAt A s u v (YQ v u))/\us.any (YQ v)=b:=by intro ds;induction ds with| nil =>(intro vs us b e1 e2 l W;cases e1;cases e2;cases us with| nil=>exact#[λ_ z=>by simp at z,rfl]| cons _ _=>cases l)| cons d ds ih =>intro vs us b e1 e2 l W;obtain⟨y,ys,h1,h2,rfl⟩:=Qx.mp e1;replace e2:(bif bJ (WN y) (WN c) then TZ (vIn c ys) λr=>vEq y c||r else ng)=se b:=e2;cases hb:bJ (WN y) (WN c) with| false=>rw[hb] at e2;cases e2| true =>rw[hb] at e2;obtain⟨r,e3,rfl⟩:=ii e2;cases us with| nil=>cases l| cons u us =>obtain⟨k1,k2⟩:=ih h2 e3 (by simpa using l) λw z=>W w (aY _ z);have one:=q.eq (A:=A) (s:=s) ((W (d,u) aI).sc h1) (lR hb);exact#[λw z=>(aT.mp z).elim (λe=>e▸one.1) (k1 w),by rw[wC,k2,one.2]]
theorem Fn (j:J X pins ρ h ((y,v)::(x,u)::ws) s)(q:(Xd neg x y h).sat P E):(∃a f kk,v=ύ/\(a==SS)=ff/\s.heap.MapOf [ZC,X.B.w] a f/\[ZC,X.B.w].is kk u=tj/\P (.bl (neg^^(f kk).isSome)) h)\/∃a us,v=ύ/\(s.heap.IsTuple a us\/s.heap.IsList a us)/\(∀w∈us,SeqAt.EqAt A s w u (YQ u w))/\P (.bl (neg^^us.any (YQ u))) h:=by unfold Xd at q;split at q;rename_i p e1;obtain⟨kk,e2,q⟩:=q.o;obtain⟨_,_,r⟩:=j.at (aY _ aI);obtain⟨kl,a,us,rfl,l,z,⟨ns,dd⟩,j⟩:=j.opD aI e1;refine .inl #[a,_,kk,rfl,ns,dd.mapOf,oF r e2,?_];rcases vz kk kl l with ⟨a,b⟩ | ⟨_,_,a,b,_⟩<;>rw[a] at q<;>rw[b]<;>exact q;obtain⟨c,e1,q⟩:=q.o;obtain⟨ds,e2,q⟩:=q.o;obtain⟨vs,e3,q⟩:=q.o;obtain⟨b,e4,q⟩:=q.o;obtain⟨a,us,rfl,l,z,f,j⟩:=j.opS aI e2;cases j with | mk g I p W =>obtain⟨k1,k2⟩:=M4 ((W _ (eI _ (aY _ aI))).sc e1) e3 e4 l λw z=>W w (c9 _ z);refine .inr #[a,us.toArray,rfl,?_,λw z=>k1 w (by simpa using z),by rw[show us.toArray.any (YQ u)=b by simpa using k2];exact q];cases ht:QY y with| true=>rw[ht] at f;exact .inl f| false=>rw[ht] at f;obtain⟨n,f⟩:=f;exact .inr #[_,f,rfl,n,rfl]
instance:Ve X .In JS:=#[λj q=>by rcases Fn j q with ⟨a,f,kk,rfl,ns,mo,ik,q⟩ | ⟨a,us,rfl,hl | hl,he,q⟩<;>rw[kB] at q;exact wpAny_in_of ik ns mo ((j.tok _).tl.tl.gbl q);exact SeqAt.in_tupleAt _ hl he H9;exact SeqAt.in_listAt _ hl he H9]
instance:Ve X .NotIn NN:=#[λj q=>by rcases Fn j q with ⟨a,f,kk,rfl,ns,mo,ik,q⟩ | ⟨a,us,rfl,hl | hl,he,q⟩<;>rw[vO] at q;exact wpAny_notIn_of ik ns mo ((j.tok _).tl.tl.gbl q);exact SeqAt.notIn_tupleAt _ hl he H9;exact SeqAt.notIn_listAt _ hl he H9]
end
section
variable {X:Cz}{ρ:Rb}{h:TH}{s:Qe}{pins:List (Qh×RB)}{ws:WL}{d x y:D}{u:Value}{ds:Φ}{us:ϖ}{P:D->TH->Prop}{k i n:Nat}{m:Bool}{a b c e o:QD}{es:Ia}{pos:Tx}{fa fb:RE}{fA:RA}
theorem Fo (e:big l=tj):l.length<=sizeLine:=by unfold big at e;rw[eE,aR] at e;rwa [Sn]
theorem zdn (hA:QA X es fA):QE X (.Tuple es t pos) (SW fA):=#[λz q=>wpAny_Tuple_spliced (Rj (hA.h z q.bnd) λus s1 #[ds,h1,l,z,q]=>by obtain⟨e,q⟩:=q.i;have zl:=l▸Fo e;exact#[zl,_,_,z.dat gf (λ_ _=>Heap.get?_push_of_some _) (Heap.get?_push_size _ rfl) (λg A r=>.tup #[_,r,λ_ e=>#[_,e,rfl,_,rfl]] l zl A) s1.toks,q])]
theorem M6 (hA:QA X es fA):QE X (.List es pos) (Rk m fA):=#[λz q=>wpAny_List_spliced (Rj (hA.h z q.bnd) λus s1 #[ds,h1,l,z,q]=>by obtain⟨e,q⟩:=q.i;have zl:=l▸Fo e;exact#[zl,z.pushL l zl q s1.toks])]
theorem J.big (z:J X pins ρ h ws s):(s.heap.objs.size==SS)=ff:=by obtain⟨_,I⟩:=z.inv;have h:='s'.lt;exact beq_eq_false_iff_ne.mpr (Ne.symm (cI (qK (by decide) h)))
theorem M7:QE X (.Dict [] [] pos) (XF m):=#[λ{_ _ _ _ s _} z q=>wpAny_Dict_empty (J.mkD (us:=[]) z rfl rfl (jb _) gf (λ_ _=>Heap.get?_push_of_some _) z.big HP q s.toks)]
theorem M8 (ha:QE X e fa):QE X e (rFz fa):=#[λz q=>Rj [wr,z] λu s1 #[_,_,z,q]=>by obtain⟨⟨i,ks,ds⟩,e,q⟩:=q.o;exact#[_,_,(z.frz aI e).sub (by simp +contextual),q]]
theorem J.item (j:J X pins ρ h (ϝ++ws) s)(l:ds.length=us.length)(e:ds[i]?=Ϡ):Ex2 (us[i]?=se ·) λu=>J X pins ρ h ((d,u)::ws) s:=by have lt:='<'.1;have e2:us[i]?=se (us[i]'(l▸lt)):=aJ _;refine#[_,e2,j.sub λw z=>?_];rcases 'x' with rfl | z;exact c9 _ (aG (i:=i) (by simp[bF,e,e2]));exact eI _ z
theorem M9 {i:Int}(j:J X pins ρ h ws s)(hm:(x,u)∈ws)(e:eS h x=Pa)(e2:Zl ds i=Ϡ):∃T id,s.TypeIs u T/\[Mg,T,"__getitem__"]=pure [G2,id]/\∀{Q:Value->Qe->Prop} {t:Tok},(∀u',J X pins ρ h ((d,u')::ws) s->Q u' s)->X.wp (getItem u (.int i t)) Q s:=by obtain⟨a,us,rfl,l,z,f,j⟩:=j.opS hm e;obtain⟨k,e3,e4⟩:=B1 e2;obtain⟨h1,h2,h3,h4⟩:=A8 e3;obtain⟨u',e5,j⟩:=j.item l e4;rw[l] at h1 h2 h3 h4;have hn:=qQ;rw[Sn] at z;cases ht:ϩ with| true =>rw[ht] at f;exact#["tuple",_,f.typeIs,slot_tuple_getitem.lookup,λq=>getItem_tuple (j:=k) f (by lia) (by lia) (by exact fR▸h1) (by simpa using e5) (q _ j)]| false =>rw[ht] at f;obtain⟨n,f⟩:=f;have il:[OW,a]:=#[_,f,rfl,n,rfl];refine#["list",_,il.typeIs,slot_list_getitem.lookup,λ{Q t} q=>?_];by_cases h0:0<=i;rw[seqIndex_of h0 h4] at h1;exact wpAny_getItem_list il h0 (by lia) (by rw[c8 h1];simpa using e5) (q _ j);rw[seqIndex_neg Τ h3] at h1;exact wpAny_getItem_list_neg il Τ (by exact h3) (by lia) (by rw[fR,c8 h1];simpa using e5) (q _ j)
theorem RP.of (j:J X pins ρ h ((d,u)::ws') s)(p:P d h)(f:∀w∈ws,w∈ws'):RP X pins ρ ws P u s:=#[d,h,j.sub (by simp +contextual [f,or_imp]),p]
theorem zbz (ha:QE X a fa)(hb:QE X b fb)(hs:zaT b:=by exact λ_ _=>rfl):QE X (.Subscript a b pos) (Q5 fa fb):=#[λ{pins ρ _ ws _ P} z q=>Subscript_ (Rj [wr,z] λu s1 #[x,_,z,q]=>Rj (hb.h z q.bnd) λv s2 #[y,h,z,q]=>by dsimp only at q;cases hd:Yg x h with| true =>(rw[hd] at q;obtain⟨⟨ks,ds⟩,e1,q⟩:=q.o;obtain⟨kk,e2,q⟩:=q.o;obtain⟨d,e3,q⟩:=q.o;obtain⟨_,_,r⟩:=z.at aI;obtain⟨kl,a,us,rfl,l,_,⟨ns,dd⟩,z⟩:=z.opD (aY _ aI) e1;rcases vz kk kl l with ⟨y1,_⟩ | ⟨d',u',y1,y2,y3⟩;rw[e3] at y1;cases y1;rw[e3] at y1;cases y1;exact Vp dd.typeIs F.slot_dict_getitem.lookup (wpAny_getItem_of (oF r e2) dd.mapOf y2 #[d,h,(z.tok _).sub (by simp +contextual [y3,or_imp]),q]) (hs _ _))| false =>rw[hd] at q;replace q:=q;unfold gIx at q;split at q;rename_i st i _ _ _;obtain⟨c,e1,q⟩:=q.o;obtain⟨e2,q⟩:=q.i;obtain⟨t,rfl⟩:=z.int;obtain⟨t',rfl⟩:=z.tl.str;obtain⟨k,e3,e4⟩:=B1 e1;obtain⟨h1,h2,h3,h4⟩:=A8 e3;rw[eE,aR] at e2;(have hl:st.cps.toList.length=st.length:=by simp[Str.length]);rw[hl] at h1 h3 h4 e2;exact Vp (typeIs_str s2 st t') slot_str_getitem.lookup (getItem_str (by have e1:decide (i< -(2^63))=ff:=Qb (by lia);have e2:decide (i≥2^63)=ff:=Qb (by lia);rw[e1,e2,vM]) (by rw[h1];simpa using e4) (z.tl.tl.gstr q)) (hs _ _);obtain⟨ds,e1,q⟩:=q.o;obtain⟨d,e2,q⟩:=q.o;obtain⟨t,rfl⟩:=z.int;obtain⟨T,id,h1,h2,h3⟩:=M9 z (aY _ aI) e1 e2;exact Vp h1 h2 (h3 λu' z=>RP.of z q (by simp +contextual)) (hs _ _);exact q.elim)]
end
section
variable {X:Cz}{B:Cb}{g:Gs}{H H':QF}{ρ:Rb}{h:TH}{s:Qe}{pins:List (Qh×RB)}{ws:WL}{d x y:D}{u v:Value}{ds:Φ}{us:ϖ}{k i n:Nat}
theorem kP (l:n+1=us.length):∃u r,us=u::r/\n=r.length:=by cases us with| nil=>cases l| cons u r=>exact#[u,r,rfl,jy l]
theorem one (l:[x].length=us.length)(j:J X pins ρ h ([x].zip us++ws) s):Ex2 (us = [·]) λu=>J X pins ρ h ((x,u)::ws) s:=by obtain⟨u,rfl⟩:∃u,us=[u]:=vY.mp l.symm;exact#[u,rfl,j]
theorem two (l:[x,y].length=us.length)(j:J X pins ρ h ([x,y].zip us++ws) s):∃u v,us=[u,v]/\J X pins ρ h ((y,v)::(x,u)::ws) s:=by obtain⟨u,r,rfl,l2⟩:=kP l;obtain⟨v,r,rfl,l3⟩:=kP l2;obtain rfl:=nj.mp l3.symm;exact#[u,v,rfl,j.sub (by simp +contextual [or_imp])]
theorem J.hd (j:J X pins ρ h ws s)(Y:Yx X k):X.A.handled=none:=by obtain⟨_,I⟩:=j.inv;exact I.ok.hd Y.calm
theorem J.walked (j:J X pins ρ h ws s)(hk:∀b ob,b∉[s.heap.objs.size]->(s.heap.push o).get? b=Lj->'&'=Lj)(t:Nat):J X pins ρ h ws { s with heap:=H',toks:=t} :=j.kept (λb ob e=>hk b ob (λz=>by have e2:=LI;rw[NB] at e2;exact nQ _ e2) (Heap.get?_push_of_some _ e)) t
theorem Fp {f:D->L3}{ns:Na}(e:QJ f ds=se ns)(l:ds.length=us.length)(W:cF B g ϝ)(h:us[i]?=TG):∃d n,ns[i]?=se n/\f d=se n/\DU B g d u:=by have hd:=aJ (l.symm▸'M'.1);obtain⟨n,hn,hf⟩:=(iR e).2 i _ hd;exact#[_,n,hn,hf,W (_,u) [Jv,#[hd,h]]]
theorem yN (e:QJ XV ds=se ns)(l:ds.length=us.length)(W:cF B g ϝ)(h:us[i]?=TG):∃t,u=.int [Zz,i] t:=by obtain⟨d,n,hn,f,q⟩:=Fp e l W h;rw[bC,hn];cases q<;>cases f;exact#[_,rfl]
theorem Fs (e:QJ dBl ds=se ns)(l:ds.length=us.length)(W:cF B g ϝ)(h:us[i]?=TG):u=.bool (ns.getD i ff):=by obtain⟨d,n,hn,f,q⟩:=Fp e l W h;rw[bC,hn];cases q<;>cases f;rfl
theorem Ft (e:'U'=Υ):∀b ∈[H.objs.size,a],b<(H.push o').objs.size:=λb hb=>by have:=LI;rw[Heap.size_push];simp only[aT,dQ,or_false] at hb;lia
variable [Y:Yx X k]
instance:BOk X "len" Rp:=#[_,Fr,PySem.boot_len,.inl #[_,rfl],λl j q=>by unfold Rp at q;have hn:=qQ;split at q;rename_i x;obtain⟨u,rfl,j⟩:=one l j;obtain⟨t,rfl⟩:=j.str;obtain⟨e,q⟩:=q.i;rw[eE,aR] at e;(have hl:x.cps.toList.length=x.length:=by simp[Str.length]);rw[aR,hl] at q;rw[hl] at e;exact len_str (by lia) (j.tl.gint q);rename_i x _;obtain⟨u,rfl,j⟩:=one l j;split at q;rename_i p e1;obtain⟨kl,a,us,rfl,l',z,⟨ns,dd⟩,j⟩:=j.opD aI e1;rw[Sn] at z;(have hz:(p.1.zip us).length=p.1.length:=by simp[kl,l']);refine call_len_dict ns dd (by lia) ?_;rw[hz];rw[aR] at q;exact(j.sub (by simp +contextual)).gint q;obtain⟨ds,e1,q⟩:=q.o;obtain⟨a,us,rfl,l',z,f,j⟩:=j.opS aI e1;rw[aR,l'] at q;rw[Sn] at z;(cases ht:ϩ with| true=>rw[ht] at f;exact len_tuple f (by exact NAG.gl38 z) (by exact(j.sub (by simp +contextual)).gint q)| false=>rw[ht] at f;obtain⟨n,f⟩:=f;exact Calls.call_len_list #[_,f,rfl,n,rfl] (by exact NAG.gl38 z) (by exact(j.sub (by simp +contextual)).gint q));exact q.elim]
instance:BOk X "abs" gAbs:=#[_,Fr,zcd,.inl #[_,rfl],λl j q=>by unfold gAbs at q;split at q;rename_i i;obtain⟨u,rfl,j⟩:=one l j;obtain⟨t,rfl⟩:=j.int;rw[gZ] at q;refine call_abs_int λu tk=>?_;rw[show(if i<0 then-i else i)=bif decide (i<0)then-i else i by by_cases z:i<0<;>simp[z]];exact j.tl.gint q;exact q.elim]
instance:BOk X "any" (XT YD):=#[_,Fr,HC,.inl #[_,rfl],λ{_ _ _ _ s _ _ _} l j q=>by unfold XT at q;split at q;obtain⟨ds,e1,q⟩:=q.o;obtain⟨bs,e2,q⟩:=q.o;obtain⟨u,rfl,j⟩:=one l j;obtain⟨a,us,rfl,l',z,⟨n,f⟩,j⟩:=j.opL aI e1;have il:[OW,a]:=#[_,f,rfl,n,rfl];refine call_any_walk (Rd il #[s.heap.objs.size,_,_,_,_,_,λi=>[NO,i],rfl,[Iz,ut (j.hd Y),a,[PF,f],_],#[#[_,Heap.get?_push_size _ rfl,rfl,rfl],Ky],λi v s' Q' E' hv hq=>?_,λh' tk hk=>?_]);(cases j with | mk g I p W =>cases Fs (i:=i) (u:=v) e2 l' (λw z=>W w (c9 _ z)) (by simpa using hv);exact Rq hq);rw[B6,<-HR] at q;have hz:=(iR e2).1;exact fR▸l'▸hz▸((j.walked hk tk).sub (by simp +contextual)).gbl q;exact q.elim]
instance:BOk X "all" (XT YU):=#[.builtin "all",Fr,by decide +kernel,.inl #[_,rfl],λ{_ _ _ _ s _ _ _} l j q=>by unfold XT at q;split at q;obtain⟨ds,e1,q⟩:=q.o;obtain⟨bs,e2,q⟩:=q.o;obtain⟨u,rfl,j⟩:=one l j;obtain⟨a,us,rfl,l',z,⟨n,f⟩,j⟩:=j.opL aI e1;have il:[OW,a]:=#[_,f,rfl,n,rfl];refine call_all_walk (Rd il #[s.heap.objs.size,_,_,_,_,_,λi=>[NO,i],rfl,[Iz,ut (j.hd Y),a,[PF,f],_],#[#[_,Heap.get?_push_size _ rfl,rfl,rfl],Ky],λi v s' Q' E' hv hq=>?_,λh' tk hk=>?_]);(cases j with | mk g I p W =>cases Fs (i:=i) (u:=v) e2 l' (λw z=>W w (c9 _ z)) (by simpa using hv);exact Rq hq);rw[Jf,<-zcp] at q;have hz:=(iR e2).1;exact fR▸l'▸hz▸((j.walked hk tk).sub (by simp +contextual)).gbl q;exact q.elim]
instance:BOk X "sum" gSum:=#[_,Fr,HB,.inl #[_,rfl],λ{_ _ _ _ s _ _ _} l j q=>by unfold gSum at q;split at q;obtain⟨ds,e1,q⟩:=q.o;obtain⟨ns,e2,q⟩:=q.o;obtain⟨u,rfl,j⟩:=one l j;obtain⟨a,us,rfl,l',z,⟨n,f⟩,j⟩:=j.opL aI e1;have il:[OW,a]:=#[_,f,rfl,n,rfl];refine call_sum_walkG (Rd il #[s.heap.objs.size,_,_,_,_,_,λi=>[Zz,i],rfl,[Iz,ut (j.hd Y),a,[PF,f],_],#[#[_,Heap.get?_push_size _ rfl,rfl,rfl],Ky],Ft f,λi v hv=>?_,λh' tk t' hk=>?_]);(cases j with | mk g I p W =>exact yN e2 l' (λw z=>W w (c9 _ z)) (by simpa using hv));rw[fR,<-l',<-(iR e2).1,HS,<-B7];exact((j.walked hk s.toks).sub (by simp +contextual)).gint q;exact q.elim]
instance:BOk X "min" gMin:=#[_,Fr,Hy,.inl #[_,rfl],λ{_ _ _ _ s _ _ _} l j q=>by unfold gMin at q;split at q;obtain⟨ds,e1,q⟩:=q.o;obtain⟨ns,e2,q⟩:=q.o;split at q;rename_i n0 ns;obtain⟨u,rfl,j⟩:=one l j;obtain⟨a,us,rfl,l',z,⟨n,f⟩,j⟩:=j.opL aI e1;have il:[OW,a]:=#[_,f,rfl,n,rfl];(have at_:∀i v,us[i]?=ZJ->∃t,v=Value.int ((n0::ns).getD i 0) t:=λi v hv=>by cases j with | mk g I p W=>exact yN e2 l' (λw z=>W w (c9 _ z)) hv);(have hz:us.length=(n0::ns).length:=by rw[<-l',<-(iR e2).1]);refine call_min_walk (Rd il #[s.heap.objs.size,_,_,_,_,_,λi j=>decide ((n0::ns).getD i 0<(n0::ns).getD j 0),rfl,[Iz,ut (j.hd Y),a,[PF,f],_],#[#[_,Heap.get?_push_size _ rfl,rfl,rfl],Ky],Ft f,by rw[fR,hz];simp,λi j vi vj s' Q' E' hi hj hq=>?_,λv h' tk hv hk=>?_]);obtain⟨t1,rfl⟩:=at_ _ _ (by simpa using hi);obtain⟨t2,rfl⟩:=at_ _ _ (by simpa using hj);exact AJ hq;rw[fR,hz] at hv;obtain⟨t,rfl⟩:=at_ _ _ ((List.getElem?_toArray ..).symm.trans hv);have hb:=argBest_lt (λi j=>decide ((n0::ns).getD i 0<(n0::ns).getD j 0)) ((n0::ns).length-1);obtain⟨h1,h2,h3⟩:=B8 ns n0;(have a1:(n0::ns).getD (argBest (λi j=>decide ((n0::ns).getD i 0<(n0::ns).getD j 0)) ((n0::ns).length-1)) 0=XR n0 ns:=by obtain⟨j,hj⟩:=bf h3;have:=Bh (n0::ns) ((n0::ns).length-1) j (by have:='-'.1;exact ud this);rw[show(n0::ns).getD j 0=XR n0 ns by rw[bC,hj];rfl] at this;(have:(n0::ns).getD (argBest (λi j=>decide ((n0::ns).getD i 0<(n0::ns).getD j 0)) ((n0::ns).length-1)) 0∈n0::ns:=by rw[bC,aJ (by simp only[fS] at hb ⊢;exact ue hb)];exact kh _);grind);exact a1▸((j.walked hk tk).sub (by simp +contextual)).gint q;exact q.elim;rename_i a b;obtain⟨u,v,rfl,j⟩:=two l j;obtain⟨t,rfl⟩:=j.int;obtain⟨t',rfl⟩:=j.tl.int;rw[gZ] at q;refine min_two_ints (j.hd Y) λh' tk k=>?_;by_cases z:b<a;rw[ZL];rw[P9 z] at q;exact(j.kept k tk).tl.tl.gint q;rw[ZK];rw[Qb z] at q;exact(j.kept k tk).tl.tl.gint q;exact q.elim]
end
structure Ca (T:Bz)(A:Qs)(outer:ME)(g:Gs)(h:TH)(s:Qe):Prop where
 frames:A.frames=se outer
 mod:Mod T.B.C.K T.mg T.base
 bs:∀b o,T.base.get? b=Υ->ϛ=ZT
 hk:Hk T.B g h s.heap
 bare:AllBare s.gens
 nl:∀a,ϒ≠lS
 fr:∀env∈outer,env.scope.kind≠.module/\∃L o,env.frame=se L/\g.G L=se Lf
inductive CE (B:Cb) (g:Gs) (s:Qe) (P:D->TH->Prop) (u:Value) (s':Qe):Prop
 | mk (d:D) (g':Gs) (h':TH) (os:s'.os=s.os) (br:KQ) (x:Gr g g') (hk:Hk B g' h' s'.heap) (q:DU B g' d u) (p:P d h')
def CR (T:Bz)(outer:ME)(g:Gs)(s:Qe)(P:D->TH->Prop)(E:Nat->TH->Prop)(r:Result)(s':Qe):Prop:=match r with| .ok (.ret u)=>CE T.B g s P u s'| .ok _=>False| .error e=>T.ER outer g s E e s'
structure XZ (T:Bz)(k:Nat)(f:Qh)(fd:Q8)(ps:Χ)(ev:Φ->TH->tv):Prop where
 len:∀{ds h P E},(ev ds h).sat P E->ds.length=ps.length
 run:∀{A outer g h s args P E} {us:List Value} {ds:List D},RC k A->Ca T A outer g h s->BindsTo s fd args ND->ds.length=us.length->cF T.B g ϝ->(ev ds h).sat P E->UA (Qt T.B.P T.B.w) A (.call tA args) (CR T outer g s P E) s
structure RDef (T:Bz)(x:Qi)(k:Nat)(ps:Χ)(ev:Φ->TH->tv):Prop where
 is:∃(f:Qh) (fd:Q8),XZ T k f fd ps ev/\Binds T.B.C.K fd ps []/\T.mg x=se (tA)/\gW T.B.C.K tA=tj
structure RMet (T:Bz)(c:Nat)(m:Qi)(k:Nat)(ps:Χ)(ev:Φ->TH->tv):Prop where
 is:∃(f:Qh) (fd:Q8),XZ T k f fd ps ev/\Binds T.B.C.K fd ps []/\Meth T.B.C.K OP m f
 cl:Cls T.B.C.K OP
structure RCls (T:Bz)(x:Qi)(c:Nat)(k:Nat)(ps:Χ)(ev:Φ->TH->tv):Prop where
 is:∃(f:Qh) (fd:Q8),XZ T k f fd ps ev/\Binds T.B.C.K fd ps []/\Mk T.B.C.K OP f
 mg:T.mg x=[ZN,OP]
structure SC (X:Cz)(x:Qi)(pos:Tx)(es:Ia):Prop where
 g:NAG X x
 d:(x==("__debug__":Qi))=ff
 n:x≠"__name__"
 pl:(backTo pos [ϴ,es]).any (·.1)=ff
theorem gi {M:Model}{A:Qs}{E:Value->Qe->Prop}{s:Qe}{f:Value}:∀{args:List (Bool×Sem Value)} {Q:Args->Qe->Prop},args.any (·.1)=ff->Qn M A (spliced args) (λvs s'=>Q #[vs,[]] s') E s->Qn M A (evalArgs f tj args []) Q E s| (ff,x)::rest,Q,_,h=>Calls.evalArgs_plain h| (tj,x)::rest,Q,e,h=>by simp at e| [],Q,_,h=>by exact Qd (Se h (λvs s' h'=>Qd (Qk (Sf (Qd (Qk (Qd (Qk (Qk h')))))))) λ_ _ x=>x)
theorem yO {K:bj}(pl:args.any (·.1)=ff)(hk:gW K f=tj)(h:Qn M A (spliced args) (λvs s₁=>K.In s₁.heap/\Qn M A (call f (first++vs)) Q E s₁) E s):Qn M A (callWith pos f first args []) Q E s :=AS (by rw[pl];rfl) (PySem.W.keeps_K hk) (gi pl h)
section
variable {X:Cz}{k:Nat}[Y:Yx X k] {k' c n i:Nat}{e o a b:QD}{es:Ia}{x f:Qi}{p pos av ay:Tx}{fa fb:RE}{fA:RA}{ev:Φ->TH->tv}{ps:Χ}{fr:Qh}{fd:Q8}{ds:Φ}{us:ϖ}{P:D->TH->Prop}{pins:List (Qh×RB)}{ρ:Rb}{h:TH}{ws:WL}{s:Qe}{g:Φ->TH->tv}
omit Y in
theorem Iv.ca {g:Gs}(I:Iv X g ρ h s):Ca X.toBz X.A X.stack [Lr,s.heap] h s :=
 #[I.ok.frames,I.ok.mod,λb o e=>by rw[iU (by rw[I.bs b o e];simp),I.bs b o e],'I',I.bare,λa z=>by
  by_cases n:ϒ=lS
  .obtain⟨o,e⟩:=[IZ,a,n];rw[kO n e] at z
   by_cases y:a=X.env.locals<;>simp[y] at z
  .rw[iU n] at z;exact n z,λenv he=>by
  obtain⟨k,L,f,r⟩:=I.ok.fr env he;refine#[k,L,?_];rcases r with rfl | ⟨o,r⟩
  .obtain⟨o,e⟩:=[IZ,_,I.lf];exact#[o,f,by rw[kO I.lf e,Cx]]
  .have r:=I.kp _ _ r rfl;exact#[o,f,by rw[iU (by rw[r];simp),r]]]
omit Y in
theorem J.kIn (j:J X pins ρ h ws s):MF:=let #[_,I]:=j.inv;I.kIn
def RR (X:Cz)(pins:List (Qh×RB))(ρ:Rb)(ws:WL)(P:D->TH->Prop)(r:Result)(s:Qe):Prop:=match r with| .ok (.ret u)=>RP X pins ρ ws P u s| .ok _=>False| .error e=>X.xe e s
include Y in
theorem Iv.ret {g:Gs}{r:Result}{s':Qe}(I:Iv X g ρ h s)(p:∀p∈pins,g.G p.1=[ϵ,p.2])(W:cF X.B g ws)(hq:CR X.toBz X.stack [Lr,s.heap] s P X.E r s'):RR X pins ρ ws P r s':=by
 cases r with
 | error e=>exact Y.xp I hq
 | ok fl =>
  cases fl with
  | ret u =>
   obtain⟨d,g',h',os,br,x,hk,dq,p'⟩:=hq;obtain⟨I',gr⟩:=I.back x hk os br;have back:Le g' 'a':=#[λa o z=>by
    rw[ky λy=>?_,z];obtain⟨o',e⟩:=[IZ,a,y];have:=x.f _ _ (kO y e) (.inl (by by_cases n:a=X.env.locals<;>simp[n,Ro.fix]))
    rw[z] at this
    by_cases n:a=X.env.locals<;>simp[n] at this,[],by simp[Gs.back]]
   exact#[d,h',#[_,I',λy z=>gr.f _ _ (p y z) gV,qa (back.du dq) Kx],p']
  | next=>exact hq
  | brk=>exact hq
  | cont=>exact hq
include Y in
theorem Fu {A':Qs}(F:XZ X.toBz k' fr fd ps ev)(hr:RC k' A')(hf:A'.frames=X.A.frames)(hb:Binds X.B.C.K fd ps [])(j:J X pins ρ h (ϝ++ws) s)(l:ds.length=us.length)(q:(ev ds h).sat P X.E):UA [ZV,X.B.w] A' (.call (.ref fr) #[us,[]]) (RR X pins ρ ws P) s:=by
 cases j with | mk g I p W =>
 have hl:(us++[]).length=ps.length:=by rw[lN,<-l];exact F.len q
 have ca:=I.ca;exact Sz (F.run hr #[hf.trans ca.frames,ca.mod,ca.bs,ca.hk,ca.bare,ca.nl,ca.fr] (by simpa using hb s us I.kIn hl) l (Le.hid.held λw z=>W w (c9 _ z)) q) λr s' hq=>I.ret p (λw z=>W w (eI _ z)) hq
include Y in
theorem Fv (F:XZ X.toBz k' fr fd ps ev)(hr:RC k' X.A)(hb:Binds X.B.C.K fd ps [])(j:J X pins ρ h (ϝ++ws) s)(l:ds.length=us.length)(q:(ev ds h).sat P X.E):X.wp (call (.ref fr) us) (RP X pins ρ ws P) s :=
 wpAny_call (Sz (Fu F hr rfl hb j l q) λr s' hq=>by
  cases r with
  | error e=>exact hq
  | ok fl=>cases fl<;>exact hq)
include Y
theorem Nb (ha:QA X es fA)(F:RDef X.toBz x k' ps ev:=by assumption)(hk:cf k' k=tj:=by rfl)(h:SC X x pos es:=by exact⟨rfl,by decide,by decide,rfl⟩):QE X [Z2,[L2,p],es,[]] (Q4 ev fA):=#[λz q=>by obtain⟨f,fd,F,hb,hm,kp⟩:=F.is;exact Qp (yK z h.g hm (yO h.pl kp (Rj [wr,z] λus s1 #[ds,h1,l,z,q]=>#[z.kIn,Fv F [HV,hk] hb z l q])) h.d)]
theorem q_b [B:BOk X x g] (ha:QA X es fA)(h:SC X x pos es:=by exact⟨rfl,by decide,by decide,rfl⟩):QE X [Z2,[L2,p],es,[]] (Q4 g fA):=#[λz q=>by obtain⟨v,h1,h2,h3,h4⟩:=B.ex;refine Qp (io z h.g h1 h2 ?_ h.n h.d);rcases h3 with ⟨i,rfl⟩ | ⟨i,rfl⟩;exact[Hd,h.pl,h.pl,Rj [wr,z] λus s1 #[ds,h1,l,z,q]=>h4 l z q];exact jd h.pl (gi h.pl (Rj [wr,z] λus s1 #[ds,h1,l,z,q]=>h4 l z q))]
omit Y
inductive OI (X:Cz) (pins:List (Qh×RB)) (ρ:Rb) (h:TH) (ws:WL) (s:Qe) (c i:Nat) (x:D) (ds:Φ) (u:Value):Prop
 | mk (a dx:Qh) (us:ϖ) (ex:x=.at i) (e:u=ύ) (eh:h[i]?=[Ϟ,c,ds]) (l:ds.length=us.length) (z:us.length<='?'.length) (f:Yc s.heap a dx OH λf=>('?'.zip us).lookup f) (j:J X pins ρ h (ϝ++ws) s)
theorem J.opI {x:D}(j:J X pins ρ h ws s)(hm:(x,u)∈ws)(e:Y8 c h x=se (i,ds)):OI X pins ρ h ws s c i x ds u:=by unfold Y8 at e;split at e;split at e;rename_i c' ds' e1;rw[aW] at e1;(cases hb:bJ c' c with| false=>rw[hb] at e;cases e| true =>rw[hb] at e;cases e;cases lR hb;cases j with | mk g I p W =>cases W _ hm with | at_ e0 =>cases[Jp,_,_,_,e1]with | mi r r' e l z A=>exact#[_,_,_,rfl,rfl,e1,l,z,e,g,I,p,jK A W]);cases e;cases e
theorem handed {g:Gs}(q:DU B g d u):AU u=tj:=by cases q<;>rfl
theorem Fw:∀{N:List Qi} {f:Qi} {n:Nat} {us:List Value},YO N f n=tj->(N.zip us).lookup f=us[n]?| g::N,f,0,us,h=>by cases us<;>simp[show g=f from beq_iff_eq.mp h]| g::N,f,n+1,[],h=>by simp| g::N,f,n+1,u::us,h=>by obtain⟨h1,h2⟩:=qq.mp h;(have:(f==g)=ff:=by simp at h1;simpa using Ne.symm h1);rw[iM,iN,this];exact Fw h2
theorem yP:∀{N:List Qi} {f:Qi} {us:List Value},N.contains f=ff->(N.zip us).lookup f=ng| [],_,_,_=>by simp| _::_,_,[],_=>by simp| g::N,f,y::xs,h=>by rw[List.contains_cons,Bool.or_eq_false_iff] at h;rw[iM,iN,h.1];exact yP h.2
include Y
theorem Nc (he:QE X a fa)(hf:YO '?' f n=tj:=by rfl)(hb:attributeBase a f X.env [Ϭ,a]=[Ϭ,a]:=by rfl):QE X (.Attribute a f pos) (QP c n fa):=#[λz q=>zcE hb (Rj (he.h z q.bnd) λu s1 #[x,h,z,q0]=>by obtain⟨⟨i,ds⟩,e1,q1⟩:=q0.o;obtain⟨d,e2,q⟩:=q1.o;rw[aW] at e2;obtain⟨a,dx,us,rfl,rfl,eh,l,zz,O,z⟩:=z.opI aI e1;obtain⟨v,e3,z⟩:=z.item l e2;obtain⟨_,_,dq⟩:=z.at aI;have F:=Y.fld c f (xC hf);exact zc2 z.kIn O (F.cl.get f) F.cl.hd F.no (by rw[Fw hf];exact e3) (handed dq) (RP.of (z.tok _) q (by simp +contextual)))]
theorem zba (he:QE X o fa)(ha:QA X es fA)(F:RMet X.toBz c x k' ps ev:=by assumption)(hk:cf k' k=tj:=by rfl)(hm:'?'.contains x=ff:=by rfl)(pl:(backTo pos [ϴ,es]).any (·.1)=ff:=by rfl)
  (ht:[Ϭ,[Z2,[Ot,x,av],es,[]]]=(do
   let ov <-RQ o X.env
   standAt av.atName
   let (f,first) <-holding [ov] (getMethod ov x (do return (<-importBound o X.env).getD tj))
   callWith pos f first (backTo pos (QM es X.env)) (backToKw pos (keywordEach [] X.env))):=by rfl):QE X [Z2,[Ot,x,av],es,[]] (Qo c ev fa fA):=#[λz q=>by
 obtain⟨f,fd,G,hb,hmt⟩:=F.is;refine PySem.W.methodCall_KW (Rj (he.h z q.bnd) λu s1 #[xv,h,z,q]=>?_) ht;obtain⟨⟨i,ds⟩,e1,q1⟩:=q.o;obtain⟨a,dx,us,rfl,rfl,eh,l,zz,O,_⟩:=z.opI aI e1;exact Ha z.kIn O (F.cl.get x) hmt.at_ hmt.fn (yP hm) (yO pl hmt.kp (Rj (ha.h z q1.bnd) λus s1 #[ds,h1,l,z,q]=>#[z.kIn,Fv G [HV,hk] hb (z.sub (by simp +contextual [or_imp])) (by simp[l]) q]))]
theorem Nf (ha:QA X es fA)(F:RCls X.toBz x c k' ps ev:=by assumption)(hk:cf (k'+1) k=tj:=by rfl)(h:SC X x pos es:=by exact⟨rfl,by decide,by decide,rfl⟩):QE X [Z2,[L2,p],es,[]] (Q4 (V5 c ev) fA):=#[λ{_ _ _ ws _ _} z q=>by obtain⟨f,fd,F1,hb,M⟩:=F.is;have hr:=[HV,hk];refine Qp (yK z h.g F.mg (yO h.pl M.kp (Rj [wr,z] λus s1 #[ds,h1,l,z,q]=>#[z.kIn,?_])) h.d);have e1:(s1.heap.push pC).get? s1.heap.objs.size=se pC:=Heap.get?_push_size s1.heap rfl;(have e2:=by have:=Heap.get?_push_size (s1.heap.push pC) (o:=um OH s1.heap.objs.size) rfl;rwa [Heap.size_push] at this);have e3:(s1.heap.push pC).Ns s1.heap.objs.size (λ_=>ng):=#[pC,([].toArray),_,e1,rfl,(λe he=>absurd he (by simp)),λ_=>rfl];have z2:=J.mut (ws':=[]) (tm:=.mi c []) z [s1.heap.objs.size+1,s1.heap.objs.size] (λb hb=>Heap.get?_none_of_le (by simp at hb;lia)) (λb o e=>Heap.get?_push_of_some _ (Heap.get?_push_of_some _ e)) (by simpa using #[#[_,e2],_,Heap.get?_push_of_some _ e1]) (λg _ r=>.mi (us:=[]) (r _ (by simp)) (r _ (by simp)) #[e2,by simpa using (Heap.Ns1.of_empty e3).at λo q=>Heap.get?_push_of_some _ q,cI (iO _)] rfl (jb _) (λ_ z=>by simp at z)) s1.toks;replace q:((ev (.at (hn h1)::ds) (hp h1 (.mi c []))).nox.bnd _).sat _ _:=q;rw[show hn h1=h1.length from aR h1,show hp h1 (.mi c [])=h1++[.mi c []]from gY _ _] at q;refine wpAny_call (zb7 (f:=f) z.kIn M.makes M.init (beq_iff_eq.mp M.fn) (Sz (Fu F1 (hr.make _ us []) (by first |rfl|simp[Around.under,Code.envs,Code.isFrame,pushEnvs]) hb (ws:=(.at h1.length,.ref (s1.heap.objs.size+1))::ws) (z2.sub (by simp +contextual [or_imp])) (by simp[l]) q.bnd.unx) λr s' hq=>?_));cases r with| error e=>exact hq| ok fl =>cases fl with| ret u =>(obtain⟨d,h',z,q⟩:=hq;cases d with| non=>exact#[z.non,_,_,z.tl,q]| _=>exact q.elim)| next=>exact hq| brk=>exact hq| cont=>exact hq]
omit Y
theorem zdK:∀{N:List Qi} {f:Qi} {n:Nat} {us:List Value} {v:Value},YO N f n=tj->n<=us.length->∀g,(N.zip (if n<us.length then us.set n v else us++[v])).lookup g=if g=f then ZJ else(N.zip us).lookup g:=by intro N;induction N with| nil=>intro f n us v h;cases h| cons g0 N ih =>intro f n us v h l g;cases n with| zero =>cases show g0=f from beq_iff_eq.mp h;by_cases e:g=g0;subst e;cases us<;>simp;have e1:=beq_eq_false_iff_ne.mpr e;cases us<;>simp[iN,e1,e]| succ n=>cases us with| nil=>simp at l| cons u us =>obtain⟨h1,h2⟩:=qq.mp h;have ih:=ih (v:=v) h2 (by simpa using l) g;(have n1:=by simpa using h1);by_cases e:g=g0;subst e;by_cases y:n<us.length<;>simp[y,n1];by_cases y:n<us.length<;>simp only[y,fS,Nat.succ_lt_succ_iff,if_true,if_false,pb,pi,iM,iN,beq_eq_false_iff_ne.mpr e] at ih ⊢<;>exact ih
theorem J.setI {a:Qh}(j:J X pins ρ h ws s)(hm:(.at i,ύ)∈ws)(eh:h[i]?=[Ϟ,c,ds])(O:Yc s.heap a dx OH mA)(sb:[K9,dx,H'])(e:Yc H' a dx OH λf=>('?'.zip us').lookup f)(l:ds'.length=us'.length)(zz:us'.length<='?'.length)(sub:∀w∈Mr,w∈ws) :J X pins ρ (hs h i (.mi c ds')) ws { s with heap:=H',toks:=t}:=by rw[show hs h i (.mi c ds')=[ϧ,.mi c ds']from eJ _ _ _];cases j with | mk g I p W =>cases W _ hm with | at_ e0 =>cases[Jp,_,_,_,eh]with | @mi _ _ us0 dx0 r r' O' _ _ _ =>(obtain rfl:dx=dx0:=by have z:=c8 (O.obj.symm.trans O'.obj);exact c8 (congrArg Obj.dict z));obtain⟨o1,_,_,h1,_⟩:=id e.ns;refine J.via I p .refl (I.hk.set (λb o z e=>(sb.2 b (by rintro rfl;exact z r')).trans e) (λb z=>?_) λa' e1=>?_) (λb o z e=>(sb.2 b (by rintro rfl;rw[r'] at z;cases z)).trans e) W t;by_cases n:b=dx;subst n;exact#[o1,h1];obtain⟨o,e⟩:=[IZ,b,z];exact#[o,(sb.2 b n).trans e];rw[e0] at e1;cases e1;exact .mi r r' e l zz λw q=>W w (sub w q)
include Y
theorem zbx (hv:QE X e fb)(ha:QE X o fa)(hf:YO '?' f n=tj:=by rfl)(hN:cf '?'.length 99=tj:=by rfl)(hs:UC e (se [Ot,f,ay]) pos.line X.env=Ij:=by rfl):QS X (.Assign [[Ot,f,ay]] e pos) (W9 c n fa fb):=#[λz q=>plainObj_wpAny_Assign_Attribute (Rj (hv.h z q.bnd) λv s1 #[y,h1,z,q]=>Rj [wr,z] λu s2 #[x,h2,z,q0]=>by obtain⟨⟨i,ds⟩,e1,q1⟩:=q0.o;obtain⟨eb,q⟩:=q1.i;rw[eE,aR] at eb;obtain⟨a,dx,us,rfl,rfl,eh,l,zz,O,z⟩:=z.opI aI e1;have F:=Y.fld c f (xC hf);have hN:=nK hN;refine zeb z.kIn O F.cl.sa F.cl.po F.no.taker F.cl.hd (ns:='?') (λy hy=>?_) (by rw[Sn];lia) λh' O' sb=>?_;refine kf.mp ?_;(cases e:'?'.contains y with| true=>rfl| false=>exact absurd (yP e) hy);have lu:=l.symm;refine#[_,_,(z.setI (ds':=if n<us.length then ds.set n y else ds++[y]) (us':=if n<us.length then us.set n v else us++[v]) (eI _ aI) eh O sb ?_ ?_ ?_ ?_).sub (by simp +contextual),?_];exact#[O'.obj,by simpa only[zdK hf (show n<=us.length by exact lu▸eb)] using O'.ns,O'.ne];split<;>simp[l];have:=(Cg hf).1;have:=(aH.mp this).1;split;simpa using zz;simp;lia;intro w hw;split at hw;obtain⟨i',iz⟩:=bf hw;rw[bF,ph,ph] at iz;by_cases e:n=i';grind;rw[P7 e,P7 e] at iz;exact c9 _ (aG (by rw[bF];exact iz));rw[lO l] at hw;simp at hw;grind;(have e5:(bif bq n NU then WJ ds n y else YH ds [y])=if n<us.length then ds.set n y else ds++[y]:=by rw[aR,eJ,gY,lu];by_cases w:n<ds.length;rw[P8 w,bR.mpr w];rfl;rw[P7 w,show bq n ds.length=ff from gj.mpr λz=>w Mo];rfl);exact e5▸q) hs]
end
noncomputable def Gs.trunc (g:Gs) (H:QF) (n:Nat):Gs:=#[λb=>match ϛ with| some (.own i)=>if i<n then TA else 'D'.map .dat| r=>r,g.ι.take n]
section
variable {B:Cb}{g:Gs}{H:QF}{h h0:TH}{n:Nat}{a b:Qh}{r:Ro}{o:RB}{i:Nat}{d e:D}{u:Value}{ds:Φ}{us:ϖ}
theorem qd (e:ϛ=τ)(z:∀i,r≠.own i):[MY,n].G b=τ:=by unfold Gs.trunc;dsimp only;split;rename_i i e1;rw[e] at e1;cases e1;exact[J4,z i];exact e
theorem oG (e:ϛ=TA)(z:i<n):[MY,n].G b=TA:=by unfold Gs.trunc;dsimp only;rw[e];exact ZL
theorem Fx (e:ϛ=TA)(z:¬i<n)(e1:'D'=Υ):[MY,n].G b=ZT:=by unfold Gs.trunc;dsimp only;rw[e];dsimp only;rw[ZK,e1];rfl
theorem rO (f:Fz g a φ):Fz [MY,n] a φ:=by obtain⟨o,e,q⟩:=f;exact#[o,qd e (by simp),q]
theorem rQ {f:D->VK}{g':Gs}(r:∀{x d u},DU B g x u->f x=Ϡ->DU B g' d u){ds es:Φ}(e:QJ f ds=se es)(l:ds.length=us.length)(A:cF B g ϝ):es.length=us.length/\cF B g' (es.zip us):=by obtain⟨l1,k⟩:=iR e;refine#[by rw[l1,l],λw z=>?_];obtain⟨i,hi⟩:=bf z;rw[bF] at hi;(have lt:i<ds.length:=by exact l1▸(aH.mp hi.1).1);obtain⟨y,h1,h2⟩:=k i ds[i] (aJ lt);rw[hi.1] at h1;cases h1;exact r (A (ds[i],w.2) (aG (i:=i) (by rw[bF];exact#[aJ lt,hi.2]))) h2
theorem Fy (q:Hk B g h H):∀(m:Nat) {d e:D} {u:Value},DU B g d u->fz h n m d=se e->DU B [MY,n] e u:=by intro m;induction m with| zero =>rintro _ _ _ _ e;cases e| succ m ih =>rintro d e u r z;have ih:=@ih;cases r with| non=>cases z;exact .non| bl=>cases z;exact .bl| int=>cases z;exact .int| str=>cases z;exact .str| fn f=>cases z;exact .fn (rO f)| lst f l zz A =>obtain⟨es,e1,rfl⟩:=ii z;obtain⟨l2,A2⟩:=rQ ih e1 l A;exact .lst (qd f (by simp)) l2 zz A2| tup f l zz A =>obtain⟨es,e1,rfl⟩:=ii z;obtain⟨l2,A2⟩:=rQ ih e1 l A;exact .tup (rO f) l2 zz A2| dic f nn k l zz A =>obtain⟨es,e1,rfl⟩:=ii z;obtain⟨l2,A2⟩:=rQ ih e1 l A;exact .dic (rO f) nn (by rw[k,l,l2]) l2 zz A2| @at_ i a e0 =>replace z:(bif bq i n then se (D.at i) else match eg h i with| some (.ml ds)=>TZ (QJ (fz h n m) ds) D.lst| _=>ng)=se e:=z;cases hb:bq i n with| true =>rw[hb] at z;cases z;exact .at_ (by show(g.ι.take n)[i]?=_;rwa [qB (bR.mp hb)])| false =>rw[hb] at z;(have ge:¬i<n:=λy=>by rw[bR.mpr y] at hb;cases hb);replace z:(match eg h i with| some (.ml ds)=>TZ (QJ (fz h n m) ds) D.lst| _=>ng)=se e:=z;split at z;rename_i ds e1;rw[aW] at e1;obtain⟨es,e2,rfl⟩:=ii z;(cases q.th _ _ _ e1 e0 with | ml r e3 l zz A =>obtain⟨l2,A2⟩:=rQ ih e2 l A;exact .lst (Fx r ge e3) l2 zz A2);cases z
theorem Hk.trunc (q:Hk B g h H)(e:QJ (fzo h n) (etk n h)=se h0):Hk B [MY,n] h0 H:=by obtain⟨l,k⟩:=iR e;rw[q8] at l k;(have l0:h0.length=min n h.length:=by rw[l,h8]);(have cs:∀{b r},[MY,n].G b=τ->(ϛ=τ/\∀i,r=.own i->i<n)\/∃o,r=.dat o/\'D'=Υ:=λ{b r} z=>by cases e1:ϛ with| none=>unfold Gs.trunc at z;dsimp only at z;rw[e1] at z;cases z| some r0 =>cases r0 with| own i =>by_cases y:i<n;rw[oG e1 y] at z;cases z;exact .inl #[rfl,λj e=>by cases e;exact y];obtain⟨o,e2⟩:=q.al b _ e1;rw[Fx e1 y e2] at z;cases z;exact .inr #[o,rfl,e2]| _=>rw[qd e1 (by simp)] at z;cases z;exact .inl #[rfl,λj e=>by cases e]);refine#[λa o z=>?_,λa o z=>?_,λa r z=>?_,by simp[Gs.trunc,l0,q.len],λi t' a e1 e2=>?_,λj z=>?_];rcases z with z | z<;>rcases cs z with ⟨y,_⟩ | ⟨o',y,e1⟩;exact q.st a o (.inl y);cases y;exact e1;exact q.st a o (.inr y);cases y;rcases cs z with ⟨y,_⟩ | ⟨o',y,e1⟩;exact q.sl a o y;cases y;rcases cs z with ⟨y,_⟩ | ⟨o',y,e1⟩;exact q.al a r y;exact#[o',e1];(have lt:i<min n h.length:=by exact l0▸'@'.1);(have lt':i<h.length:=by lia);(have lt:i<n:=by lia);obtain⟨t,e3⟩:∃t,h[i]?=se t:=#[_,aJ lt'];obtain⟨y,h1,h2⟩:=k i t (by rwa [qB lt]);rw[e1] at h1;cases h1;replace e2:(g.ι.take n)[i]?=lT:=e2;rw[qB lt] at e2;have all:=λ{ds es:List D} {us:List Value}=>@rQ B g us (fz h n 9) [MY,n] (Fy q 9) ds es;(cases q.th _ _ _ e3 e2 with| ml r e l z A=>obtain⟨es,e4,rfl⟩:=ii h2;obtain⟨l2,A2⟩:=all e4 l A;exact .ml (oG r lt) e l2 z A2| mr f l z A=>cases h2;exact .mr (qd f (by simp)) l z A| md r e nn kk l z A=>obtain⟨es,e4,rfl⟩:=ii h2;obtain⟨l2,A2⟩:=all e4 l A;exact .md (oG r lt) e nn (by rw[kk,l,l2]) l2 z A2| mi r r' e l z A=>obtain⟨es,e4,rfl⟩:=ii h2;obtain⟨l2,A2⟩:=all e4 l A;exact .mi (oG r lt) (oG r' lt) e l2 z A2| mx r e=>cases h2;exact .mx (oG r lt) e| mf r e f=>cases h2;exact .mf (oG r lt) e (rO f)| no=>cases h2;exact .no);obtain⟨⟨j',r⟩,ps,e1,q1,q2⟩:=q.tb j z;exact#[#[j',qd r (by simp)],ps,e1,q1,λpos c z=>by obtain⟨c',e,f⟩:=q2 pos c z;exact#[c',e,rO f]]
inductive Fin (P:D->TH->Prop) (h:TH) (v:D) (h':TH):Prop
 | same (p:P v h')
 | cut (n:Nat) (v':D) (h0:TH) (l:h.length<=n) (l':h.length<=h'.length->n<=h'.length) (e:QJ (fzo h' n) (etk n h')=se h0) (e2:fz h' n 9 v=se v') (p:P v' h0)
noncomputable def val:Fl->D| .nx _=>.non| .rt v=>v
theorem yQ {P:D->TH->Prop}{h h':TH}{v:D}{n:Nat}(l:h.length<=n)(l':h.length<=h'.length->n<=h'.length)(q:(RX.trunc n v h').sat P E):Fin P h v h':=by unfold RX.trunc at q;cases z:bJ (Rx h') n with| true=>rw[z] at q;exact .same q| false =>rw[z] at q;obtain⟨h0,e1,q⟩:=R.sat.o q;obtain⟨v0,e2,q⟩:=q.o;exact .cut n v0 h0 l l' e1 e2 q
def qe (E:Nat->TH->Prop)(n c:Nat)(h':TH):Prop:=E c h'\/∃h0,QJ (fzo h' n) (etk n h')=se h0/\E c h0
theorem Ni {keep:Bool}{n j:Nat}{f:RS}{ds:Φ}{h:TH}{P:D->TH->Prop}(q:(Sl keep n j f ds h).sat P E):ds.length=n/\(f (Vj ds j) h).sat (λx h'=>Fin P h (val x) h') (qe E h.length):=by obtain⟨eb,q⟩:=KM;refine#[by rw[<-aR];exact lR eb,?_];(have fin:∀{v h'},(bif keep then R.ok v h' else RX.trunc (Rx h) v h').sat P E->Fin P h v h':=λ{v h'} q=>by cases keep with| true=>exact .same q| false=>rw[show Rx h=h.length from aR h] at q;exact yQ ϭ (λz=>z) q);split at q;rename_i e;exact e▸fin q;rename_i e;exact e▸fin q;rename_i c h' e;rw[e];(cases keep with| true=>exact .inl q| false =>replace q:(YJ (Rx h) c h').sat P E:=q;unfold YJ at q;rw[aR,aR] at q;cases z:bJ h'.length h.length with| true=>rw[z] at q;exact .inl q| false=>rw[z] at q;obtain⟨h0,e1,q⟩:=R.sat.o q;exact .inr #[h0,e1,q]);exact q.elim
theorem Nj {m n j:Nat}{f:RS}{ds:Φ}{h:TH}{P:D->TH->Prop}(q:(fnK m n j f ds h).sat P E):ds.length=n/\(f (Vj ds j) h).sat (λx h'=>Fin P h (val x) h') (qe E h.length):=by obtain⟨eb,q⟩:=KM;refine#[by rw[<-aR];exact lR eb,?_];split at q;rename_i e;rw[e];obtain⟨e1,q⟩:=KM;rw[eE,aR,aR] at e1;rw[aR] at q;exact yQ (kn _ _) (λ_=>e1) q;rename_i e;rw[e];obtain⟨e1,q⟩:=KM;rw[eE,aR,aR] at e1;rw[aR] at q;exact yQ (kn _ _) (λ_=>e1) q;exact q.elim
end
noncomputable def Xh (T:Bz) (N:Χ) (qual:Qi) (scope:UU) (f:Qh) (cd:Value) (A:Qs) (outer:ME) (g:Gs) (h:TH) (s:Qe) (E:Nat->TH->Prop):Cz where
 toBz:=T
 A:=A.deeper [Nu,qual,scope,f,cd]
 N:=N
 g₀:=g
 s₀:=s
 env:=[Nu,qual,scope,f,cd]
 outer:=outer
 stack:=[Nu,qual,scope,f,cd]::outer
 fn:=λ_=>tj
 calm:=tj
 E:=qe E g.ι.length
 xe:=λe s'=>Qn (Qt T.B.P T.B.w) (A.deeper [Nu,qual,scope,f,cd]) (leaving [Nu,qual,scope,f,cd] e) (λ_ s''=>T.ER outer g s E e s'') (λe' s''=>T.ER outer g s E e' s'') s'
theorem zaF {j i:Nat}(e:(Vj ds j)[i]?=Nd):ds[i]?=Ϡ:=by rw[Ce,v7] at e;split at e;rw[bo,jc] at e;obtain⟨d',e1,e2⟩:=e;rw[e1,c8 e2];rw[lI] at e;split at e<;>cases e
section
variable {T:Bz}{N ps:Χ}{qual:Qi}{scope:UU}{f:Qh}{cd:Value}{A:Qs}{outer:ME}{g:Gs}{h:TH}{s s1:Qe}{E:Nat->TH->Prop}{ds:Φ}{us:ϖ}{j k:Nat}{P:D->TH->Prop}
theorem Iv.start (S:Ta N ps scope)(hd:A.handled=ng)(ca:Ca T A outer g h s)(l:ds.length=us.length)(lp:ds.length=ps.length)(hL:N.length=ps.length+j)(W:cF T.B g ϝ) (x:InCallC s s.heap.objs.size (bindL [Nu,qual,scope,f,cd].kindOf ND λ_=>ng) [Jz,s.heap.objs.size+1,[]] (bindC [Nu,qual,scope,f,cd].kindOf ND λ_=>ng) s1) :∃g1,Iv (Xh T N qual scope f cd A outer g h s E) g1 (Vj ds j) h s1/\Gr g g1:=by obtain⟨h1,tk,rfl,hk⟩:=x.done;have ns:=x.toInCall.ns;let own:=λa=>a=s.heap.objs.size\/∃y,[Jz,s.heap.objs.size+1,[]].lookup y=lT;have nw:∀a,own a->ϒ=none:=λa z=>ca.hk.fresh (by refine Heap.get?_none_of_le ?_;rcases z with rfl | ⟨y,z⟩;exact ϭ;exact gD (x.above y a (lW z)));(have al:∀a,own a->∃o,h1.get? a=Υ:=λa z=>by rcases z with rfl | ⟨y,z⟩;obtain⟨o,_,_,e,_⟩:=ns;exact#[o,e];obtain⟨o,e,_⟩:=x.cell y a z;exact#[o,e]);have dec:∀a,Decidable (own a):=λa=>Classical.propDecidable _;let g1:Gs:=#[λa=>if own a then lS else ϒ,g.ι];have o1:∀a,own a->g1.G a=lS:=λa z=>ZL;have old:∀a r,ϒ=τ->g1.G a=τ:=λa r z=>(P7 λy=>by rw[nw a y] at z;cases z).trans z;(have cs:∀a r,g1.G a=τ->ϒ=τ\/(own a/\r=.loc):=λa r z=>by by_cases y:own a;rw[o1 a y] at z;cases z;exact .inr #[y,rfl];exact .inl ((P7 y).symm.trans z));have gr:Gr g g1:=#[λa r z _=>old a r z,[],by simp[g1]];(have hq:=by refine ca.hk.go gr.le rfl (λb r z _=>#[old b r z,λo=>hk b o]) (λa o z=>?_) (λa o z=>?_) λa r z=>?_;rcases z with z | z<;>rcases cs _ _ z with y | ⟨_,y⟩;exact hk _ _ (ca.hk.st a o (.inl y));cases y;exact hk _ _ (ca.hk.st a o (.inr y));cases y;rcases cs _ _ z with y | ⟨_,y⟩;obtain⟨n,sl,e⟩:=ca.hk.sl a o y;exact#[n,sl,hk _ _ e];cases y;rcases cs _ _ z with y | ⟨y,_⟩;obtain⟨o,e⟩:=ca.hk.al a r y;exact#[o,hk _ _ e];exact al a y);refine#[g1,#[#[ca.mod,S.kind,rfl,rfl,λy z c h1 h2=>name_of_addr x.apart (lW h1) (lW h2),λy hy=>?_,λ_=>hd,Around.frames_deeper ca.frames,λenv he=>?_],rfl,ca.bare,hq,λb o e=>old _ _ (ca.bs b o e),λa r z _=>old a r z,#[[],by simp[g1,Xh]],o1 _ gV,#[_,ns,λi y d e1 e2 e3=>?_],λy c e=>#[#[_,x.cell y c e],.inl (o1 _ (.inr #[y,e]))],?_],gr];rcases hy with hy | hy;exact A5 hy;exact[J4,S.nofree _ (lW hy)];rcases aT.mp he with rfl | he;exact#[by show scope.kind≠_;rw[S.kind];decide,_,rfl,gV];obtain⟨k,L,o,f,r⟩:=ca.fr env he;exact#[k,L,f,.inr #[o,r]];have ed:=zaF e2;have lt:=(aH.mp ed).1;have eu:us[i]?=se (us[i]'(l▸lt)):=aJ _;(have hp:ps[i]?=Ϥ:=by rw[<-S.pre,qB (by rwa [<-lp])];exact e1);(have ndP:=by exact S.pre▸S.nd.sublist (tY _ _));refine#[_,gr.le.du (W (d,us[i]'(l▸lt)) (aG (by rw[bF];exact#[ed,eu]))),?_];rcases S.par y (aG hp)with k | k;exact .inl #[k,A1 ndP hp eu k];obtain⟨c,e⟩:=A5 k;refine .inr #[.inl k,c,e,?_];have q:=x.cell y c e;rw[A4 ndP hp eu (by show scope.names.lookup y≠_;rw[k];decide)] at q;exact q;rw[Ce];show _=N.length;simp[hL,lp]
theorem Fin.ce (ca:Ca T A outer g h s)(os:s'.os=s.os)(br:KQ)(x:Gr g g')(hk:Hk T.B g' h' s'.heap)(q:DU T.B g' v u)(p:Fin P h v h'):CE T.B g s P u s':=by cases p with| same p=>exact#[v,g',h',os,br,x,hk,q,p]| cut n v' h0 l l' e e2 p =>obtain⟨m,em⟩:=x.i;have e1:=ca.hk.len;refine#[v',g'.trunc s'.heap n,h0,os,br,#[λa r z f=>qd (x.f a r z f) (by rintro i rfl;rcases f with f | f<;>cases f),m.take (n-g.ι.length),?_],hk.trunc e,Fy hk 9 q e2,p];show g'.ι.take n=_;rw[em,Am,dL Τ]
theorem FB {dV kV bQ pm cdv ct oc:Value}(lk:T.B.C.K.lookup f=se #[oc,od,.func (gX name qual params body scope dV kV bQ pm an cdv ct),dI])(hcd:ko T.B.C.K cdv qual=tj)(S:Ta N ps scope)(hL:N.length=ps.length+j) (mI:∀{ds h P E},(ev ds h).sat P E->ds.length=ps.length/\(fs (Vj ds j) h).sat (λx h'=>Fin P h (val x) h') (qe E h.length)) (hb:∀A outer g h s E,RC k (A.deeper [Nu,qual,scope,f,cdv])->QB (Xh T N qual scope f cdv A outer g h s E) body fs):XZ T (k+1) f (gX name qual params body scope dV kV bQ pm an cdv ct) ps ev:=by refine#[λq=>(mI q).1,λ{A outer g h s args P E us ds} hr ca hbd l W q=>?_];obtain⟨lp,q⟩:=mI q;rw[<-ca.hk.len] at q;have bk:=λb o e=>ca.hk.st b o (.inl (ca.bs b o e));have KX:=ca.mod.kin.keeps bk;have mT:=ca.mod.nolimit.keeps bk;(have jV:∀y∈ND,scope.names.lookup y.1=Z6\/(scope.names.lookup y.1=Z7/\([Jz,s.heap.objs.size+1,[]].lookup y.1).isSome=tj):=λ#[n,v] hy=>by rcases S.par n (cx hy).1 with q | q;exact .inl q;exact .inr #[q,wO _ _ _ (.inl q)]);refine codeAny_call_function hr.depth (KX _ _ lk) rfl S.co S.gen rfl (PySem.W.codeRec_of KX hcd) (hbd _ _ _ _ ?_);refine UF S.kind jV λenv he s1 x=>?_;subst he;refine#[mT.keeps x.toInCall.keep,codeAny_func ?_];obtain⟨g1,I,gr⟩:=Iv.start S hr.hd ca l lp hL W x;refine Se ((hb A outer g h s E (hr.deeper _)).h (pins:=[]) (ws:=[]) #[g1,I,λ_ z=>by simp at z,λ_ z=>by simp at z] q) (λfl s' hs=>?_) λe s' hs=>hs;have gr:∀{g' ρ h'},Iv (Xh T N qual scope f cdv A outer g h s E) g' ρ h' s'->Gr g g':=λI'=>#[λa r z y=>I'.kp a r z (y.elim id λy=>absurd z (y▸ca.nl a)),I'.ip];cases fl with| ret u =>obtain⟨d,ρ,h',⟨g',I',_,W'⟩,p⟩:=hs;exact p.ce ca I'.os I'.bare (gr I') I'.hk (W' _ aI)| next =>obtain⟨ρ,h',⟨g',I',_,_⟩,p⟩:=hs;exact p.ce ca I'.os I'.bare (gr I') I'.hk .non| brk=>exact False.elim hs| cont=>exact False.elim hs
end
structure QG (X:Cz)(tg:QD)(fg:RG):Prop where
 h:∀{pins ρ ρ' h ws s d u},J X pins ρ h ((d,u)::ws) s->fg d ρ=se ρ'->X.wp (assign tg X.env u) (λ_ s'=>J X pins ρ' h ws s') s
def GO (n:Nat)(fg:RG):Prop:=∀d ρ ρ',fg d ρ=se ρ'->ρ'.length=ρ.length/\∀i,n<=i->ρ'[i]?=ρ[i]?
structure YW (X:Cz)(pins:List (Qh×RB))(a:Qh):Prop where
 f:∀r,X.g₀.G a=τ->r.fix=ff
 p:∀p∈pins,p.1≠a
 c:∀x c,Hf=ϓ->c≠a
structure Wk (B:Cb)(tg:QD)(it:Qh)(nx:Nx)(S:Nat->List (Qh×RB)->Prop)(wi:WL):Prop where
 step:∀{X:Cz} {i:Nat} {fp pins ρ h ws s o},X.B=B->X.calm=tj->S i fp->(∀p∈fp,YW X pins p.1)->J X (pins++fp) ρ h (wi++ws) s->nx h i=Υ->∀{E},Qn (Qt B.P B.w) X.A JQ (λr s1=>match o with
  | none=>r=ng/\J X pins ρ h (wi++ws) s1
  | some d=>∃u,r=se u/\Qn (Qt B.P B.w) X.A (RY tg (.ref it) u) (λ_ s2=>∃cY,S (i+1) cY/\cY.map (·.1)=fp.map (·.1)/\J X (pins++cY) ρ h ((d,u)::(wi++ws)) s2) E s1) E s
 self:∀{A:Qs} {i fp s Q E},S i fp->(∀p∈fp,s.heap.get? p.1=se p.2)->Q ZI s->Qn (Qt B.P B.w) A Mp Q E s
inductive IR (X:Cz) (pins:List (Qh×RB)) (ρ:Rb) (ws:WL) (tg:QD) (P:Nx->TH->Prop) (itv:Value) (s:Qe):Prop
 | mk (it:Qh) (nx:Nx) (h:TH) (S:Nat->List (Qh×RB)->Prop) (wi:WL) (fp:List (Qh×RB)) (e:itv=ZI) (w:Wk X.B tg it nx S wi) (s0:S 0 fp) (ow:∀p∈fp,YW X pins p.1) (j:J X (pins++fp) ρ h (wi++ws) s) (p:P nx h)
structure QI (X:Cz)(tg e:QD)(f:RI):Prop where
 h:∀{pins ρ h ws s P},J X pins ρ h ws s->(f ρ h).sat P X.E->X.wp [Ϭ,e] (λv s1=>X.wp (pyIter v) (IR X pins ρ ws tg P) s1) s
section
variable {X:Cz}{k:Nat}[Y:Yx X k] {m:Bool}{a b c e o tg iter:QD}{es:Ia}{x y:Qi}{pos p q px py pz:Tx}{fa:RE}{fT:RT}{i j n l kt:Nat}{st:RV}{body:List RV}{fs:RS}{fg:RG}{fi:RI}{pins fp cY:List (Qh×RB)}{ρ:Rb}{h:TH}{ws:WL}{s:Qe}{d:D}{u:Value}{H':QF}{it:Qh}{ob ob':RB}{t:Nat}
omit Y
theorem de (Y:Yx X k)(hi:X.N[i]?=σ:=by rfl)(hx:Loc X.env.scope x:=by first | exact Or.inl rfl | exact qN rfl)(hf:X.fn x=tj\/JY=Z6:=by first | exact .inl rfl | exact .inr rfl):QG X [L2,pos] (rN i):=#[λz e=>by cases e;exact wpAny_assign_Name (z.store Y.nd hi hx hf λ_ z=>by rw[eJ];exact z)]
theorem FC (Y:Yx X k)(ht:∀d ρ ρ',fg d ρ=se ρ'->∃ds,d=Pz/\ds.length=(T8 es X.env).length/\∀{pins h ws s} {us:List Value},ds.length=us.length->J X pins ρ h (ϝ++ws) s->X.wp (assignInOrder ((T8 es X.env).map (·.2)) us) (λ_ s'=>J X pins ρ' h ws s') s) (ly:(T8 es X.env).findIdx? (·.1)=none:=by rfl):QG X (.Tuple es kt pos) fg:=#[λ{pins ρ ρ' h ws s d u} z e=>by obtain⟨ds,rfl,hl,hg⟩:=ht _ _ _ e;obtain⟨a,us,rfl,l,zz,f,z⟩:=z.opS aI rfl;exact assign_Tuple_tuple (z.hd Y) f (by simp[<-hl,l]) ly λh' hx=>hg l ((z.kept (λb o e=>hx b o [PF,e] e) s.toks).sub (by simp +contextual [or_imp]))]
theorem rR (Y:Yx X k)(h1:QG X [L2,px] (rN i))(h2:QG X [NZ,y] (rN j)):QG X (.Tuple [[L2,px],[NZ,y]] kt pos) (VA i j):=FC Y λd ρ ρ' e=>by unfold VA at e;split at e;cases e;refine#[_,rfl,rfl,λ{pins h ws s us} l z=>?_];obtain⟨u1,r,rfl,l2⟩:=kP l;obtain⟨u2,r,rfl,l3⟩:=kP l2;exact Rh (Rj (h1.h z rfl) λ_ _ z=>Rh (Rj (h2.h z rfl) λ_ _ z=>Vc z));cases e
theorem vA (Y:Yx X k)(h1:QG X [L2,px] (rN i))(h2:QG X [NZ,y] (rN j))(h3:QG X (.Name zz pz) (rN l)):QG X (.Tuple [[L2,px],[NZ,y],.Name zz pz] kt pos) (Yl i j l):=FC Y λd ρ ρ' e=>by unfold Yl at e;split at e;cases e;refine#[_,rfl,rfl,λ{pins h ws s us} l z=>?_];obtain⟨u1,r,rfl,l2⟩:=kP l;obtain⟨u2,r,rfl,l3⟩:=kP l2;obtain⟨u3,r,rfl,l4⟩:=kP l3;exact Rh (Rj (h1.h z rfl) λ_ _ z=>Rh (Rj (h2.h z rfl) λ_ _ z=>Rh (Rj (h3.h z rfl) λ_ _ z=>Vc z)));cases e
theorem vB (h:i<n):GO n (rN i):=λd ρ ρ' e=>by cases e;rw[eJ];grind
theorem vC (h1:i<n)(h2:j<n):GO n (VA i j):=λd ρ ρ' e=>by unfold VA at e;split at e;cases e;simp only[eJ];grind;cases e
theorem FD (h1:i<n)(h2:j<n)(h3:l<n):GO n (Yl i j l):=λd ρ ρ' e=>by unfold Yl at e;split at e;cases e;simp only[eJ];grind;cases e
theorem FE (h:QE X e fa)(hg:QG X tg fg)(hs:swapsWithSole [tg] e pos.line X.env=Ij:=by rfl)(hw:swappedStores [tg] e X.env=KC:=by rfl)(h1:(T8 [tg] X.env).map (·.2)=[assign tg X.env]:=by rfl):QS X (.Assign [tg] e pos) (Qz fa fg):=#[λz q=>wpAny_Assign_stores (Rj (h.h z q.bnd) λ_ _ #[_,_,z,q]=>by obtain⟨ρ',e,q⟩:=q.o;exact h1▸Rj (hg.h z e) λ_ _ z=>#[_,_,z,q]) hs hw]
theorem J.unp (j:J X (pins++fp) ρ h ws s):J X pins ρ h ws s:=by cases j with | mk g I p W=>exact#[g,I,λy z=>p y (c9 _ z),W]
theorem J.turns0 (j:J X (pins++fp) ρ h ws s)(ow:∀p∈fp,YW X pins p.1)(k:∀b o,(∀p∈fp,b≠p.1)->ϣ=Υ->'&'=Υ)(cY:List (Qh×RB))(e:∀p∈cY,(∃o,(p.1,o)∈fp)/\H'.get? p.1=se p.2)(t:Nat):∃g',Iv X g' ρ h { s with heap:=H',toks:=t}/\(∀y∈pins++cY,g'.G y.1=[ϵ,y.2])/\cF X.B g' ws/\∀b,ϣ=ng->Hg=none:=by classical cases j with | mk g I p W =>let my:=λb=>∃o,(b,o)∈fp;have pg:∀{b},my b->∃o,ϛ=[ϵ,o]:=λ{b} #[o,z]=>#[o,p (b,o) (eI _ z)];have nk:∀{b},¬my b->∀o,ϣ=Υ->'&'=Υ:=λ{b} z o=>k b o λq hq e=>z #[q.2,by exact e▸hq];let g':Gs:=#[λb=>if my b then(if∃o,(b,o)∈cY then '&'.map .pin else ng)else ϛ,g.ι];have o1:∀{b},¬my b->Hg=ϛ:=λz=>ZK;(have o2:∀{b r},my b->Hg=τ->∃o,r=JA/\'&'=Υ:=λ{b r} z y=>by replace y:(if my b then(if∃o,(b,o)∈cY then '&'.map Ro.pin else ng)else ϛ)=τ:=y;rw[ZL] at y;split at y;(cases e1:'&' with| none=>rw[e1] at y;cases y| some o=>rw[e1] at y;cases y;exact#[o,rfl,rfl]);cases y);(have np:∀{b r},ϛ=τ->(∀o,r≠JA)->¬my b:=λ{b r} z n y=>by obtain⟨o,e⟩:=pg y;rw[z] at e;cases e;exact n o rfl);(have hk:Hk X.B g' h H':=by refine I.hk.go #[λa o z=>by rw[o1 (np z (by simp)),z],[],by simp[g']] rfl (λb r z y=>?_) (λa o z=>?_) (λa o z=>?_) λa r z=>?_;have n:=np z (by obtain⟨i,y | y⟩:=y<;>subst y<;>simp);exact#[by rw[o1 n,z],nk n];(all_goals by_cases n:my a);rcases z with z | z<;>obtain⟨o',e1,e2⟩:=o2 n z<;>cases e1;exact e2;rw[o1 n] at z;exact nk n _ (I.hk.st a o z);obtain⟨o',e1,e2⟩:=o2 n z;cases e1;rw[o1 n] at z;obtain⟨m,sl,e1⟩:=I.hk.sl a o z;exact#[m,sl,nk n _ e1];obtain⟨o',e1,e2⟩:=o2 n z;exact#[o',e2];rw[o1 n] at z;obtain⟨o,e1⟩:=I.hk.al a r z;exact#[o,nk n _ e1]);(have keep:∀{b r},ϛ=τ->¬my b->Hg=τ:=λz n=>by rw[o1 n,z]);have le:Le g g':=#[λa o z=>keep z (np z (by simp)),[],by simp[g']];(have fx:∀a r,X.g₀.G a=τ->r.fix=tj->¬my a:=λa r z f #[o,y]=>by have:=(ow _ y).f r z;rw[f] at this;cases this);have cn:∀{y c},K2=ϓ->¬my c:=λ{y c} e #[o,z]=>(ow _ z).c y c e rfl;have cl:∀{y c},K2=ϓ->∀{v},[Kg,v]->H'.IsCell c v:=λ{y c} e {v} #[o,ho,hd]=>#[o,nk (cn e) _ ho,hd];refine#[g',#[I.ok,I.os,I.bare,hk,λb o e=>le.d _ _ (I.bs b o e),λa r z f=>keep (I.kp a r z f) (fx a r z f),I.ip,keep I.lf (np I.lf (by simp)),?_,λy c e=>?_,I.len],λy z=>?_,le.held W,λb e=>?_];obtain⟨m,⟨o,es,ep,ho,r⟩,hl⟩:=I.lc;refine#[m,#[o,es,ep,nk (np I.lf (by simp)) _ ho,r],λi y d e1 e2 e3=>?_];obtain⟨u,dq,l⟩:=hl i y d e1 e2 e3;refine#[u,le.du dq,?_];rcases l with l | ⟨kk,c,e,z⟩;exact .inl l;exact .inr #[kk,c,e,cl e z];obtain⟨⟨v,z⟩,r⟩:=I.ce y c e;refine#[#[v,cl e z],?_];rcases r with r | ⟨⟨o,r⟩,f⟩;exact .inl (keep r (cn e));exact .inr #[#[o,keep r (cn e)],f];rcases dE.mp z with z | z;exact keep (p y (c9 _ z)) λ#[o,w]=>(ow _ w).p y z rfl;obtain⟨⟨o,w⟩,e1⟩:=e y z;show(if my y.1 then(if∃o,(y.1,o)∈cY then(H'.get? y.1).map Ro.pin else ng)else g.G y.1)=_;rw[P8 #[o,w],P8 #[y.2,z],e1];rfl;have n:=I.hk.fresh e;(have z:¬my b:=λy=>by obtain⟨o,e⟩:=pg y;rw[n] at e;cases e);rw[o1 z,n]
theorem J.turns (j:J X (pins++fp) ρ h ws s)(ow:∀p∈fp,YW X pins p.1)(k:∀b o,(∀p∈fp,b≠p.1)->ϣ=Υ->'&'=Υ)(cY:List (Qh×RB))(e:∀p∈cY,(∃o,(p.1,o)∈fp)/\H'.get? p.1=se p.2)(t:Nat):J X (pins++cY) ρ h ws { s with heap:=H',toks:=t} :=let #[g,I,p,W,_]:=j.turns0 ow k cY e t;#[g,I,p,W]
theorem J.turnT {ds:Φ}{us:ϖ}(j:J X (pins++fp) ρ h (ϝ++ws) s)(ow:∀p∈fp,YW X pins p.1)(k:∀b o,(∀p∈fp,b≠p.1)->ϣ=Υ->'&'=Υ)(cY:List (Qh×RB))(e:∀p∈cY,(∃o,(p.1,o)∈fp)/\H'.get? p.1=se p.2)(n:s.heap.get? T=ng)(eT:H'.get? T=se { cls:=.type "tuple",data:=KG})(l:ds.length=us.length)(zz:us.length<=sizeLine)(t:Nat):J X (pins++cY) ρ h ((Pz,.ref T)::ws) { s with heap:=H',toks:=t}:=by obtain⟨g,I,p,W,f⟩:=j.turns0 ow k cY e t;have x:=Gr.upd (r:=se (.dat { cls:=.type "tuple",data:=KG})) (f T n);exact J.via (t:=t) I p x (I.hk.role (λr z=>by rw[f T n] at z;cases z) _ (λ_ _ _ e=>e) λr z=>#[_,eT,λo' y=>by cases z;rcases y with y | y<;>cases y;rfl,λo' y=>by cases z;cases y]) (λ_ _ _ e=>e) (qa (.tup #[_,Gs.upd_same,λ_ e=>#[_,e,rfl,_,rfl]] l zz (x.le.held λw z=>W w (c9 _ z))) (x.le.held λw z=>W w (eI _ z)))
theorem J.turn (j:J X (pins++[(it,ob)]) ρ h ws s)(ow:YW X pins it)(k:∀b o,b≠it->ϣ=Υ->'&'=Υ)(e:NQ=se ob')(t:Nat):J X (pins++[(it,ob')]) ρ h ws { s with heap:=H',toks:=t} :=j.turns (by simpa using ow) (λb o z=>k b o (by simpa using z)) _ (by simpa using e) t
theorem J.drop (j:J X (pins++[(it,ob)]) ρ h ws s)(ow:YW X pins it)(k:∀b o,b≠it->ϣ=Υ->'&'=Υ)(t:Nat):J X pins ρ h ws { s with heap:=H',toks:=t}:=by simpa using j.turns (by simpa using ow) (λb o z=>k b o (by simpa using z)) [] (by simp) t
theorem J.pin (j:J X pins ρ h ws s)(k:∀b o,ϣ=Υ->'&'=Υ)(fp:List (Qh×RB))(n:∀p∈fp,s.heap.get? p.1=ng/\H'.get? p.1=se p.2)(t:Nat):J X (pins++fp) ρ h ws { s with heap:=H',toks:=t}/\∀p∈fp,YW X pins p.1:=by classical cases j with | mk g I p W =>have nw:=λy z=>I.hk.fresh (n y z).1;let my:=λb=>∃o,(b,o)∈fp;let g':Gs:=#[λb=>if my b then '&'.map .pin else ϛ,g.ι];have o1:∀{b},¬my b->Hg=ϛ:=λz=>ZK;have o2:∀{b},my b->∃o,'&'=Υ/\Hg=[ϵ,o]:=λ{b} #[o,z]=>#[o,(n _ z).2,by show(if my b then '&'.map Ro.pin else ϛ)=_;rw[P8 #[o,z],(n _ z).2];rfl];have old:∀{b r},ϛ=τ->Hg=τ:=λ{b r} z=>(o1 λ#[o,y]=>by rw[nw _ y] at z;cases z).trans z;have gr:Gr g g':=#[λa r z _=>old z,[],by simp[g']];(have hk:=by refine(I.hk.kept k).go gr.le rfl (λb r z _=>#[old z,λ_ e=>e]) (λa o z=>?_) (λa o z=>?_) λa r z=>?_;(all_goals by_cases y:my a);obtain⟨o',e1,e2⟩:=o2 y;rw[e2] at z;rcases z with z | z<;>cases z;exact e1;rw[o1 y] at z;exact k _ _ (I.hk.st a o z);obtain⟨o',e1,e2⟩:=o2 y;rw[e2] at z;cases z;rw[o1 y] at z;obtain⟨m,sl,e⟩:=I.hk.sl a o z;exact#[m,sl,k _ _ e];obtain⟨o',e1,_⟩:=o2 y;exact#[o',e1];rw[o1 y] at z;obtain⟨o,e⟩:=I.hk.al a r z;exact#[o,k _ _ e]);refine#[#[g',I.go gr hk (λb o _=>k b o) t,λy z=>?_,Kx],λy z=>#[λr e=>?_,λq hq e=>?_,λx c e e2=>?_]];rcases dE.mp z with z | z;exact old (p y z);obtain⟨o,e1,e2⟩:=o2 #[y.2,z];rw[(n y z).2] at e1;cases e1;exact e2;(cases f:r.fix with| false=>rfl| true=>have:=I.kp _ _ e f;rw[nw y z] at this;cases this);have:=p q hq;rw[e,nw y z] at this;cases this;obtain⟨⟨v,o,ho,_⟩,_⟩:=I.ce x c e;rw[e2,(n y z).1] at ho;cases ho
variable [Y:Yx X k]
include Y
theorem FF (hc:QT X c fT)(hb:QB X body fs){m:Nat}(z:J X pins ρ h ws s)(q:(Yk fT fs m ρ h).sat P X.E):X.wp (exec (.While c body [] pos) X.env) (SR X pins ws P) s:=by refine wpAny_While (codeAny_whileLoop (λn s'=>∃ ρ h,J X pins ρ h ws s'/\(Yk fT fs n ρ h).sat P X.E) ?_ m #[ρ,h,z,q]);rintro n s1 ⟨ρ1,h1,z1,q1⟩;cases n with| zero=>exact q1.elim| succ n =>refine RW Y.po (Rj (hc.h z1 q1.bnd) λb s2 #[h2,z2,q2]=>?_);cases b with| true =>(refine RW Y.po (Rj (hb.h z2 q2.bnd) λf s3 t=>?_);cases f with| next=>obtain⟨ρ3,h3,z3,q3⟩:=t;exact#[n,iO _,ρ3,h3,z3,q3]| ret v=>exact t| brk=>exact t.elim| cont=>exact t.elim)| false =>exact Uj #[_,_,z2,q2]
theorem Nl (hc:QT X c fT)(hb:QB X body fs):QS X (.While c body [] pos) (Uk w fT fs):=#[λz q=>by unfold Uk at q;split at q;exact FF hc hb z q;split at q;exact FF hc hb z q;exact q.elim]
theorem yR (hi:QI X tg iter fi)(hg:Yx X k->QG X tg fg)(hb:QB X body fs)(hs:∀x,foldedSetIterable iter X.env x=pure x:=by intro _;rfl):QS X (.For tg iter body [] pos) (Sj fi fg fs):=#[λ{pins ρ _ ws _ P} z q=>by refine wpAny_For (Rj (hi.h z q.bnd) λv s1 h1=>Rj h1 λitv s2 #[it,nx,h2,S,wi,fp,e,w,s0,ow,j,q]=>?_) hs;subst e;refine codeAny_forLoop_any (λm s'=>∃i cY ρ h,cY.map (·.1)=fp.map (·.1)/\S i cY/\J X (pins++cY) ρ h (wi++ws) s'/\(rGo nx fg fs m i ρ h).sat P X.E) ?_ 1000 #[0,fp,ρ,h2,rfl,s0,j,q];rintro m s3 ⟨i,fp3,ρ3,h3,e3,S3,j3,q3⟩;cases m with| zero=>exact q3.elim| succ m =>rw[B9] at q3;(have ow3:∀p∈fp3,YW X pins p.1:=λp hp=>by have:=e3▸aO.mpr #[p,hp,rfl];obtain⟨p',cH,e'⟩:=O0;exact e'▸ow p' cH);split at q3;rename_i e2;refine RW Y.po (Rj (w.step rfl Y.calm S3 ow3 j3 e2) λr s4 #[hr,j4]=>?_);subst hr;exact Uj #[_,_,j4.sub (by simp +contextual),q3];rename_i d e2;obtain⟨ρ1,e4,q4⟩:=q3.o;refine RW Y.po (Rj (w.step rfl Y.calm S3 ow3 j3 e2) λr s4 #[u,hr,h4]=>?_);subst hr;refine RW Y.po (Rj h4 λ_ s5 #[fp5,S5,e5,j5]=>?_);refine RW Y.po (Rj ((hg Y).h j5 e4) λ_ s6 j6=>?_);refine RW Y.po (Rj (hb.h j6 q4.bnd) λf s7 t=>?_);(cases f with| next=>obtain⟨ρ7,h7,z7,q7⟩:=t;exact#[m,iO _,i+1,fp5,ρ7,h7,e5.trans e3,S5,z7,q7]| ret v=>obtain⟨d,ρ7,h7,z7,q7⟩:=t;exact#[d,ρ7,h7,z7.unp.sub (by simp +contextual [or_imp]),q7]| brk=>exact t.elim| cont=>exact t.elim);exact q3.elim]
end
theorem FG (z:∀b∈l,∃o,'D'=Υ):(VD l H).map (·.1)=l:=by induction l with| nil=>rfl| cons b l ih =>obtain⟨o,e⟩:=z b aI;unfold VD at ih ⊢;rw[tQ,e];simp only[pB,bA];rw[ih λb hb=>z b (aY _ hb)]
abbrev At (as:Lh)(S:Nat->QF->Prop)(i:Nat)(fp:List (Qh×RB)):Prop:=fp.map (·.1)=as/\∀H:QF,(∀p∈fp,H.get? p.1=se p.2)->S i H
inductive NV (X:Cz) (pins:List (Qh×RB)) (ρ:Rb) (h:TH) (ws:WL) (s:Qe) (H':QF) (d:D) (u:Value):Prop
 | old (j:J X pins ρ h ((d,u)::ws) s)
 | tup (T:Qh) (ds:Φ) (us:ϖ) (ed:d=Pz) (eu:u=.ref T) (n:s.heap.get? T=ng) (e:H'.get? T=se { cls:=.type "tuple",data:=KG}) (l:ds.length=us.length) (z:us.length<=sizeLine) (j:J X pins ρ h (ϝ++ws) s)
section
variable {B:Cb}{tg:QD}{it:Qh}{nx:Nx}{wi:WL}{as:Lh}{SI:Nat->QF->Prop}
theorem yS (keep:∀{i H H'},SI i H->(∀b∈as,∀o,'D'=Υ->'&'=Υ)->SI i H')(ob:∀{i H},SI i H->∀b∈as,∃o,'D'=Υ)
  (next:∀{X:Cz} {i:Nat} {pins ρ h ws s o},X.B=B->X.A.handled=ng->SI i s.heap->J X pins ρ h (wi++ws) s->nx h i=Υ->∀{E},Qn (Qt B.P B.w) X.A JQ (λr s1=>match o with
   | none=>r=ng/\∃H' t,s1={ s with heap:=H',toks:=t}/\∀b o,b∉as->ϣ=Υ->'&'=Υ
   | some d=>∃u,r=TG/\Qn (Qt B.P B.w) X.A (RY tg ZI u) (λ_ s2=>∃H' t,s2={ s with heap:=H',toks:=t}/\(∀b o,b∉as->ϣ=Υ->'&'=Υ)/\SI (i+1) H'/\NV X pins ρ h (wi++ws) s H' d u) E s1) E s)
  (self:∀{A:Qs} {i s Q E},SI i s.heap->Q ZI s->Qn (Qt B.P B.w) A Mp Q E s):Wk B tg it nx (At as SI) wi where
 self:=λ#[_,st] e q=>self (st _ e) q
 step:=λ{X i fp pins ρ h ws s o} eB hc #[ea,st] ow j e {E}=>by
  have hd:X.A.handled=none:=let #[_,I]:=j.inv;I.ok.hd hc
  have at_:∀p∈fp,s.heap.get? p.1=se p.2:=λp hp=>by cases j with | mk g I pp W=>exact[HQ,_,_,pp p (eI _ hp)]
  have nf:∀{H':QF},(∀b o,b∉as->ϣ=Υ->'&'=Υ)->∀b o,(∀p∈fp,b≠p.1)->ϣ=Υ->'&'=Υ:=λk b o z=>k b o λy=>by rw[<-ea] at y;obtain⟨p,hp,e⟩:=aO.mp y;exact z p hp e.symm
  refine Rj (next eB hd (st _ at_) j e) λr s1 hq=>?_
  cases o with
  | none =>
   obtain⟨hr,H',t,rfl,k⟩:=hq;exact#[hr,by simpa using j.turns ow (nf k) [] (by simp) t]
  | some d =>
   obtain⟨u,hr,hq⟩:=hq;refine#[u,hr,Rj hq λ_ s2 #[H',t,e2,k,fD,nv]=>?_];subst e2;have mem:∀p∈VD as H',(∃o,(p.1,o)∈fp)/\H'.get? p.1=se p.2:=λp hp=>by obtain⟨hb,e⟩:=AY hp;rw[<-ea] at hb;obtain⟨p',cH,e'⟩:=aO.mp hb;exact#[#[p'.2,e'▸cH],e]
   have ma:=FG (ob fD);refine#[VD as H',#[ma,λH hH=>keep fD λb hb o e=>hH _ (AX hb e)],by rw[ma,ea],?_]
   cases nv with
   | old j'=>exact j'.turns ow (nf k) _ mem t
   | tup T ds us ed eu n eT l z j'=>subst ed eu;exact j'.turnT ow (nf k) _ mem n eT l z t
theorem rS (nt:["enumerate","zip","dict_itemiterator","dict_reverseitemiterator","odict_iterator","itertools.zip_longest","itertools.pairwise"].contains nm=ff)(ob:∀{i H},SI i H->∃o vs,H.get? it=Υ/\o.cls=.type nm/\o.data=Lx/\∀H':QF,NQ=Υ->SI i H') (next:∀{X:Cz} {i:Nat} {pins ρ h ws s o},X.B=B->X.A.handled=ng->SI i s.heap->J X pins ρ h (wi++ws) s->nx h i=Υ->∀{Q E},(∀r H' t,(∀b o,b≠it->ϣ=Υ->'&'=Υ)->(match o with| none=>r=ng| some d=>SI (i+1) H'/\∃u,r=TG/\J X pins ρ h ((d,u)::(wi++ws)) s)->Q r { s with heap:=H',toks:=t})->Qn (Qt B.P B.w) X.A JQ Q E s) (self:∀{A:Qs} {i s Q E},SI i s.heap->Q ZI s->Qn (Qt B.P B.w) A Mp Q E s):Wk B tg it nx (At [it] SI) wi :=yS (λst k=>by obtain⟨o,_,e,_,_,f⟩:=ob st;exact f _ (k it (by simp) o e)) (λst b hb=>by obtain⟨o,_,e,_⟩:=ob st;rw[cT.mp hb];exact#[o,e]) (λ{X i pins ρ h ws s o} eB hd st j e {E}=>next eB hd st j e λr H' t k q=>by cases o with| none=>exact#[q,H',t,rfl,λb o hb=>k b o (by simpa using hb)]| some d =>obtain⟨fD,u,hr,j'⟩:=q;obtain⟨o,vs,e1,c,dd,_⟩:=ob fD;exact#[u,hr,G7 e1 c dd nt #[H',t,rfl,λb o hb=>k b o (by simpa using hb),fD,.old j']]) self
variable {X:Cz}{k:Nat}[Y:Yx X k] {pins:List (Qh×RB)}{ρ:Rb}{h:TH}{ws:WL}{s:Qe}{H':QF}{P:Nx->TH->Prop}{x:D}{a:Qh}{ds:Φ}
theorem mG (w:Wk X.B tg it nx (At as S0) wi)(j:J X pins ρ h (wi++ws) s)(k:∀b o,ϣ=Υ->'&'=Υ)(st:S0 0 H')(keep:∀{H},(∀b∈as,∀o,'&'=Υ->'D'=Υ)->S0 0 H)(n:∀b∈as,ϣ=ng/\∃o,'&'=Υ)(q:P nx h)(t:Nat):IR X pins ρ ws tg P ZI { s with heap:=H',toks:=t}:=by(have mem:∀p∈VD as H',s.heap.get? p.1=ng/\H'.get? p.1=se p.2:=λp hp=>by obtain⟨hb,e⟩:=AY hp;exact#[(n _ hb).1,e]);obtain⟨j',ow⟩:=j.pin k (VD as H') mem t;refine#[it,nx,h,_,wi,VD as H',rfl,w,#[?_,λH hH=>keep λb hb o e=>hH _ (AX hb e)],ow,j',q];exact FG λb hb=>(n b hb).2
theorem zcr (e:VE x h i=Υ)(j:J X pins ρ h ([(x,ύ)]++ws) s):∃us,(bif ϩ then s.heap.IsTuple a us else s.heap.IsList a us)/\match o with| none=>us[i]?=ng| some d=>∃u,us[i]?=TG/\J X pins ρ h ((d,u)::([(x,ύ)]++ws)) s:=by obtain⟨ds,e1,rfl⟩:=ii e;obtain⟨a',us,ea,l,z,f,j⟩:=j.opS aI e1;cases ea;refine#[us.toArray,?_,?_];(cases ht:ϩ with| true=>rw[ht] at f;exact f| false=>rw[ht] at f;obtain⟨n,f⟩:=f;exact#[_,f,rfl,n,rfl]);rw[aW];cases e4:ds[i]? with| none=>simpa [<-l] using e4| some d=>obtain⟨u,e5,j⟩:=j.item l e4;exact#[u,by simpa using e5,j]
theorem Nn:Wk B tg it (VE x) (At [it] λi H=>U1 ϩ H it a i) [(x,ύ)]:=by refine rS (nm:=if ϩ then "tuple_iterator"else "list_iterator") (by cases ϩ<;>decide) (λ{i H} st=>?_) (λ{X i pins ρ h ws s o} eB hd st j e {Q E} q=>?_) λ{A i s Q E} st q=>?_;(cases ht:ϩ with| true=>rw[ht] at st;obtain⟨o,e,c,d⟩:=st;exact#[o,_,e,c,d,λH' e'=>#[o,e',c,d]]| false=>rw[ht] at st;obtain⟨o,e,c,d⟩:=st;exact#[o,_,e,c,d,λH' e'=>#[o,e',c,d]]);obtain⟨us,f,r⟩:=zcr e j;(cases ht:ϩ with| true =>(rw[ht] at st f q;cases o with| none=>exact wpAny_pyNext_tuple_end hd st f r λh' eb=>q ng h' s.toks (λb o hb e=>eb b o hb e) rfl| some d=>obtain⟨u,e5,j⟩:=r;exact wpAny_pyNext_tuple_item st f e5 λh' fD sb=>q TG h' s.toks (λb o hb e=>sb.extBut b o hb e) #[fD,u,rfl,j])| false =>rw[ht] at st f q;cases o with| none=>exact TY hd st f r λh' eb=>q ng h' s.toks (λb o hb e=>eb b o hb e) rfl| some d=>obtain⟨u,e5,j⟩:=r;exact TJ st f e5 λh' fD sb=>q TG h' s.toks (λb o hb e=>sb.extBut b o hb e) #[fD,u,rfl,j]);cases ht:ϩ with| true=>rw[ht] at st;exact wpAny_pyIter_tupleiter st q| false=>rw[ht] at st;exact wpAny_pyIter_listiter st q
theorem zaj {St:Nat->QF->Prop}(nt:["enumerate","zip","dict_itemiterator","dict_reverseitemiterator","odict_iterator","itertools.zip_longest","itertools.pairwise"].contains nm=ff)(ob:∀{i H},SI i H->∃o vs,H.get? it=Υ/\o.cls=.type nm/\o.data=Lx/\∀H':QF,NQ=Υ->SI i H') (W:∀A:Qs,A.handled=ng->Walks B.P B.w A it fw [it] n Pv St) (st:∀{X:Cz} {i pins ρ h ws s},X.B=B->J X pins ρ h (wi++ws) s->SI i s.heap->St i s.heap) (fD:∀{i H},St i H->SI i H) (hx:∀{X:Cz} {i pins ρ h ws s o},X.B=B->J X pins ρ h (wi++ws) s->nx h i=Υ->match o with| none=>i=n| some d=>i<n/\∀v,Pv i v->J X pins ρ h ((d,v)::(wi++ws)) s) (self:∀{A:Qs} {i s Q E},SI i s.heap->Q ZI s->Qn (Qt B.P B.w) A Mp Q E s):Wk B tg it nx (At [it] SI) wi :=rS nt ob (λ{X i pins ρ h ws s o} eB hd s0 j e {Q E} q=>by have r:=hx eB j e;cases o with| none=>subst r;exact(W X.A hd).done s _ _ (st eB j s0) λh' tk kk=>q ng h' tk (λb o hb=>kk b o (by simpa using hb)) rfl| some d=>exact(W X.A hd).item i s _ _ r.1 (st eB j s0) λv h' tk hv s1 kk=>q ZJ h' tk (λb o hb=>kk b o (by simpa using hb)) #[fD s1,v,rfl,r.2 v hv]) self
end
section
variable {X:Cz}{k:Nat}[Y:Yx X k] {tg e a b c:QD}{fa fb fc:RE}{fA:RA}{p pos:Tx}{oV:Ia}{kt:Nat}{tp:Tx}
omit Y in
theorem zcG {H:QF}{it a:Qh}{t:Bool}{i:Nat}(st:U1 t H it a i):∃o,H.get? it=Υ/\∀H':QF,NQ=Υ->U1 t H' it a i:=by
 unfold U1 at st ⊢
 cases t<;>obtain⟨o,e,c⟩:=st<;>exact#[o,e,λH' e'=>#[o,e',c]]
theorem FH {k:QK}(h:(Ra P w).is k u=tj):DU B g (kd k) u:=by rcases kr h with ⟨i,t,rfl,rfl⟩ | ⟨x,t,rfl,rfl⟩;exact .int;exact .str
theorem zap {it a:Qh}:Wk B tg it (nKs ks) (At [it] λi H=>H.IsKeyIter it a i ks.length ep) [(.dic ks ds,ύ),(.fn ep,ύ)] :=rS (nm:="dict_keyiterator") (by decide) (λ{i H} st=>by obtain⟨o,e,c,d⟩:=st;exact#[o,_,e,c,d,λH' e'=>#[o,e',c,d]]) (λ{X i pins ρ h ws s o} eB hd st j e {Q E} q=>by subst eB;(have da:∃us:List Value,ks.length=us.length/\s.heap.DictAt [ZC,X.B.w] a '5' ep:=by cases j with | mk g I p W =>cases W (.dic ks ds,ύ) (by simp)with | dic f n k l z A =>cases W (.fn ep,ύ) (by simp)with | fn f' =>obtain⟨o1,e1,f⟩:=f;obtain⟨o2,e2,f'⟩:=f';obtain⟨o1,es,ep',h1,h2,h3,r⟩:=f _ [OT,_,_,e1];obtain⟨o2,es',h4,h5⟩:=f' _ [OT,_,_,e2];rw[h1] at h4;cases h4;rw[h3] at h5;cases h5;exact#[_,by rw[k,l],o1,es,h1,h2,h3,r]);obtain⟨us,l,da⟩:=da;(have zl:'5'.length=ks.length:=by simp[l]);rw[<-zl] at st;cases e;cases e4:eg ks i with| none =>rw[e4] at q;rw[aW] at e4;exact wpAny_pyNext_dict_end hd st da Τ λh' eb=>q ng h' s.toks (λb o hb e=>eb b o hb e) rfl| some k0 =>rw[e4] at q;rw[aW] at e4;obtain⟨v,hv⟩:∃v,us[i]?=ZJ:=#[us[i]'(by exact l▸(aH.mp e4).1),by simp];exact wpAny_pyNext_dict_item st da (bF.mpr #[e4,hv]) λbn h' hk fD sb=>q (se bn) h' s.toks (λb o hb e=>sb.extBut b o hb e) #[by exact zl▸fD,bn,rfl,j.add λg=>FH hk]) λst q=>wpAny_pyIter_keyiter st q
theorem FI (nt:["enumerate","zip","dict_itemiterator","dict_reverseitemiterator","odict_iterator","itertools.zip_longest","itertools.pairwise"].contains T=ff) (W:∀A:Qs,A.handled=ng->Walks B.P B.w A it [it] [it] x.cps.size (SignAt x) λi h=>h.IsStrIter it T x t i) (sf:∀{A:Qs} {i s Q E},s.heap.IsStrIter it T x t i->Q ZI s->Qn (Qt B.P B.w) A Mp Q E s) :Wk B tg it (nStr x) (At [it] λi H=>H.IsStrIter it T x t i) [] :=zaj nt (λst=>by obtain⟨o,e,c,d⟩:=st;exact#[o,_,e,c,d,λH' e'=>#[o,e',c,d]]) W (λ_ _ st=>st) (λst=>st) (λ{X i pins ρ h ws s o} eB j e=>by unfold nStr at e;cases hb:cf i MG with| false=>rw[hb] at e;cases e| true =>rw[hb] at e;have e1:=c8 e;have le:=nK hb;rw[aR] at le;cases e4:eg x.cps.toList i with| none =>rw[e4] at e1;rw[aW] at e4;subst e1;simp at e4;exact Nat.le_antisymm le e4| some c =>rw[e4] at e1;rw[aW] at e4;subst e1;simp at e4;refine#[by grind,λv hv=>?_];obtain⟨c',u,h1,rfl⟩:=hv;rw[e4] at h1;cases h1;exact j.add λ_=>.str) sf
theorem Nr (h:QE X e fa):QI X tg e (SB fa):=#[λ{pins ρ _ ws _ P} z q=>Rj (h.h z q.bnd) λu s1 #[x,h,z,q]=>by split at q;rename_i ks ds;(have op:∃a ep dJ,u=ύ/\(a==SS)=ff/\dJ.length=ks.length/\s1.heap.DictAt [ZC,X.B.w] a dJ ep/\J X pins ρ h ([(.dic ks ds,ύ),(.fn ep,ύ)]++ws) s1:=by cases z with | mk g I p W =>cases W _ aI with | dic f n kl l zz A =>obtain⟨o,e1,f⟩:=f;have hq:=[OT,_,_,e1];obtain⟨o',es,ep,e2,r⟩:=f _ hq;rw[hq] at e2;cases e2;refine#[_,ep,_,rfl,n,by simp[kl,l],#[o,es,hq,r],g,I,p,λw z=>?_];simp only[pi,As,aT] at z;rcases z with rfl | rfl | z;exact W _ aI;exact .fn #[o,e1,λH e=>#[o,es,e,r.2.1]];exact W _ (aY _ z));obtain⟨a,ep,dJ,rfl,n,l,da,z⟩:=op;refine wpAny_pyIter_dict n da ?_;exact mG zap z (λ_ _=>Heap.get?_push_of_some _) #[_,Heap.get?_push_size _ rfl,rfl,by rw[l];rfl] (λkk=>#[_,kk _ (by simp) _ (Heap.get?_push_size _ rfl),rfl,by rw[l];rfl]) (by simpa using #[gf,_,Heap.get?_push_size _ rfl]) q s1.toks;rename_i x;obtain⟨t,rfl⟩:=z.str;have z:=z.tl;cases ha:x.cps.all (·<128);exact wpAny_pyIter_wide ha (mG (FI (by decide) (λA hA=>Walks.strWide hA _ x t) λst q=>wpAny_pyIter_striter_wide st q) z (λ_ _=>Heap.get?_push_of_some _) #[_,Heap.get?_push_size _ rfl,rfl,rfl] (λkk=>#[_,kk _ (by simp) _ (Heap.get?_push_size _ rfl),rfl,rfl]) (by simpa using #[gf,_,Heap.get?_push_size _ rfl]) q s1.toks);exact wpAny_pyIter_ascii ha (mG (FI (by decide) (λA hA=>Walks.strAscii hA _ x t) λst q=>wpAny_pyIter_striter_ascii st q) z (λ_ _=>Heap.get?_push_of_some _) #[_,Heap.get?_push_size _ rfl,rfl,rfl] (λkk=>#[_,kk _ (by simp) _ (Heap.get?_push_size _ rfl),rfl,rfl]) (by simpa using #[gf,_,Heap.get?_push_size _ rfl]) q s1.toks);obtain⟨ds,e1,q⟩:=q.o;obtain⟨a,us,rfl,l,zz,f,_⟩:=z.opS aI e1;(have new:∀t,t=ϩ->IR X pins ρ ws tg P (.ref s1.heap.objs.size) { s1 with heap:=s1.heap.push (RN t a),toks:=s1.toks}:=λt et=>by(have st:U1 ϩ (s1.heap.push (RN t a)) s1.heap.objs.size a 0:=by exact et▸pG (Heap.get?_push_size _ rfl));obtain⟨o,e2,f⟩:=zcG st;exact mG Nn z (λ_ _=>Heap.get?_push_of_some _) st (λkk=>f _ (kk _ (by simp) _ e2)) (by simpa using #[gf,_,e2]) q s1.toks);cases ht:ϩ with| true=>rw[ht] at f;exact wpAny_pyIter_tuple f (new tj ht.symm)| false=>rw[ht] at f;obtain⟨n,f⟩:=f;exact Rd #[_,f,rfl,n,rfl] (new ff ht.symm)]
theorem Nt {lo c:Int}(hn:∀h i,nx h i=se (bif bq i n then[ω,lo+ .ofNat i*c]else ng)):Wk B tg it nx (At [it] λi H=>IsRangeIter H it (lo+i*c) (n-i) c) [] :=rS (by decide) (λst=>#[_,_,st,rfl,rfl,λH' e'=>e']) (λ{X i pins ρ h ws s o} eB hd st j e {Q E} q=>by rw[hn] at e;cases e;cases hb:bq i n with| false =>rw[hb] at q;exact wpAny_pyNext_range_end hd st (by rw[<-zI,bR] at hb;lia) λh' eb=>q ng h' s.toks (λb o hb e=>eb b o hb e) rfl| true =>rw[hb] at q;(have e1:lo+((i+1:Nat))*c=lo+i*c+c:=by push_cast;rw[o6,vS,Int.add_assoc]);(have e2:(n:Int)-((i+1:Nat))=n-i-1:=by lia);refine wpAny_pyNext_range_item st Τ λh' fD sb=>q _ h' _ (λb o hb e=>sb.extBut b o hb e) #[by rw[e1,e2];exact fD,_,rfl,j.add λ_=>.int]) λst q=>wpAny_pyIter_rangeiter st q
include Y in
theorem zbK (ha:QA X [a] fA)(h:SC X "range" pos [a]:=by exact⟨rfl,by decide,by decide,rfl⟩):QI X tg [Z2,.Name "range" p,[a],[]] (rIr fA):=#[λ{pins ρ _ ws _ P} z q=>Qp (io z h.g Fr boot_range (jd h.pl (gi h.pl (Rj (ha.h (pos:=pos) z q.bnd) λus s1 #[ds,h1,l,z,q]=>by
 split at q
 .rename_i n;obtain⟨hb,q⟩:=q.i;obtain⟨u,rfl,z⟩:=one l z;obtain⟨t,rfl⟩:=z.int;have hb:n<2^62:=by simpa [bR] using hb
  refine call_range_1 (wpAny_pyIter_range (IsRange.new ..) (small_one (by lia) (by lia) (by simp) (by simp;lia)) ?_)
  have z1:J X pins ρ h1 ([]++ws) { s1 with heap:=s1.heap.push { cls:=.type "range",data:=.fields ([.int 0 s1.toks,.int (lH n) t,.int 1 (s1.toks+1)].toArray)},toks:=s1.toks+1+1}:=z.tl.kept (λ_ _=>Heap.get?_push_of_some _) _
  have e2:Builtin.Range.rangeSize 0 (lH n) 1=(n:Int)-((0:Nat):Int):=by rw[rangeSize_one];split<;>simp_all
  refine mG (as:=[_]) (S0:=λi H=>IsRangeIter H _ (0+(i:Nat)*1) ((n:Int)-(i:Nat)) 1) (Nt (n:=n) (λh i=>by unfold nRg;simp)) z1 (λ_ _=>Heap.get?_push_of_some _) ?_ ?_ (λb hb=>by rw[cT.mp hb];exact#[gf,_,Heap.get?_push_size _ rfl]) q _
  .rw[e2];exact Heap.get?_push_size _ rfl
  .intro H kk;rw[e2] at kk;exact kk _ (by simp) _ (Heap.get?_push_size _ rfl)
 .cases q))) h.n h.d)]
theorem zcm {e it a:Qh}(ne:e≠it)(nt:ϩ=ff):Wk B (.Tuple oV kt tp) e (nEn x) (At [e,it] λi H=>(∃old,IsEnum H e it i old)/\H.IsListIter it a i) [(x,ύ)] :=yS (λst k=>by obtain⟨⟨old,he⟩,c4⟩:=st;exact#[#[old,k e (by simp) _ he],c4.at λo x=>k it (by simp) o x]) (λst b hb=>by obtain⟨⟨old,he⟩,o,e1,_⟩:=st;simp only[aT,dQ,or_false] at hb;rcases hb with rfl | rfl;exact#[_,he];exact#[o,e1]) (λ{X i pins ρ h ws s o} eB hd st j q {E}=>by obtain⟨⟨old,he⟩,c4⟩:=st;obtain⟨ds,e1,rfl⟩:=ii q;obtain⟨a',us,ea,l,z,f,j⟩:=j.opS aI e1;cases ea;rw[nt] at f;obtain⟨n,f⟩:=f;have f:[OW,a]:=#[_,f,rfl,n,rfl];rw[aW];cases e4:ds[i]? with| none=>exact wpAny_pyNext_enum_end hd he c4 f (by simpa [<-l] using e4) λh1 hb=>#[rfl,h1,s.toks,rfl,λb o hb' eo=>hb b o (λz=>hb' (by simp[z])) eo]| some d =>obtain⟨u,e5,j⟩:=j.item l e4;refine wpAny_pyNext_enum_item he c4 f (by simpa using e5) ne λh1 ho hit1 hT i0 hk=>#[_,rfl,?_];refine wpAny_letOwnedTupleGo_enum ho λh2 tw mM=>?_;have hTe:=eV (Heap.lt_size he);exact#[h2,s.toks+1,rfl,λb o hb eo=>mM.extBut b o (λz=>hb (by simp[z])) (hk b o (λz=>hb (by simp[z])) (λz=>hb (by simp[z])) eo),#[#[_,by exact tw],hit1.at λo x=>(mM.2 it ne.symm).trans x],.tup _ [[PE,i],d] [.int i s.toks,u] rfl rfl gf (mM.extBut _ _ hTe hT) rfl (show 2<=sizeLine by decide) ((j.add (u:=.int i s.toks) λ_=>.int).sub (by simp +contextual [or_imp]))]) λst q=>wpAny_pyIter_enum st.1.choose_spec q
include Y in
theorem zat (ha:QE X a fa)(h:SC X "enumerate" pos [a]:=by exact⟨rfl,by decide,by decide,rfl⟩)(hs:[ϴ,[a]]=[(ff,[Ϭ,a])]:=by rfl):QI X (.Tuple oV kt tp) [Z2,.Name "enumerate" p,[a],[]] (Y3 fa):=#[λ{pins ρ _ ws _ P} z q=>Qp (io z h.g Fr HE (jd h.pl (gi h.pl (by
 rw[hs];refine[HH,[wr,z],λu s1 #[x,h1,z,q]=>Calls.spliced_nil ?_];obtain⟨ds,e1,q⟩:=q.o;obtain⟨nt,q⟩:=q.i;have nt:ϩ=ff:=by simpa using nt
 obtain⟨a,us,rfl,l,zz,f,_⟩:=z.opS aI e1;rw[nt] at f;obtain⟨n,f⟩:=f;refine call_enumerate_list #[_,f,rfl,n,rfl] λh1 he c4 i0 hk=>wpAny_pyIter_enum he ?_;obtain⟨o,e2,c,d⟩:=id c4;refine mG (as:=[s1.heap.objs.size+1,s1.heap.objs.size]) (zcm (a:=a) (Nat.succ_ne_self _) nt) z hk #[#[_,he],c4] (λkk=>#[#[_,kk _ (by simp) _ he],o,kk _ (by simp) _ e2,c,d]) (λb hb=>?_) q s1.toks
 simp only[aT,dQ,or_false] at hb;rcases hb with rfl | rfl
 .exact#[Heap.get?_none_of_le (lV _),_,he]
 .exact#[gf,_,e2]))) h.n h.d)]
theorem Ny (j:J X pins ρ h w s):∀ds (aF:List (Bool×Qh)) o,ds.length=aF.length->(∀(n:Nat) d p,ds[n]?=Ϡ->aF[n]?=ο->(d,Value.ref p.2)∈w/\QY d=p.1)->eZ h i ds=Υ->∃xss:Nat->Array Value,(∀n p,aF[n]?=ο->[Ϲ,p.1,p.2,xss n])/\match o with| none=>∃n:Nat,n<aF.length/\(xss n)[i]?=ng| some ys=>ys.length=aF.length/\∃us:List Value,us.length=aF.length/\(∀n:Nat,n<aF.length->(xss n)[i]?=us[n]?)/\J X pins ρ h (ys.zip us++w) s:=by intro ds aF o l;revert o;refine yM (λo _ e=>?_) (λd ds p aF l ih o m e=>?_) l;cases e;exact#[λ_=>([].toArray),λn p z=>by simp at z,rfl,[],rfl,λn z=>by simp at z,j];obtain⟨m0,t0⟩:=m 0 d p rfl rfl;have ih:=λo=>ih o λn d p h1 h2=>m (n+1) d p (by exact h1) (by exact h2);replace e:(match eS h d with| none=>ng| some xs=>match eZ h i ds with| none=>ng| some ng=>Oa| some (se ys)=>match eg xs i with| some x=>se (se (x::ys))| none=>Oa)=Υ:=e;(have op:∀{w'} {xs:List D},(∀y∈w,y∈w')->eS h d=se xs->J X pins ρ h w' s->∃us:List Value,xs.length=us.length/\[Ϲ,p.1,p.2,us.toArray]/\J X pins ρ h (xs.zip us++w') s:=λ{w' xs} mm e1 jj=>by obtain⟨a',us,ea,l,z,f,j⟩:=jj.opS (mm _ m0) e1;cases ea;refine#[us,l,?_,j];rw[t0] at f;cases ht:p.1 with| true=>rw[ht] at f;exact f| false=>rw[ht] at f;obtain⟨n,f⟩:=f;exact#[_,f,rfl,n,rfl]);split at e;cases e;rename_i xs e1;split at e;cases e;rename_i e2;cases e;obtain⟨xss,h1,n,h2,h3⟩:=ih _ e2;obtain⟨us,_,h4,_⟩:=op (λ_ z=>z) e1 j;exact#[λn=>n.casesOn us.toArray xss,λn q hq=>by cases n with| zero=>cases hq;exact h4| succ n=>exact h1 n q (by exact hq),n+1,by simpa using h2,h3];rename_i ys e2;obtain⟨xss,h1,l2,us2,l3,h3,j3⟩:=ih _ e2;obtain⟨us,l4,h4,j4⟩:=op (λ_ z=>eI _ z) e1 j3;rw[aW] at e;(have hs:∀n q,(p::aF)[n]?=Ϝ->[Ϲ,q.1,q.2,Nat.casesOn n us.toArray xss]:=λn q hq=>by cases n with| zero=>cases hq;exact h4| succ n=>exact h1 n q (by exact hq));refine#[λn=>n.casesOn us.toArray xss,hs,?_];split at e;rename_i x e5;cases e;obtain⟨u,e6,j5⟩:=j4.item l4 e5;refine#[by simpa using l2,u::us2,by simpa using l3,λn hn=>?_,j5.sub (by simp +contextual [or_imp])];(cases n with| zero=>show us.toArray[i]?=TG;simpa using e6| succ n=>exact h3 n (by simpa using hn));rename_i e5;cases e;exact#[0,by simp,show us.toArray[i]?=ng by simpa [<-l4] using e5]
theorem zas {b:Nat}{aF:List (Bool×Qh)}(c7:aF.length≠0)(hm:aF.length<=100)(aB:∀p∈aF,p.2<b)(l:ds.length=aF.length)(m:∀(n:Nat) d p,ds[n]?=Ϡ->aF[n]?=ο->(d,Value.ref p.2)∈wi/\QY d=p.1) :Wk B tg (b+aF.length+2) (nZp ds) (At (jw b (aF.length+3)) (Yu b aF)) wi :=yS (λst kk=>st.keep λc h1 h2 o g=>kk c (VL.mpr #[h1,h2]) o g) (λst c hc=>by obtain⟨o,e,_⟩:=st.obj c 'B'.1 'B'.2;exact#[o,e]) (λ{X i pins ρ h ws s o} eB hd st j q {E}=>by subst eB;obtain⟨o',e1,rfl⟩:=ii q;obtain⟨xss,hs,r⟩:=Ny j ds aF o' l (λn d p h1 h2=>by obtain⟨a,b⟩:=m n d p h1 h2;exact#[c9 _ a,b]) e1;(have kp:∀c,c∉jw b (aF.length+3)->Kp b aF.length c:=λc hc=>by have oS:¬(b<=c/\c<b+aF.length+3):=λz=>hc (VL.mpr z);unfold Kp;lia);refine Bv hd c7 hm aB st hs (λh' au vl vx z1 t1 sz kk=>?_) λhex h' kk=>?_;(cases o' with| none =>exfalso;obtain⟨n,hn,e⟩:=r;rw[vx n hn,vV] at e;exact NAG.gl76 hn vl e| some ys =>obtain⟨yl,us,ul,ux,j'⟩:=r;(have ev:au=us:=i8 λn=>by by_cases hn:n<aF.length;rw[<-vx n hn,ux n hn];rw[eG Τ,eG Τ]);subst ev;refine#[_,rfl,?_];obtain⟨_,_,hf1,oM⟩:=z1.zip;refine letGo hf1 oM λh2 f hf2 hz2 mM=>?_;(have eX:b+aF.length+2<s.heap.objs.size:=by obtain⟨_,_,_,hz⟩:=st.zip;exact Heap.lt_size hz);have up:∀c o,c≠b+aF.length+2->ZP=Υ->h2.get? c=Υ:=λc o hc g=>mM.extBut _ _ hc g;refine#[h2,s.toks,rfl,λc o hc g=>up c o (λz=>hc (VL.mpr (by lia))) (kk c o (kp c hc) g),?_,.tup _ ys au rfl rfl gf (up _ _ (eV eX) t1) (by rw[yl,vl]) (b9 (by exact vl▸hm) (show 100<=sizeLine by decide)) j'];obtain⟨old,ol,ho⟩:=z1.own;refine#[#[_,_,hf2,hz2],up _ _ Τ z1.cD,#[old,ol,up _ _ Τ ho],λj p hp=>(z1.it j p hp).at λo g=>up _ _ ?_ g];have:='c'.1;lia);cases o' with| none=>exact#[rfl,h',s.toks,rfl,λc o hc g=>kk c o (kp c hc) g]| some ys =>exfalso;obtain⟨yl,us,ul,ux,j'⟩:=r;obtain⟨n,hn,e⟩:=hex;rw[ux n hn,vV] at e;exact NAG.gl76 hn ul e) λst q=>uv st q
theorem FJ (c7:aF.length≠0)(hm:aF.length<=100)(aB:∀p∈aF,p.2<s.heap.objs.size)(l:ds.length=aF.length)(m:∀(n:Nat) d p,ds[n]?=Ϡ->aF[n]?=ο->(d,Value.ref p.2)∈wi/\QY d=p.1) (z:J X pins ρ h (wi++ws) s) (st:Yu s.heap.objs.size aF 0 H') (k:∀c o,ZZ=Υ->H'.get? c=Υ) (q:P (nZp ds) h):IR X pins ρ ws tg P (.ref (s.heap.objs.size+aF.length+2)) { s with heap:=H'} :=mG (zas c7 hm aB l m) z k st (λkk=>st.keep λc h1 h2 o g=>kk c (VL.mpr #[h1,h2]) o g) (λc hc=>#[Heap.get?_none_of_le 'B'.1,by obtain⟨o,e,_⟩:=st.obj c 'B'.1 'B'.2;exact#[o,e]]) q s.toks
theorem J.seqAt (j:J X pins ρ h w s)(m:(x,u)∈w)(e:eS h x=Pa):∃a xs,u=ύ/\[Ϲ,ϩ,a,xs]/\a<s.heap.objs.size:=by obtain⟨a,us,ea,l,z,f,j⟩:=j.opS m e;refine#[a,us.toArray,ea,?_];(have k:[Ϲ,ϩ,a,us.toArray]:=by cases ht:ϩ with| true=>rw[ht] at f;exact f| false=>rw[ht] at f;obtain⟨n,f⟩:=f;exact#[_,f,rfl,n,rfl]);exact#[k,w8 k]
include Y in
theorem zaA (h1:QE X a fa)(h2:QE X b fb)(h:SC X "zip" pos [a,b]:=by exact⟨rfl,by decide,by decide,rfl⟩)(hs:[ϴ,[a,b]]=[(ff,[Ϭ,a]),(ff,[Ϭ,b])]:=by rfl):QI X tg [Z2,.Name "zip" p,[a,b],[]] (Zg fa fb):=#[λ{pins ρ _ ws _ P} z q=>Qp (io z h.g Fr wU (jd h.pl (gi h.pl (by
 rw[hs];refine[HH,h1.h z q.bnd,λu s1 #[x,_,z,q]=>[HH,h2.h z q.bnd,λv s1 #[y,_,z,q]=>Calls.spliced_nil ?_]];obtain⟨_,e1,q⟩:=q.o;obtain⟨_,e2,q⟩:=q.o;obtain⟨c1,xs,rfl,k1,l1⟩:=z.seqAt (aY _ aI) e1;obtain⟨c2,ys,rfl,k2,l2⟩:=z.seqAt aI e2;refine By (p:=(ϩ,c1)) (q:=(QY y,c2)) k1 k2 λh' z1 kk=>uv (aF:=[(ϩ,c1),(QY y,c2)]) z1 ?_;refine FJ (aF:=[(ϩ,c1),(QY y,c2)]) (wi:=[(y,GZ),(x,.ref c1)]) (by simp) (by simp) (by simpa using #[l1,l2]) rfl (λn d p h1 h2=>?_) z z1 kk q
 match n,h1,h2 with
 | 0,h1,h2=>cases h1;cases h2;simp
 | 1,h1,h2=>cases h1;cases h2;simp
 | n+2,h1,h2=>cases h1))) h.n h.d)]
include Y in
theorem zbA (h1:QE X a fa)(h2:QE X b fb)(h3:QE X c fc)(h:SC X "zip" pos [a,b,c]:=by exact⟨rfl,by decide,by decide,rfl⟩)(hs:[ϴ,[a,b,c]]=[(ff,[Ϭ,a]),(ff,[Ϭ,b]),(ff,[Ϭ,c])]:=by rfl):QI X tg [Z2,.Name "zip" p,[a,b,c],[]] (rIz3 fa fb fc):=#[λ{pins ρ _ ws _ P} z q=>Qp (io z h.g Fr wU (jd h.pl (gi h.pl (by
 rw[hs];refine[HH,h1.h z q.bnd,λu s1 #[x,_,z,q]=>[HH,h2.h z q.bnd,λv s1 #[y,_,z,q]=>[HH,h3.h z q.bnd,λv s1 #[y',_,z,q]=>Calls.spliced_nil ?_]]];obtain⟨_,e1,q⟩:=q.o;obtain⟨_,e2,q⟩:=q.o;obtain⟨_,e3,q⟩:=q.o;obtain⟨c1,xs,rfl,k1,l1⟩:=z.seqAt (aY _ (aY _ aI)) e1;obtain⟨c2,ys,rfl,k2,l2⟩:=z.seqAt (aY _ aI) e2;obtain⟨c3,zs,rfl,k3,l3⟩:=z.seqAt aI e3;refine Iy (p:=(ϩ,c1)) (q:=(QY y,c2)) (r:=(QY y',c3)) k1 k2 k3 λh' z1 kk=>uv (aF:=[(ϩ,c1),(QY y,c2),(QY y',c3)]) z1 ?_;refine FJ (aF:=[(ϩ,c1),(QY y,c2),(QY y',c3)]) (wi:=[(y',.ref c3),(y,GZ),(x,.ref c1)]) (by simp) (by simp) (by simpa using #[l1,l2,l3]) rfl (λn d p h1 h2=>?_) z z1 kk q
 match n,h1,h2 with
 | 0,h1,h2=>cases h1;cases h2;simp
 | 1,h1,h2=>cases h1;cases h2;simp
 | 2,h1,h2=>cases h1;cases h2;simp
 | n+3,h1,h2=>cases h1))) h.n h.d)]
end
structure CF where
 cl:List (Qi×Qh)
 C:Qh
 s:Qe
 g:Gs
noncomputable def VW (X:Cz) (scope:UU) (N:Χ) (c:CF):Cz where
 toBz:=X.toBz
 A:=X.A
 N:=N
 g₀:=c.g
 s₀:=c.s
 env:=UT scope c.cl c.C X.env
 outer:=X.stack
 stack:=X.stack
 fn:=λ_=>ff
 calm:=X.calm
 E:=λ_ _=>False
 xe:=λ_ _=>False
structure SCo (X:Cz)(scope:UU)(N:Χ)(fr:Zw)(n:Nat)(iter:QD):Prop where
 nd:N.Nodup
 len:N.length=n+fr.length
 fr:fr.map (λi=>X.N[i]?)=(N.drop n).map se
 sc:∀x∈N.drop n,scope.names.lookup x=Hr
 fi:XY X.env ((scope.names.filter λy=>y.2 == .free).map (·.1))
 kind:scope.kind=.function
 cell:∀y∈scope.names,y.2≠.cell
 nm:∀y∈scope.names,y.2=.local->scope.names.lookup y.1=Z6
 fs:∀x,foldedSetIterable iter X.env x=pure x
theorem Yx.comp (Y:Yx X k)(h:N.Nodup):Yx [ϫ,X,N,c] k:=#[Y.room,Y.calm,Y.blt,h,PassesOwn.never,λ_ z=>Y.en z,Y.en,Y.fld]
section
variable {X:Cz}{pins pins' fp:List (Qh×RB)}{ρ ρ':Rb}{h:TH}{ws:WL}{s:Qe}{g:Gs}{fr:Zw}{n i:Nat}{d:D}{scope:UU}{N:Χ}{iter:QD}{cl:List (Qi×Qh)}{C l:Qh}{lo:RB}{H':QF}{m:Qi->ZH}{tk:Nat}
theorem J.pinS (j:J X pins ρ h ws s)(f:∀p∈pins',p∈pins):J X pins' ρ h ws s:=by cases j with | mk g I p W=>exact#[g,I,λy z=>p y (f y z),W]
theorem J.weak (j:J X pins ρ h ws s)(l:ρ'.length=ρ.length)(f:∀(i:Nat) d,ρ'[i]?=Nd->ρ[i]?=Nd):J X pins ρ' h ws s:=by cases j with | mk g I p W =>exact#[g,#[I.ok,I.os,I.bare,I.hk,I.bs,I.kp,I.ip,I.lf,by obtain⟨m,a,b⟩:=I.lc;exact#[m,a,λi x d e1 e2 e3=>b i x d e1 (f i d e2) e3],I.ce,by exact l▸I.len],p,W]
theorem FK:∀{fr:Zw} {i:Nat} {d:D},(Yp ρ fr)[i]?=Nd->∃j,fr[i]?=se j/\ρ[j]?=Nd| [],i,d,e=>by cases i<;>cases e| j::fr,0,d,e=>by rw[Cd,List.getElem?_cons_zero] at e;refine#[j,rfl,?_];split at e;rename_i e1;rw[e1,c8 e];cases c8 e| j::fr,i+1,d,e=>by exact FK (i:=i) e
theorem zaq:∀fr:Zw,(Yp ρ fr).length=fr.length:=by intro fr;induction fr with| nil =>exact rfl| cons j fr ih =>rw[Cd,fS,ih,fS]
theorem FL (e:(be n ng++Yp ρ fr)[i]?=Nd):n<=i/\∃j,fr[i-n]?=se j/\ρ[j]?=Nd:=by rw[v7] at e;split at e;rw[lI] at e;split at e<;>cases e;rename_i z;rw[nu] at e z;exact#[uf z,FK e]
def Gs.less (g:Gs) (fp:List (Qh×RB)):Gs:=#[λa=>open Classical in if∃o,(a,o)∈fp then ng else ϒ,g.ι]
theorem rU (z:∃o,(a,o)∈fp):'2'.G a=none:=ZL
theorem kQ (z:¬∃o,(a,o)∈fp):'2'.G a=ϒ:=ZK
theorem rW (z:'2'.G a=τ):ϒ=τ:=by by_cases y:∃o,(a,o)∈fp;rw[rU y] at z;cases z;rwa [kQ y] at z
theorem Iv.less (I:Iv X g ρ h s)(p:∀p∈fp,g.G p.1=[ϵ,p.2])(ow:∀p∈fp,YW X pins p.1):Iv X '2' ρ h s:=by(have keep:∀{a r},ϒ=τ->(∀o,r≠JA)->'2'.G a=τ:=λ{a r} z n=>by rw[kQ λ#[o,y]=>by rw[p _ y] at z;cases z;exact n o rfl,z]);have le:Le g '2':=#[λa o z=>keep z (by simp),[],by simp[Gs.less]];have hk:=I.hk.go le rfl (λb r z y=>#[keep z (by obtain⟨i,y | y⟩:=y<;>subst y<;>simp),λ_ e=>e]) (λa o z=>I.hk.st a o (z.imp rW rW)) (λa o z=>I.hk.sl a o (rW z)) λa r z=>I.hk.al a r (rW z);refine#[I.ok,I.os,I.bare,hk,λb o e=>le.d _ _ (I.bs b o e),λa r z f=>?_,I.ip,keep I.lf (by simp),?_,λy c e=>?_,I.len];rw[kQ λ#[o,y]=>by have:=(ow _ y).f r z;rw[f] at this;cases this];exact I.kp a r z f;obtain⟨m,ns,hl⟩:=I.lc;exact#[m,ns,λi y d e1 e2 e3=>by obtain⟨u,dq,l⟩:=hl i y d e1 e2 e3;exact#[u,le.du dq,l]];obtain⟨v,r⟩:=I.ce y c e;refine#[v,?_];have nc:¬∃o,(c,o)∈fp:=λ#[o,z]=>(ow _ z).c y c e rfl;rw[kQ nc];exact r
theorem Iv.block (I:Iv X g ρ h s)(S:SCo X scope N fr n iter)(p:∀p∈fp,g.G p.1=[ϵ,p.2])(old:∀b o,ϣ=Υ->'&'=Υ)(nl:Ng=ng)(nC:s.heap.get? C=ng)(ne:l≠C)(el:H'.get? l=se lo)(ns:H'.Ns C m) (jq:∀x c,Oe=ϓ->Hf=ϓ) (mN:∀y∈scope.names,y.2=.free->∃c,cl.lookup y.1=ϓ) :∃g1,Iv [ϫ,X,N,#[cl,C,s,'2'.hid s.heap X.env.locals]] g1 (be n ng++Yp ρ fr) h { s with heap:=H',toks:=tk}/\(∀q ∈[(l,lo)]++fp,g1.G q.1=[ϵ,q.2])/\Le g g1:=by have hn:='I';have q0:=hn.kept old;have fl:=hn.fresh nl;have fC:=hn.fresh nC;obtain⟨oC,esC,epC,eC,_⟩:=id ns;have q1:=q0.role (λr z=>by rw[fl] at z;cases z) [ϵ,lo] (λ_ _ _ e=>e) λr z=>#[lo,el,λo' y=>by cases z;rcases y with y | y<;>cases y;rfl,λo' y=>by cases z;cases y];(have fC':([Lr,s.heap].upd l [ϵ,lo]).G C=none:=by rw[Gs.upd_ne (Ne.symm ne),fC]);have q2:=q1.role (λr z=>by rw[fC'] at z;cases z) lS (λ_ _ _ e=>e) λr z=>#[oC,eC,λo' y=>(by cases z;rcases y with y | y<;>cases y),λo' y=>by cases z;cases y];(have up:∀{a r},[Lr,s.heap].G a=τ->(([Lr,s.heap].upd l [ϵ,lo]).upd C lS).G a=τ:=λ{a r} z=>by rw[Gs.upd_ne (by rintro rfl;rw[fC] at z;cases z),Gs.upd_ne (by rintro rfl;rw[fl] at z;cases z),z]);have upf:∀{a r},ϒ=τ->r≠.loc->(([Lr,s.heap].upd l [ϵ,lo]).upd C lS).G a=τ:=λ{a r} z n=>up (by rw[iU (by exact z▸λy=>n (c8 y)),z]);have le:Le g (([Lr,s.heap].upd l [ϵ,lo]).upd C lS):=#[λa o z=>upf z (by simp),[],by simp[Gs.upd,Gs.hid]];have jW:=λx e=>S.fi.mem (aO.mpr #[(x,NameKind.free),bY.mpr #[lW e,rfl],rfl]);(have sS:∀x,((relabel scope X.env).names.lookup x=Z7\/(relabel scope X.env).names.lookup x=Hr)->scope.names.lookup x=Hr:=λx hx=>by rcases hx with hx | hx;obtain⟨k,e,z⟩:=wW hx;rcases z with z | ⟨z,_⟩;subst z;exact[J4,S.cell _ (lW e)];subst z;exact e;obtain⟨k,e,z⟩:=wW hx;rcases z with z | ⟨_,z⟩;subst z;exact e;cases z);refine#[_,#[#[I.ok.mod,S.kind,I.ok.glob,I.ok.blt,λx y c h1 h2=>I.ok.inj x y c (jq x c h1) (jq y c h2),λx hx=>?_,I.ok.hd,I.ok.frames,λenv he=>?_],rfl,I.bare,q2,λb o e=>le.d _ _ (I.bs b o e),λa r z f=>?_,#[[],by simp[Gs.upd,Gs.hid,Gs.less,VW]],Gs.upd_same,#[m,ns,λi x v e1 e2 e3=>?_],λx c e=>?_,?_],λq hq=>?_,le];obtain⟨c,e⟩:=mN (x,.free) (lW (sS x hx)) rfl;exact#[c,e];obtain⟨k,L,f,r⟩:=I.ok.fr env he;refine#[k,L,f,.inr ?_];(have ny:∀{r},g.G L=τ->(∀o,r≠JA)->¬∃o,(L,o)∈fp:=λz n #[o,y]=>by rw[p _ y] at z;cases z;exact n _ rfl);show∃o,('2'.hid s.heap X.env.locals).G L=_;rcases r with rfl | ⟨o,r⟩;obtain⟨o,e⟩:=[IZ,_,I.lf];exact#[o,by rw[kO (by rw[kQ (ny I.lf (by simp))];exact I.lf) e,Cx]];have r:=I.kp _ _ r rfl;exact#[o,by rw[iU (by rw[kQ (ny r (by simp)),r];simp),kQ (ny r (by simp)),r]];refine up ?_;have z:('2'.hid s.heap X.env.locals).G a=τ:=z;by_cases y:∃o,(a,o)∈fp;rw[iU (by rw[rU y];simp),rU y] at z;cases z;unfold Gs.hid at z ⊢;dsimp only at z ⊢;rwa [kQ y] at z;obtain⟨hi,j,ej,e2'⟩:=FL e2;(have e1':(N.drop n)[i-n]?=σ:=by rw[tV,show n+(i-n)=i by simp_all];exact e1);(have ex:=by have q:=congrArg (λl=>l[i-n]?) S.fr;simp only[bo,ej,pB,e1'] at q;exact c8 q);have hx:=S.sc x (aG e1');obtain⟨m',_,hl⟩:=I.lc;(have hv:Vis X.env.scope x:=by rcases jW x hx with z | z;exact .inr (.inl z);exact .inr (.inr z));obtain⟨u,r,lk⟩:=hl j x v ex e2' hv;refine#[u,le.du r,.inr #[?_,?_]];rcases HL hx with z | z;exact .inl z;exact .inr z;obtain⟨c,ec⟩:=mN (x,.free) (lW hx) rfl;rcases lk with ⟨z,_⟩ | ⟨_,c',ec',o,ho,hd⟩;rcases jW x hx with y | y<;>(rw[z] at y;cases y);have q:=jq x c ec;rw[ec'] at q;cases q;exact#[c,ec,o,old _ _ ho,hd];obtain⟨⟨v,o,ho,hd⟩,r⟩:=I.ce x c (jq x c e);refine#[#[v,o,old _ _ ho,hd],.inr #[?_,rfl]];rcases r with r | ⟨⟨o',r⟩,_⟩;exact#[o,up (by rw[kO r ho,P7 (I.cne (jq x c e))])];exact#[o',upf r (by simp)];show _=N.length;rw[eU,nu,zaq,S.len];rcases dE.mp hq with z | z;rw[NB,Gs.upd_ne ne,Gs.upd_same];exact upf (p q z) (by simp)
theorem Iv.out (I:Iv X g ρ h s)(nl:Ng=ng)(nC:s.heap.get? C=ng)(ne:l≠C)(I6:Iv [ϫ,X,N,#[cl,C,s,[Lr,s.heap]]] g6 ρ6 h6 s6)(pl:g6.G l=[ϵ,lo])(eC:s6.heap.get? C=se oC)(W:cF X.B g6 ws)(p:∀p∈pins,g.G p.1=[ϵ,p.2]) :∃g7,Iv X g7 ρ h6 s6/\(∀q∈pins++[(C,oC)],g7.G q.1=[ϵ,q.2])/\cF X.B g7 ws/\g7.G l=ng/\YW X pins C:=by have fl:='I'.fresh nl;have fC:='I'.fresh nC;have gl:=I.hk.fresh nl;have gC:=I.hk.fresh nC;(have q1:=I6.hk.role (λr z=>by rw[pl] at z;cases z;exact .inl #[_,gV]) ng (λ_ _ _ e=>e) λr z=>by cases z);have lC:g6.G C=lS:=I6.lf;have q2:=q1.role (a:=C) (λr z=>by rw[Gs.upd_ne (Ne.symm ne),lC] at z;cases z;exact Mi) [ϵ,oC] (λ_ _ _ e=>e) λr z=>#[oC,eC,λo' y=>by cases z;rcases y with y | y<;>cases y;rfl,λo' y=>by cases z;cases y];(have up:∀{a r},g6.G a=τ->a≠l->a≠C->((g6.upd l ng).upd C [ϵ,oC]).G a=τ:=λ{a r} z n1 n2=>by rw[Gs.upd_ne n2,Gs.upd_ne n1,z]);have x:Gr [Lr,s.heap] ((g6.upd l ng).upd C [ϵ,oC]):=#[λa r z f=>by rcases f with f | f;exact up (I6.kp a r z f) (by rintro rfl;rw[fl] at z;cases z) (by rintro rfl;rw[fC] at z;cases z);subst f;exfalso;by_cases y:ϒ=lS;obtain⟨o,e⟩:=[IZ,a,y];rw[kO y e] at z;by_cases w:a=X.env.locals;rw[P8 w] at z;cases z;rw[P7 w] at z;cases z;rw[iU y] at z;exact y z,I6.ip];obtain⟨I7,gr⟩:=I.back x q2 I6.os I6.bare;have le:Le g6 (g.back ((g6.upd l ng).upd C [ϵ,oC])):=#[λa o z=>by rw[ky λy=>?_];exact up z (by rintro rfl;rw[pl] at z;cases z) (by rintro rfl;rw[lC] at z;cases z);obtain⟨o',e⟩:=[IZ,a,y];have:=I6.kp a _ (kO y e) (by by_cases w:a=X.env.locals<;>simp[w,Ro.fix]);rw[z] at this;by_cases w:a=X.env.locals;rw[P8 w] at this;cases this;rw[P7 w] at this;exact absurd this (by simp),[],by simp[Gs.back,Gs.upd]];refine#[_,I7,λq hq=>?_,le.held W,?_,#[λr z=>?_,λq hq e=>?_,λy c e e2=>?_]];rcases dE.mp hq with z | z;exact gr.f _ _ (p q z) gV;rw[NB,ky (by rw[gC];simp),Gs.upd_same];rw[ky (by rw[gl];simp),Gs.upd_ne ne,Gs.upd_same];(cases f:r.fix with| false=>rfl| true=>have:=I.kp _ _ z f;rw[gC] at this;cases this);have:=p q hq;rw[e,gC] at this;cases this;obtain⟨⟨v,o,ho,_⟩,_⟩:=I.ce y c e;rw[e2,nC] at ho;cases ho
end
section
variable {X:Cz}{k:Nat}[Y:Yx X k] {tg iter fF c:QD}{jP:Ia}{scope:UU}{N:Χ}{fr:Zw}{n i:Nat}{fi:RI}{fg:RG}{fT:RT}{fa:RE}{mm:Bool}{pos pos1 py iX:Tx}{y:Qi}
inductive CI (X:Cz) (S:Nat->List (Qh×RB)->Prop) (l:Qh) (fp:List (Qh×RB)) (ρ:Rb) (wi ws:WL) (G:Nat->Nat->TH->Φ->Prop) (m:Nat) (s:Qe):Prop
 | mk (i:Nat) (ds:Φ) (us:ϖ) (c:Nat) (cY:List (Qh×RB)) (h:TH) (j:J X ([(l,Vi us c)]++cY) ρ h (wi++(ϝ++ws)) s) (st:S i cY) (ef:cY.map (·.1)=fp.map (·.1)) (l5:ds.length=us.length) (m5:us.length+m<=1000) (q:G m i h ds)
include Y in
theorem FN {pins:List (Qh×RB)}{ρ:Rb}{h:TH}{ws:WL}{s:Qe}{P:D->TH->Prop}{use:Option (Value->Sem Unit)}{QQ:Value->Qe->Prop}(z:J X pins ρ h ws s)(q:(VS mm fi n fr fg fT fa ρ h).sat P X.E)(S:SCo X scope N fr n iter)
  (hend:∀s6 l C oC mC,RP X (pins++[(C,oC)]) ρ ws P HN s6->s6.heap.get? C=se oC->LCg.NsObj oC mC->YW X pins C->compPost [ZV,X.B.w] X.A X.xe use QQ HN C (.ok .next) s6)
  (hi:QI X tg iter fi) (hk:GO n fg) (hg:∀c:CF,QG [ϫ,X,N,c] tg fg) (ht:∀(c:CF) {pins ρ h ws s P},J [ϫ,X,N,c] pins ρ h ws s->(fT ρ h).sat P (λ_ _=>False) ->
   Qn [ZV,X.B.w] X.A (forIn jP tj λc' r=>if r=tj then do let ok <-isTrue c' (UT scope c.cl c.C X.env) (RQ c' (UT scope c.cl c.C X.env));pure (ForInStep.yield ok) else[H8,r]) (TR [ϫ,X,N,c] pins ρ ws P) NoE s)
  (he:∀c:CF,QE [ϫ,X,N,c] fF fa):Qn [ZV,X.B.w] X.A (comprehension [M1,fF,[#[tg,iter,jP,0]],pos] scope X.env pos1 (newList []) ff [Ϭ,iter] use) QQ X.xe s:=by
 obtain⟨g0,I0⟩:=z.inv;obtain⟨cl,ecl,jq,mN⟩:=zcx λy hy hf=>I0.ok.has y.1 (S.fi.mem (aO.mpr #[y,bY.mpr #[hy,by rw[hf];rfl],rfl]))
 refine wpAny_comprehension_free (use:=use) rfl S.fs ecl S.kind S.nm (Rj (hi.h z q.bnd) λv s1 h1=>Rj h1 λitv s2 h2=>?_);obtain⟨it,nx,h2,Sx,wi,fp,rfl,w,s0,ow,j,q⟩:=h2;cases j with | mk g I p W =>
 have pp:∀y∈pins,g.G y.1=[ϵ,y.2]:=λy z=>p y (c9 _ z);have pf:∀y∈fp,g.G y.1=[ϵ,y.2]:=λy z=>p y (eI _ z)
 refine Rr (wpAny_newFunctionEnv S.cell (by intro y hy;simp at hy) (λh₁ oU₁ iG₁=>?_) S.kind)
 dsimp only at oU₁ iG₁ ⊢
 generalize hH2:s2.heap.push { cls:=.type "list",dict:=ng,data:=.seq ([]:ϖ).toArray}=HA at oU₁ iG₁ ⊢
 have hC:HA.objs.size=s2.heap.objs.size+1:=by rw[<-hH2,Heap.size_push]
 have sY:s2.heap.objs.size≠HA.objs.size:=by rw[hC];exact cI (iO _)
 have old:∀b o,s2.heap.get? b=Υ->h₁.get? b=Υ:=λb o e =>
  iG₁.extBut b o (by rw[hC];exact cI (e9 LI)) (Heap.get?_push_of_some _ (hH2▸Heap.get?_push_of_some _ e))
 have iw:h₁.get? s2.heap.objs.size=se (Vi [] 0):=iG₁.extBut _ _ sY (Heap.get?_push_of_some _ (hH2▸Heap.get?_push_size _ rfl));have nl:s2.heap.get? s2.heap.objs.size=none:=gf
 have nC:s2.heap.get? HA.objs.size=none:=Heap.get?_none_of_le (by rw[hC];exact lV _)
 generalize s2.heap.objs.size=l at iw sY nl;generalize HA.objs.size=C at oU₁ iG₁ sY nC;obtain⟨g1,I1,p1,kz⟩:=I.block (tk:=s2.toks+([]:List (Qi×Value)).length) S pf old nl nC sY iw oU₁ jq mN
 let Xc:=[ϫ,X,N,#[cl,C,s2,'2'.hid s2.heap X.env.locals]]
 have lf:∀q∈fp,q.1≠l:=λq hq e=>by have:=[IZ,_,pf q hq];rw[e,nl] at this;obtain⟨_,z⟩:=this;cases z
 have cl':∀x c,Oe=ϓ->∃o,s2.heap.get? c=Υ:=λx c e=>let #[#[v,o,ho,_],_]:=I.ce x c (jq x c e);#[o,ho]
 have own:∀lo,∀q∈fp,YW Xc [(l,lo)] q.1:=λlo q hq=>#[λr e=>by have e:('2'.hid s2.heap X.env.locals).G q.1=τ:=e;rw[iU (by rw[rU #[_,hq]];simp),rU #[_,hq]] at e;exact absurd e (by simp),λy hy e=>lf q hq (by rw[<-e,cT.mp hy]),λx c e=>(ow q hq).c x c (jq x c e)]
 have ownl:∀cY:List (Qh×RB),cY.map (·.1)=fp.map (·.1)->YW Xc cY l:=λcY ef=>#[λr e=>by
  have e:('2'.hid s2.heap X.env.locals).G l=τ:=e;have:'2'.G l=none:=by
   cases e1:'2'.G l with
   | none=>rfl
   | some r=>obtain⟨_,z⟩:=[IZ,_,rW e1];rw[nl] at z;cases z
  rw[iU (by rw[this];simp),this] at e;exact absurd e (by simp),λy hy e=>by
   have:y.1∈fp.map (·.1):=by rw[<-ef];exact tS hy
   obtain⟨q,hq,e2⟩:=O0;exact lf q hq (e2.trans e),λx c e e2=>by obtain⟨o,z⟩:=cl' x c e;rw[e2,nl] at z;cases z]
 have loop:∀s₃,s₃={ s2 with heap:=h₁,toks:=s2.toks+([]:List (Qi×Value)).length} ->
   UA [ZV,X.B.w] X.A (.compLoop [M1,fF,[#[tg,iter,jP,0]],pos] 0 ZI HN (UT scope cl C X.env)) (compPost [ZV,X.B.w] X.A X.xe use QQ HN C) s₃:=by
  rintro s₃ rfl;refine zcV (CI Xc Sx l fp (be n ng++Yp ρ fr) wi ws λm i h' ds=>(Ye nx fg fT fa (be n ng++Yp ρ fr) m i h').sat (λys h=>(RX.mk mm (ds++ys) h).sat P X.E) X.E) ?_ 1000
   #[0,[],[],0,fp,h2,#[g1,I1,p1,kz.held W],s0,rfl,rfl,by simp,by simpa using q.bnd]
  rintro m s5 ⟨i,ds,us,c,cY,h5,j5,st5,ef,l5,m5,q5⟩;cases m with
  | zero=>exact q5.elim
  | succ m =>
   rw[pI] at q5;have ow5:∀q∈cY,YW Xc [(l,Vi us c)] q.1:=λq hq=>by
    have:q.1∈fp.map (·.1):=by rw[<-ef];exact tS hq
    obtain⟨q',fO,e2⟩:=O0;rw[<-e2];exact own _ q' fO
   split at q5
   .rename_i e5;refine Rj (w.step (X:=Xc) rfl Y.calm st5 ow5 j5 e5 (E:=NoE)) λr s6 hq=>?_;obtain⟨rfl,j6⟩:=hq;cases j6 with | mk g6 I6 p6 W6 =>
    obtain⟨mC,hnC,_⟩:=I6.lc;obtain⟨oC,eC,nC6⟩:=LCg.ns_obj hnC;have pl:=p6 _ aI;obtain⟨g7,I7,p7,W7,n7,oC7⟩:=(I.less pf ow).out nl nC sY I6 pl eC W6 (pins:=pins) λy z=>by rw[kQ λ#[o,w]=>(ow _ w).p y z rfl];exact pp y z
    have r7:=Fh I7 p7 (ws:=ws) (λw z=>W7 w (eI _ z)) l5 (b9 (by lia) (show 1000<=sizeLine by decide)) n7 (λ_ _ e=>e) (I6.hk.st _ _ (.inr pl)) (by have q5:(RX.mk mm (ds++[]) h5).sat P X.E:=q5;rwa [lN] at q5) s6.toks
    exact hend s6 l C oC mC r7 eC nC6 oC7
   .rename_i d e5;refine Rj (w.step (X:=Xc) rfl Y.calm st5 ow5 j5 e5 (E:=NoE)) λr s6 hq=>?_;obtain⟨u,rfl,hq⟩:=hq;obtain⟨ρ1,e6,q5⟩:=q5.o;refine Rj hq λ_ s7 #[fp7,st7,ef7,j7]=>Rj ((hg _).h j7 e6) λ_ s8 j8=>Rj (ht _ j8 q5.bnd.unx) λok s9 #[h9,j9,q9]=>?_;obtain⟨gl,gk⟩:=hk _ _ _ e6;have weak:∀{pins h ws s},J Xc pins ρ1 h ws s->J Xc pins (be n ng++Yp ρ fr) h ws s:=λj=>j.weak gl.symm λi d e=>by rw[gk i (FL e).1];exact e
    cases ok with
    | false=>exact#[m,iO _,i+1,ds,us,c,fp7,h9,weak j9,st7,ef7.trans ef,l5,by lia,q9]
    | true =>
     refine Rj ((he _).h j9 q9.bnd.unx) λv sA #[dv,hA,jA,qA]=>?_;have lA:sA.heap.get? l=se (Vi us c):=by cases jA with | mk g I p W=>exact[HQ,_,_,p _ aI]
     refine wpAny_list_append_plain (items:=us.toArray) #[c,lA] (λh' cH iG=>?_) (by rw[fR];exact b9 (by lia) (show 1000<=sizeLine by decide))
     obtain⟨c',e'⟩:=cH;have jB:=(weak jA).pinS (pins':=fp7++[(l,Vi us c)]) (by simp +contextual [or_imp])
     have jC:=jB.turn (ob':=Vi (us++[v]) c') (ownl fp7 (ef7.trans ef)) (λb o hb e=>iG.extBut b o hb e) (by simpa using e') sA.toks
     refine#[m,iO _,i+1,ds++[dv],us++[v],c',fp7,hA,(jC.pinS (by simp +contextual [or_imp])).sub ?_,st7,ef7.trans ef,by simp[l5],by simp;lia,?_]
     .rw[lO l5];simp +contextual [or_imp]
     .refine(qA.bnd).mono λys h q=>?_;have q:(RX.mk mm (ds++dv::ys) h).sat P X.E:=q;simpa using q
   .exact q5.elim
 refine codeAny_compStart_list (loop _ rfl) (w.self s0 (λy hy=>?_) (loop _ rfl));exact old _ _ [HQ,_,_,pf y hy]
include Y
theorem FO (S:SCo X scope N fr n iter)(hi:QI X tg iter fi)(hk:GO n fg)(hg:∀c:CF,QG [ϫ,X,N,c] tg fg)(ht:∀c {pins ρ h ws s P},J [ϫ,X,N,c] pins ρ h ws s->(fT ρ h).sat P (λ_ _=>False)->Qn [ZV,X.B.w] X.A (forIn jP tj λc' r=>if r=tj then do let ok <-isTrue c' (UT scope c.cl c.C X.env) (RQ c' (UT scope c.cl c.C X.env));pure (ForInStep.yield ok) else[H8,r]) (TR [ϫ,X,N,c] pins ρ ws P) NoE s) (he:∀c:CF,QE [ϫ,X,N,c] fF fa):QE X [M1,fF,[#[tg,iter,jP,0]],pos] (VS mm fi n fr fg fT fa):=#[λz q=>FN z q S (λs6 l C oC mC r eC nC oC'=>#[mC,nC.ns eC,λh' iG=>by obtain⟨d,h,j,p⟩:=r;exact#[d,h,j.drop oC' (λb o hb e=>iG.extBut b o hb e) s6.toks,p]]) hi hk hg ht he]
theorem FP (S:SCo X scope N fr n iter)(hi:QI X tg iter fi)(hk:GO n fg)(hg:∀c:CF,QG [ϫ,X,N,c] tg fg)(ht:∀c {pins ρ h ws s P},J [ϫ,X,N,c] pins ρ h ws s->(fT ρ h).sat P (λ_ _=>False)->Qn [ZV,X.B.w] X.A (forIn jP tj λc' r=>if r=tj then do let ok <-isTrue c' (UT scope c.cl c.C X.env) (RQ c' (UT scope c.cl c.C X.env));pure (ForInStep.yield ok) else[H8,r]) (TR [ϫ,X,N,c] pins ρ ws P) NoE s) (he:∀c:CF,QE [ϫ,X,N,c] fF fa) (hy:X.N[i]?=Ϥ) (qj:Pw=Z6) (tB:UC [M1,fF,[#[tg,iter,jP,0]],pos] (se [NZ,y]) iX.line X.env=pure tj):QS X (.Assign [[NZ,y]] [M1,fF,[#[tg,iter,jP,0]],pos] iX) [η,VS mm fi n fr fg fT fa,i]:=#[λ{pins ρ h ws s P} z q=>by rw[exec_Assign_Name_used _ _ _ _ tB];refine Qd (wpAny_standAt (Qd ?_));show Qn _ X.A (do let _ <-comprehension (.ListComp fF [#[tg,iter,jP,0]] scope pos) scope X.env _ (newList []) ff (RQ iter X.env) (se (assign (.Name y py) X.env))) _ _ s;refine Qd (Rj (FN z q.bnd S (λs6 l C oC mC r eC nC oC'=>?_) hi hk hg ht he) λ_ s' hq=>Qk (Qk hq));obtain⟨d,h6,j,q⟩:=r;obtain⟨ρ',e,q⟩:=q.o;cases e;exact wpAny_assign_Name (j.store Y.nd hy (.inl qj) (.inr qj) λs7 j7=>by(have e7:=by cases j7 with | mk g I p W=>exact[HQ,_,_,p _ (eI _ aI)]);refine#[mC,nC.ns e7,λh' iG=>#[_,h6,j7.drop oC' (λb o hb e=>iG.extBut b o hb e) s7.toks,?_]];rw[<-eJ];exact q)]
theorem yT (hk:GO n fg)(S:SCo X scope N fr n iter)(hi:QI X tg iter fi)(hg:∀c:CF,Yx [ϫ,X,N,c] k->QG [ϫ,X,N,c] tg fg)(he:∀c:CF,Yx [ϫ,X,N,c] k->QE [ϫ,X,N,c] fF fa):QE X [M1,fF,[#[tg,iter,[],0]],pos] (TV N mm fi n fr fg Rf fa) :=FO S hi hk (λc=>hg c J6) (λc {pins ρ h ws s P} z q=>wpAny_tests_nil #[_,z,q]) λc=>he c J6
theorem FQ (hk:GO n fg)(S:SCo X scope N fr n iter)(hi:QI X tg iter fi)(hg:∀c:CF,Yx [ϫ,X,N,c] k->QG [ϫ,X,N,c] tg fg)(ht:∀cc:CF,Yx [ϫ,X,N,cc] k->QT [ϫ,X,N,cc] c fT)(he:∀c:CF,Yx [ϫ,X,N,c] k->QE [ϫ,X,N,c] fF fa):QE X [M1,fF,[#[tg,iter,[c],0]],pos] (TV N mm fi n fr fg fT fa) :=FO S hi hk (λc=>hg c J6) (λc {pins ρ h ws s P} z q=>wpAny_tests_one ((ht c J6).h z q)) λc=>he c J6
theorem yU (hk:GO n fg)(S:SCo X scope N fr n iter)(hi:QI X tg iter fi)(hg:∀c:CF,Yx [ϫ,X,N,c] k->QG [ϫ,X,N,c] tg fg)(he:∀c:CF,Yx [ϫ,X,N,c] k->QE [ϫ,X,N,c] fF fa) (hy:X.N[i]?=Ϥ:=by rfl) (qj:Pw=Z6:=by rfl) (tB:UC [M1,fF,[#[tg,iter,[],0]],pos] (se [NZ,y]) iX.line X.env=pure tj:=by rfl):QS X (.Assign [[NZ,y]] [M1,fF,[#[tg,iter,[],0]],pos] iX) [η,TV N mm fi n fr fg Rf fa,i] :=FP S hi hk (λc=>hg c J6) (λc {pins ρ h ws s P} z q=>wpAny_tests_nil #[_,z,q]) (λc=>he c J6) hy qj tB
theorem FR (hk:GO n fg)(S:SCo X scope N fr n iter)(hi:QI X tg iter fi)(hg:∀c:CF,Yx [ϫ,X,N,c] k->QG [ϫ,X,N,c] tg fg)(ht:∀cc:CF,Yx [ϫ,X,N,cc] k->QT [ϫ,X,N,cc] c fT)(he:∀c:CF,Yx [ϫ,X,N,c] k->QE [ϫ,X,N,c] fF fa) (hy:X.N[i]?=Ϥ:=by rfl) (qj:Pw=Z6:=by rfl) (tB:UC [M1,fF,[#[tg,iter,[c],0]],pos] (se [NZ,y]) iX.line X.env=pure tj:=by rfl):QS X (.Assign [[NZ,y]] [M1,fF,[#[tg,iter,[c],0]],pos] iX) [η,TV N mm fi n fr fg fT fa,i] :=FP S hi hk (λc=>hg c J6) (λc {pins ρ h ws s P} z q=>wpAny_tests_one ((ht c J6).h z q)) (λc=>he c J6) hy qj tB
end
structure SM (X:Cz)(o:QD)(m:Qi)(av:Tx)(es:Ia)(aw:Tx):Prop where
 base:attributeBase o m X.env [Ϭ,o]=[Ϭ,o]
 few:((backTo aw [ϴ,es]).all (λx=>! x.1)&&(backToKw aw (keywordEach [] X.env)).all (λx=>x.1.isSome)
  &&decide (es.length+([]:List Keyword).length+(if([]:List Keyword).isEmpty then 0 else 1)<30))=tj
 line:(av.endLine==aw.line)=tj
 pl:(backTo aw [ϴ,es]).any (·.1)=ff
abbrev yV (s:Qe)(u:Value)(T:String):Prop:=s.TypeIs u T/\∀a,u=ύ->∃ob,Z5=Lj/\ob.dict=ng
section
variable {X:Cz}{k:Nat}[Y:Yx X k] {pins:List (Qh×RB)}{ρ:Rb}{h:TH}{ws:WL}{s:Qe}{P:D->TH->Prop}{x y:D}{u v:Value}{ds:Φ}{us:ϖ}{o a b e:QD}{es:Ia}{fa fb fc:RE}{fA:RA}{av aw:Tx}{name:Qi}{T id:String}{C:D->TH->Prop}{G:D->Φ->TH->Prop}{ks:Ϛ}
omit Y in
theorem J.tyL (j:J X pins ρ h ((x,u)::ws) s)(e:eL h x=Pa):yV s u "list":=by obtain⟨a,us,rfl,l,z,⟨n,f⟩,_⟩:=j.opL aI e;exact#[#[_,f,rfl],λb q=>by cases q;exact#[_,f,rfl]]
omit Y in
theorem rX (e:UZ h x=se (i,ds)):eL h x=Pa:=by
 unfold UZ at e
 split at e
 .split at e
  .rename_i i' _ e1;cases e;show(match eg h _ with | some (.ml ds)=>Pa| _=>ng)=_;rw[e1]
  .cases e
 .cases e
omit Y in
theorem J.tyD (j:J X pins ρ h ((x,u)::ws) s)(e:Yg x h=tj):yV s u "dict":=by
 unfold Yg at e
 split at e
 .rename_i p e1;obtain⟨kl,a,us,rfl,l,z,⟨n,f⟩,_⟩:=j.opD aI e1;refine#[f.typeIs,λb q=>?_];cases q;obtain⟨ob,_,_,h1,h2,_⟩:=f;exact#[ob,h1,h2.2.1]
 .cases e
omit Y in
theorem bm (pa:PlainAttrs T)(slot:Slot T name id)(hty:typeOf (.builtin id)=pure (.type "method_descriptor"))(sm:SM X o name av es aw)(ho:QE X o fa)(ha:QA X es fA)(z:J X pins ρ h ws s)(q:(fa ρ h).sat (λx h=>C x h/\(fA ρ h).sat (λys h=>G x ys h) X.E) X.E)
  (hC:∀{x u h s},J X pins ρ h ((x,u)::ws) s->C x h->yV s u T) (hm:∀{x u h s ds us},ds.length=us.length->J X pins ρ h (ϝ++(x,u)::ws) s->G x ds h->X.wp (call (.builtin id) (u::us)) (RP X pins ρ ws P) s):X.wp [Ϭ,.Call [Ot,name,av] es [] aw] (RP X pins ρ ws P) s :=
 wpAny_Call_method_late sm.base sm.few sm.line rfl (Rj (ho.h z q) λu s1 #[x,h1,z,c,q]=>by obtain⟨t1,t2⟩:=hC z c;exact#[T,id,pa,slot,hty,t1,t2,[Hd,sm.pl,sm.pl,Rj (ha.h (pos:=aw) z q) λus s2 #[ds,h2,l,z,q]=>hm l z q]])
omit Y in
theorem J.lset {i n:Nat}{a:Qh}{ds':Φ}{us':ϖ}{f:TT->TT}(j:J X pins ρ h ws s)(m:(.at i,ύ)∈ws)(eh:h[i]?=[ϥ,ds])(e:Z5=se (Vi us n))(hf:f us.toArray=us'.toArray)(l:ds'.length=us'.length)(z:us'.length<=sizeLine)(sub:∀w∈Mr,w∈ws)(t:Nat):J X pins ρ (hs h i (.ml ds')) ws { s with heap:=s.heap.update a (Obj.mapSeq f),toks:=t}:=by have q:=PySem.IsL.update e f;rw[hf] at q;exact j.setL m eh (λb o hb e=>(Heap.get?_update_other s.heap (Obj.mapSeq f) (Ne.symm hb)).trans e) q l z sub t
theorem yW:16777216<=sizeLine:=by decide
theorem zcH (ho:QE X o fa)(ha:QA X es fA)(sm:SM X o "append" av es aw:=by exact⟨rfl,rfl,rfl,rfl⟩):QE X (.Call [Ot,"append",av] es [] aw) (Wr fa fA):=#[λ{pins ρ h ws s P} z q=>by refine bm qO PySem.F.slot_list_append PySem.F.type_list_append sm ho ha z (q.bnd.mono λx h q=>?_) (C:=λx h=>∃p,UZ h x=ο) (G:=λx ys h=>(match ys with| [y]=>QL (UZ h x) λp=>Q3 (bq (Rx p.2) 16777216) (R.ok D.non (hs h p.1 (.ml (YH p.2 [y]))))| _=>R.no).sat P X.E) (λz #[p,e]=>z.tyL (rX e)) λ{x u h s ds us} l z q=>?_;obtain⟨p,e,q⟩:=q.o;exact#[#[p,e],q.bnd];split at q;rename_i y;obtain⟨⟨i,ds⟩,e,q1⟩:=q.o;obtain⟨lt,q2⟩:=q1.i;obtain⟨v,rfl,z⟩:=one l z;obtain⟨a,us,rfl,rfl,eh,l,zz,⟨n,f⟩,z⟩:=z.opM (aY _ aI) e;(have lt:ds.length<16777216:=by rw[aR] at lt;simpa [bR] using lt);have:=yW;refine S6 F.slot_list_append #[_,f,rfl] F.entry_list_append (F.args_list_append_2 _ _) (PySem.list_append a us.toArray n v (by exact zz)) #[f,#[.non,_,((z.lset (us':=us++[v]) (ds':=ds++[y]) (by simp) eh f (by simp) (by simp[l]) (by simp;exact l▸lt) (λw hw=>?_) s.toks).sub (by simp +contextual [or_imp])).add λ_=>.non,?_]];rw[lO l] at hw;simp at hw ⊢;grind;rw[gY] at q2;exact q2;exact q.elim]
theorem NE (ho:QE X o fa)(ha:QA X es fA)(sm:SM X o "extend" av es aw:=by exact⟨rfl,rfl,rfl,rfl⟩):QE X (.Call [Ot,"extend",av] es [] aw) (rExt fa fA):=#[λ{pins ρ h ws s P} z q=>by refine bm qO PySem.F.slot_list_extend PySem.F.type_list_extend sm ho ha z (q.bnd.mono λx h q=>?_) (C:=λx h=>∃p,UZ h x=ο) (G:=λx ys h=>(match ys with| [y]=>QL (UZ h x) λp=>QL (eL h y) λes=>Q3 [K7,Rx p.2+Rx es] (R.ok D.non (hs h p.1 (.ml (YH p.2 es))))| _=>R.no).sat P X.E) (λz #[p,e]=>z.tyL (rX e)) λ{x u h s ds us} l z q=>?_;obtain⟨p,e,q⟩:=q.o;exact#[#[p,e],q.bnd];split at q;obtain⟨⟨i,ds⟩,e,q1⟩:=q.o;obtain⟨es,e2,q2⟩:=q1.o;obtain⟨lt,q3⟩:=q2.i;obtain⟨v,rfl,z⟩:=one l z;obtain⟨b,vs,rfl,l2,yX,⟨n2,f2⟩,z⟩:=z.opL aI e2;obtain⟨a,us,rfl,rfl,eh,l,zz,⟨n,f⟩,z⟩:=z.opM (eI _ (aY _ aI)) e;(have lt:ds.length+es.length<=16777216:=by simpa [aR] using lt);(have i0:us.toArray.size+vs.toArray.size<=sizeLine:=by have:=yW;simp;lia);(have tG:¬(! us.toArray.isEmpty&&Builtin.List.listTooLong (us.toArray.size+vs.toArray.size))=tj:=by rw[A9 i0,zJ];exact qr);refine S6 F.slot_list_extend #[_,f,rfl] F.entry_list_extend (F.args_list_extend_2 _ _) (AutoSeq1.list_extend_list_list_0 a us.toArray n b vs.toArray n2 tG (by exact zz) (by exact nO i0)) #[f,f2,#[.non,_,((z.lset (us':=us++vs) (ds':=ds++es) (by simp) eh f (by simp) (by simp[l,l2]) (by simpa using i0) (λw hw=>?_) s.toks).sub (by simp +contextual [or_imp])).add λ_=>.non,?_]];rw[lO l] at hw;simp at hw ⊢;grind;rw[gY] at q3;exact q3;exact q.elim]
theorem NG (ho:QE X o fa)(sm:SM X o "pop" av [] aw:=by exact⟨rfl,rfl,rfl,rfl⟩):QE X (.Call [Ot,"pop",av] [] [] aw) (Xl fa):=#[λ{pins ρ h ws s P} z q=>by refine bm qO AM AN sm ho p8 z (q.bnd.mono λx h q=>?_) (C:=λx h=>∃p,UZ h x=ο) (G:=λx ys h=>ys=[]/\(QL (UZ h x) λp=>QL (eg p.2 (Rx p.2-1)) λy=>R.ok y (hs h p.1 (.ml (YB p.2)))).sat P X.E) (λz #[p,e]=>z.tyL (rX e)) λ{x u h s ds us} l z #[ed,q0]=>?_;obtain⟨p,e,_⟩:=q.o;exact#[#[p,e],rfl,q];subst ed;cases us with| cons _ _=>cases l| nil =>obtain⟨⟨i,ds⟩,e,q1⟩:=q0.o;obtain⟨y,e2,q2⟩:=q1.o;obtain⟨a,us,rfl,rfl,eh,l,zz,⟨n,f⟩,z⟩:=z.opM aI e;rw[aW,aR] at e2;obtain⟨v,e3,_⟩:=z.item l e2;have mv:(y,v)∈ϝ:=[Jv,#[e2,e3]];refine S6 F.slot_list_pop #[_,f,rfl] F.entry_list_pop (F.args_list_pop_1 _) (MeetsSeq.list_pop_last a us.toArray n v (by simpa [l] using e3) (by exact zz)) #[f,#[y,_,(z.lset (ds':=ds.dropLast) (by simp) eh f (by rw[fR,zU,Ht]) (by simp[l]) (by simp;exact nO zz) (λw hw=>?_) s.toks).sub (by simp +contextual [or_imp,mv]),?_]];obtain⟨j,hj⟩:=bf hw;rw[bF] at hj;simp only[nq] at hj;obtain⟨h1,h2⟩:=hj;have hm:w∈ϝ:=aG (i:=j) (bF.mpr ?_);simp[hm];constructor;split at h1;exact h1;cases h1;split at h2;exact h2;cases h2;rw[uM] at q2;exact q2]
theorem zcX (ho:QE X o fa)(ha:QA X es fA)(sm:SM X o "index" av es aw:=by exact⟨rfl,rfl,rfl,rfl⟩):QE X (.Call [Ot,"index",av] es [] aw) (rIdx fa fA):=#[λ{pins ρ h ws s P} z q=>by refine bm qO PySem.F.slot_list_index PySem.F.type_list_index sm ho ha z (q.bnd.mono λx h q=>?_) (C:=λx h=>∃p,eL h x=ο) (G:=λx ys h=>(match ys with| [D.int n]=>QL (eL h x) λds=>QL (QJ XV ds) λns=>QL (XS n ns) λj=>R.ok [H7,j] h| _=>R.no).sat P X.E) (λz #[p,e]=>z.tyL e) λ{x u h s ds us} l z q=>?_;obtain⟨p,e,q⟩:=q.o;exact#[#[p,e],q.bnd];split at q;rename_i n;obtain⟨ds,e,q⟩:=q.o;obtain⟨ns,e2,q⟩:=q.o;obtain⟨j,e3,q⟩:=q.o;obtain⟨v,rfl,z⟩:=one l z;obtain⟨t,rfl⟩:=z.int;obtain⟨a,us,rfl,l,zz,⟨c,f⟩,z⟩:=z.opL (aY _ aI) e;(have at_:∀{i:Nat} {w:Value},us[i]?=se w->∃t,w=.int [Zz,i] t:=λ{i w} hw=>by cases z with | mk g I p W=>exact yN e2 l (λw z=>W w (c9 _ z)) hw);obtain⟨f1,f2⟩:=zar e3;have nl:=(iR e2).1;(have jl:=by exact l▸nl▸(aH.mp f1).1);(have line:sizeLine<2^63-1:=by decide);refine S6 F.slot_list_index #[_,f,rfl] F.entry_list_index (F.args_list_index_2 _ _) (PySem.SeqAt.list_indexAt a us.toArray c ng ([].toArray) (.int n t) (YQ (.int n t)) j (by exact jl) (by lia) ?_ λm hm eX=>?_) #[f,λy hy=>?_,?_];obtain⟨t',e4⟩:=at_ (aJ jl);show YQ _ us[j]=tj;rw[e4];simp[YQ,bC,f1];obtain⟨t',e4⟩:=at_ (aJ hm);show YQ _ us[m]=ff;(have hm2:m<ns.length:=by rw[nl,l];exact hm);have:=f2 m ns[m] eX (aJ hm2);rw[e4];simpa [YQ,bC,hm2] using this;obtain⟨i,hi⟩:=bf (zH.mpr hy);obtain⟨t',e4⟩:=at_ (by exact hi);exact e4▸SeqAt.EqAt.int_int _ _ _ _;exact(z.sub (by simp +contextual [or_imp])).gint q;exact q.elim]
omit Y
theorem zdW {j kk:QK}(n:j=kk->kk∉r.map (·.1)):T5 ((j,u)::r) kk v=if j=kk then(j,v)::r else(j,u)::T5 r kk v:=by unfold T5;by_cases e:j=kk;subst e;rw[Cx,P8 (by simp),bA,Cx];congr 1;refine(cq λx hx=>?_).trans (nJ _);rw[P7 λz=>n rfl (by exact z▸tS hx)];rfl;rw[P7 e,wC,Qb e,Bool.false_or];by_cases z:(r.any λkv=>decide (kv.1=kk))=tj;rw[ZL,ZL,bA,P7 e];rw[ZK,ZK];rfl
theorem FS:∀{ks:List QK},ks.length=us.length->'5'.map (·.1)=ks:=λl=>ub (uh l)
theorem FU {e:D}  (nd:ks.Nodup)(l:ks.length=ds.length)(l2:ds.length=us.length):∃us',T5 '5' kk v=(Uw kk ks).zip us'/\(Uw kk ks).length=(VT kk e ks ds).length/\(VT kk e ks ds).length=us'.length/\us'.length<=us.length+1/\∀w∈(VT kk e ks ds).zip us',w=(e,v)\/w∈ϝ:=by revert nd;refine vw (λ_=>#[[v],rfl,rfl,rfl,ϭ,λw z=>.inl (by simpa [VT] using z)]) (λj ks d ds u us l l2 ih nd=>?_) l l2;have e1:Uw kk (j::ks)=bif Xr j kk then j::ks else j::Uw kk ks:=rfl;have e2:VT kk e (j::ks) (d::ds)=bif Xr j kk then e::ds else d::VT kk e ks ds:=rfl;obtain⟨n1,n2⟩:='g';have ll:=l.trans l2;rw[e1,e2,nX,iM,zdW λz=>by rw[FS ll,<-z];exact n1];by_cases z:j=kk;rw[P9 z,ZL];exact#[v::us,rfl,by simpa using l,by simpa using l2,by simp,λw hw=>by rcases aT.mp hw with hw | hw;exact .inl hw;exact .inr (aY _ hw)];rw[Qb z,ZK];obtain⟨us',f1,f2,f3,f4,f5⟩:=ih n2;refine#[u::us',by rw[f1];rfl,by simpa using f2,by simpa using f3,by simpa using f4,λw hw=>?_];rcases aT.mp hw with hw | hw;exact .inr (by exact hw▸aI);exact(f5 w hw).imp id (aY _)
theorem zaR  (l:ks.length=ds.length)(l2:ds.length=us.length):∃us',without '5' kk=(US kk ks).zip us'/\(US kk ks).length=(Ur kk ks ds).length/\(Ur kk ks ds).length=us'.length/\us'.length<=us.length/\∀w∈(Ur kk ks ds).zip us',w∈ϝ:=by refine vw #[[],rfl,rfl,rfl,ϭ,λw z=>z] (λj ks d ds u us l l2 ih=>?_) l l2;have e1:US kk (j::ks)=bif Xr j kk then US kk ks else j::US kk ks:=rfl;have e2:Ur kk (j::ks) (d::ds)=bif Xr j kk then Ur kk ks ds else d::Ur kk ks ds:=rfl;obtain⟨us',f1,f2,f3,f4,f5⟩:=ih;(have e3:without ((j,u)::'5') kk=if j=kk then without '5' kk else(j,u)::without '5' kk:=by unfold without;by_cases z:j=kk<;>simp[z]);rw[e1,e2,nX,iM,e3];by_cases z:j=kk;rw[P9 z,ZL];exact#[us',f1,f2,f3,nO f4,λw hw=>aY _ (f5 w hw)];rw[Qb z,ZK];refine#[u::us',by rw[f1];rfl,by simpa using f2,by simpa using f3,by simpa using f4,λw hw=>?_];rcases aT.mp hw with hw | hw;exact hw▸aI;exact aY _ (f5 w hw)
theorem za2:∀{ls:List QK} {es:List D} {vs:List Value} (ks:List QK) (ds:List D) (us:List Value),ks.Nodup->ks.length=ds.length->ds.length=us.length->ls.length=es.length->es.length=vs.length->∃us',merged '5' (ls.zip vs)=(W8 ks ds ls es).1.zip us'/\(W8 ks ds ls es).1.length=(W8 ks ds ls es).2.length/\(W8 ks ds ls es).2.length=us'.length/\us'.length<=us.length+vs.length/\∀w∈(W8 ks ds ls es).2.zip us',w∈es.zip vs\/w∈ϝ:=by intro ls es vs ks ds us nd l l2 m m2;revert ks ds us;refine vw (λks ds us _ l l2=>#[us,rfl,l,l2,by simp,λw z=>.inr z]) (λj ls e es v vs _ _ ih ks ds us nd l l2=>?_) m m2;obtain⟨us1,f1,f2,f3,f4,f5⟩:=FU nd l l2;obtain⟨us2,g1,g2,g3,g4,g5⟩:=ih _ _ _ (zac nd).1 f2 f3;refine#[us2,?_,g2,g3,by simp;lia,λw hw=>?_];show merged (T5 '5' j v) (ls.zip vs)=_;exact f1▸g1;rcases g5 w hw with z | z;exact .inl (aY _ z);rcases f5 w z with z | z;exact .inl (by exact z▸aI);exact .inr z
include Y
theorem NL (ho:QE X o fa)(he:QE X a fb)(hf:QE X b fc)(sm:SM X o "get" av [a,b] aw:=by exact⟨rfl,rfl,rfl,rfl⟩)(h1:[ϴ,[a,b]]=(ff,[Ϭ,a])::[ϴ,[b]]:=by rfl)(h2:[ϴ,[b]]=(ff,[Ϭ,b])::[ϴ,[]]:=by rfl):QE X (.Call [Ot,"get",av] [a,b] [] aw) (Yd fa fb fc):=#[λ{pins ρ h ws s P} z q=>by refine bm wN AO PySem.F.type_dict_get sm ho (p9 he (p9 hf p8 h2) h1) z (q.bnd.mono λx h q=>?_) (G:=λx ys h=>∃y z,ys=[y,z]/\(QL (eK h x) λp=>QL (dk y) λk=>match lk k p.1 p.2 with| some d=>R.ok d h| none=>R.ok z h).sat P X.E) (λz e=>z.tyD e) λ{x u h s ds us} l z #[y,w,ed,q0]=>?_;obtain⟨e,q⟩:=q.i;exact#[e,[O4,λy h q=>R.sat.unb [O4,λw h q=>#[y,w,rfl,q]]]];subst ed;obtain⟨p,e,q1⟩:=q0.o;obtain⟨kk,e2,q2⟩:=q1.o;obtain⟨u1,u2,rfl,z⟩:=two l z;(have hk:[ZC,X.B.w].is kk u1=tj:=by obtain⟨_,_,r⟩:=z.at (d:=y) (u:=u1) (by simp);exact oF r e2);obtain⟨kl,a,us,rfl,l,zz,⟨n,f⟩,z⟩:=z.opD (aY _ (aY _ aI)) e;refine call_meetsIn AO f.typeIs PySem.F.entry_dict_get (PySem.F.args_dict_get_3 _ _ _) (meets_dict_get_default [ZC,X.B.w] a hk n u2) #[_,f.mapOf,?_];rcases vz kk kl l with ⟨a1,a2⟩ | ⟨d,v,a1,a2,a3⟩;rw[a1] at q2;exact a2▸#[_,_,(z.tok _).sub (by simp +contextual [or_imp]),q2];rw[a1] at q2;exact a2▸#[_,_,(z.tok _).sub (by simp +contextual [or_imp,a3]),q2]]
theorem zbv (ho:QE X o fa)(he:QE X a fb)(sm:SM X o "pop" av [a] aw:=by exact⟨rfl,rfl,rfl,rfl⟩)(h1:[ϴ,[a]]=(ff,[Ϭ,a])::[ϴ,[]]:=by rfl):QE X (.Call [Ot,"pop",av] [a] [] aw) (Y4 fa fb):=#[λ{pins ρ h ws s P} z q=>by refine bm wN AP PySem.F.type_dict_pop sm ho (p9 he p8 h1) z (q.bnd.mono λx h q=>?_) (G:=λx ys h=>∃y,ys=[y]/\(QL (Xg h x) λp=>QL (dk y) λk=>QL (lk k p.2.1 p.2.2) λd=>R.ok d (hs h p.1 (.md (US k p.2.1) (Ur k p.2.1 p.2.2)))).sat P X.E) (λz e=>z.tyD e) λ{x u h s ds us} l z #[y,ed,q0]=>?_;obtain⟨e,q⟩:=q.i;exact#[e,[O4,λy h q=>R.sat.unb #[y,rfl,q]]];subst ed;obtain⟨⟨i,ks,ds⟩,e,q1⟩:=q0.o;obtain⟨kk,e2,q2⟩:=q1.o;obtain⟨d,e3,q3⟩:=q2.o;obtain⟨u1,rfl,z⟩:=one l z;(have hk:[ZC,X.B.w].is kk u1=tj/\(keyPart u1).isSome=tj:=by obtain⟨_,_,r⟩:=z.at aI;refine#[oF r e2,?_];cases r<;>first |rfl|cases e2);obtain⟨kl,a,us,rfl,rfl,eh,l,zz,⟨n,f⟩,z⟩:=z.opMd (aY _ aI) e;obtain⟨us',f1,f2,f3,f4,f5⟩:=zaR kl l;rcases vz kk kl l with ⟨a1,a2⟩ | ⟨d',v,a1,a2,a3⟩;rw[a1] at e3;cases e3;rw[a1] at e3;cases e3;refine call_meetsIn AP f.typeIs PySem.F.entry_dict_pop (PySem.F.args_dict_pop_2 _ _) (meets_dict_pop_there [ZC,X.B.w] a hk.1 [] gV hk.2) #[_,v,f,Τ,a2,λh' oY oI=>#[_,_,(z.setD (by simp) eh (λb o hb e=>oI.extBut b o hb e) n (by exact f1▸oY) f2 f3 (by exact b9 f4 zz) (λw hw=>?_) _).sub (by simp +contextual [or_imp,a3]),q3]];exact c9 _ (f5 w hw)]
theorem zbj (ho:QE X o fa)(he:QE X a fb)(sm:SM X o "update" av [a] aw:=by exact⟨rfl,rfl,rfl,rfl⟩)(h1:[ϴ,[a]]=(ff,[Ϭ,a])::[ϴ,[]]:=by rfl):QE X (.Call [Ot,"update",av] [a] [] aw) (rUpd fa fb):=#[λ{pins ρ h ws s P} z q=>by refine bm wN AK PySem.F.type_dict_update sm ho (p9 he p8 h1) z (q.bnd.mono λx h q=>?_) (G:=λx ys h=>∃y,ys=[y]/\(QL (Xg h x) λp=>QL (Xg h y) λr=>Q3 (! Nat.beq p.1 r.1&&(YL p.2.1&&cf (Rx p.2.1+Rx r.2.1) 1000)) (R.ok D.non (hs h p.1 (.md (W8 p.2.1 p.2.2 r.2.1 r.2.2).1 (W8 p.2.1 p.2.2 r.2.1 r.2.2).2)))).sat P X.E) (λz e=>z.tyD e) λ{x u h s ds us} l z #[y,ed,q0]=>?_;obtain⟨e,q⟩:=q.i;exact#[e,[O4,λy h q=>R.sat.unb #[y,rfl,q]]];subst ed;obtain⟨⟨i,ks,ds⟩,e,q1⟩:=q0.o;obtain⟨⟨j,ls,es⟩,e2,q2⟩:=q1.o;obtain⟨eb,q3⟩:=q2.i;simp only[bW,jr] at eb;obtain⟨eb1,eb2,eb3⟩:=eb;obtain⟨u1,rfl,z⟩:=one l z;obtain⟨kl2,a2,vs,rfl,rfl,cO,l2,yX,⟨n2,f2⟩,z⟩:=z.opMd aI e2;obtain⟨kl,a1,us,rfl,rfl,eh,l,zz,⟨n,f⟩,z⟩:=z.opMd (eI _ (aY _ aI)) e;(have ne:a1≠a2:=by cases z with | mk g I p W =>cases W (.at i,.ref a1) (by simp)with | at_ i1 =>cases W (.at j,.ref a2) (by simp)with | at_ i2 =>have r1:=rM eh g I.hk i1;have r2:=rM cO g I.hk i2;rintro rfl;rw[r1] at r2;cases r2;simp[gE] at eb1);obtain⟨us',f3,f4,f5,f6,f7⟩:=za2 _ _ _ (uL eb2) kl l kl2 l2;(have lt:=by simpa [aR] using eb3);(have h1000:1000<=sizeLine:=by decide);refine call_meetsIn AK f.typeIs PySem.F.entry_dict_update (PySem.F.args_dict_update_2 _ _) (meets_dict_update [ZC,X.B.w] a1 a2 ne n2) #[_,_,f,f2,by simp;lia,λh' oY _ oI=>#[_,_,((z.setD (by simp) eh (λb o hb e=>oI.extBut b o hb e) n (by exact f3▸oY) f4 f5 (by lia) (λw hw=>?_) s.toks).sub (by simp +contextual [or_imp])).add λ_=>.non,q3]];rcases f7 w hw with z | z;simp[z];simp[z]]
end
theorem FW {us:ϖ}{lo hi st:Ty}(e:[PH,lo,hi,st]=(a,b,c))(q:(sliceRange a b c).filterMap (us[·]?)=r):Vq us.toArray lo hi st=r.toArray:=by unfold Vq;rw[fR,e];simpa using q
theorem zbo (us:ϖ)(b:Bool):Vq us.toArray (se (if b then 0 else 1)) ng (se 2)=(NAP.Ux b us).toArray:=by(have e2:∀i,[PH,se i,ng,se 2].2.1=us.length:=λi=>by simp[QX]);(have e3:∀i,[PH,se i,ng,se 2].2.2=2:=λi=>by simp[QX]);cases b with| true =>rw[<-(w7 us).1];(have e1:[PH,se 0,ng,se 2].1=0:=by(have:max 0 (min 0 (us.length:Int))=0:=by rfl);simpa [QX] using this);refine FW (a:=0) (b:=us.length) (c:=2) (show[PH,se 0,ng,se 2]=_ from Prod.ext e1 (Prod.ext (e2 0) (e3 0))) ?_;unfold sliceRange;congr 1;(have c:(if(2:Int)>0 then(if(0:Int)<us.length then((us.length:Int)-0+2-1)/2 else 0)else(if(0:Int)>us.length then(0-us.length-2-1)/(-2)else 0)).toNat=(us.length+1)/2:=by rw[P8 (by decide)];split<;>lia);show(aM (vQ _)).map _=_;rw[c];refine cq λk _=>?_;rfl| false =>rw[<-(w7 us).2];rcases pA us.length with z | z;have:us=[]:=nj.mp z;subst this;rfl;(have e1:[PH,se 1,ng,se 2].1=1:=by(have:max (0:Int) (min 1 us.length)=1:=by exact NAG.gl36 z);simpa [QX] using this);refine FW (a:=1) (b:=us.length) (c:=2) (show[PH,se 1,ng,se 2]=_ from Prod.ext e1 (Prod.ext (e2 1) (e3 1))) ?_;unfold sliceRange;congr 1;(have c:(if(2:Int)>0 then(if(1:Int)<us.length then((us.length:Int)-1+2-1)/2 else 0)else(if(1:Int)>us.length then(1-us.length-2-1)/(-2)else 0)).toNat=us.length/2:=by rw[P8 (by decide)];split<;>lia);show(aM (vQ _)).map _=_;rw[c];refine cq λk _=>?_;rfl
theorem zc5:∀{ds:List D} {us:List Value} (b:Bool),ds.length=us.length->(YS ds b).length=(NAP.Ux b us).length/\(NAP.Ux b us).length<=us.length/\∀w∈(YS ds b).zip (NAP.Ux b us),w∈ϝ:=by intro ds us b l;revert b;refine yM (λb=>#[rfl,ϭ,λw z=>by simpa [NAP.Ux] using z]) (λd ds u us _ ih b=>?_) l;cases b with| true =>(obtain⟨h1,h2,h3⟩:=ih ff;refine#[congrArg iP h1,Nat.succ_le_succ h2,λw hw=>?_];rcases aT.mp hw with hw | hw;exact hw▸aI;exact aY _ (h3 w hw))| false =>obtain⟨h1,h2,h3⟩:=ih tj;exact#[h1,nO h2,λw hw=>aY _ (h3 w hw)]
theorem FX {ds:Φ}{us:ϖ}(l:ds.length=us.length)(a b:Nat):((ds.drop a).take b).length=((us.drop a).take b).length/\((us.drop a).take b).length<=us.length/\∀w∈((ds.drop a).take b).zip ((us.drop a).take b),w∈ϝ:=by refine#[by simp[l],by simp;lia,λw hw=>?_];obtain⟨i,hi⟩:=bf hw;rw[bF,nH,nH] at hi;split at hi;rw[tV,tV] at hi;exact[Jv,hi];cases hi.1
inductive OR (X:Cz) (pins:List (Qh×RB)) (ρ:Rb) (ws:WL) (P:Ty->TH->Prop) (u:Value) (s:Qe):Prop
 | mk (o:Ty) (h:TH) (j:J X pins ρ h ws s) (e:IsPart u o) (p:P o h)
structure QO (X:Cz)(e:Option QD)(f:RO):Prop where
 h:∀{pins ρ h ws s P},J X pins ρ h ws s->(f ρ h).sat P X.E->X.wp (evalPart e X.env) (OR X pins ρ ws P) s
section
variable {X:Cz}{k:Nat}[Y:Yx X k] {o a e:QD}{fa:RE}{fl fu:RO}{pos p2:Tx}{m:Bool}{x y:Qi}{i n:Nat}{st:RV}{ρ:Rb}{h:TH}{pins:List (Qh×RB)}{ws:WL}{s:Qe}{ds:Φ}
omit Y
theorem FY:QO X ng rO0:=#[λz q=>by exact Qk #[ng,_,z,.none,q]]
theorem yY (h:QE X a fa):QO X lT (Zp fa):=#[λz q=>by refine Rj (h.h z q.bnd) λu s1 #[x,h1,z,q]=>?_;split at q;obtain⟨t,rfl⟩:=z.int;exact#[_,_,z.tl,.int _ t,q];exact q.elim]
theorem zdY {x:D}(z4:J X pins ρ h ((x,v)::ws) s4)(sl:s4.heap.IsSliceOf sa vl vu .none)(pl:IsPart vl l)(pu:IsPart vu u)(q:(gSl m x l u h).sat P X.E)(hp:∀v,subscripted sli ff v (.ref sa)=operate [.ref sa,v] (getItem v (.ref sa))):X.wp (subscriptTail a sli v (.ref sa)) (RP X pins ρ ws P) s4:=by unfold gSl at q;split at q;rename_i z;obtain⟨hz,q⟩:=q.i;obtain⟨t,rfl⟩:=z4.str;obtain⟨l,rfl,rfl⟩:=part_of pl;obtain⟨u,rfl,rfl⟩:=part_of pu;have hz:=nK hz;refine Vp (typeIs_str s4 z t) AL.lookup (getItem_meets (typeIs_str s4 z t) (by decide) AL PySem.F.entry_str_getitem (PySem.F.args_str_getitem_2 _ _) (meets_str_getitem_slice z t sa l u ng rfl) #[sl,?_]) (hp _);unfold cutTx at hz q;unfold sliceMade slicePicked;by_cases y:((Builtin.Str.strSliceIndices (l.map (·.1)) (u.map (·.1)) 1 z.length).length==z.length)=tj;rw[P8 y] at hz q;rw[P8 (by exact y)];exact#[_,_,z4,q];rw[P7 y] at hz q;rw[P7 (by exact y)];exact#[hz,z4.tl.gstr q];rename_i ds;obtain⟨hw,q⟩:=q.i;obtain⟨c,us,rfl,le,zz,f,z5⟩:=z4.opS aI rfl;(have dR:=by exact fR▸le.symm);refine Vp f.typeIs wM.lookup (NAH.WS f sl pl pu (by rw[dR];simp only[jr,Bool.and_eq_false_iff] at hw;rintro⟨h1,h2⟩;rcases hw with hw | hw<;>simp_all [gE]) ?_ (by exact fR▸zz)) (hp _);rw[dR];obtain⟨g1,g2,g3⟩:=FX le [ZU,0,l] ([ZU,ds.length,u]-[ZU,0,l]);(have z6:J X pins ρ h ((cutD ds l u).zip ((us.drop [ZU,0,l]).take ([ZU,ds.length,u]-[ZU,0,l]))++ws) s4:=z5.sub λw hw=>by rcases dE.mp hw with hw | hw;exact c9 _ (g3 w hw);simp[hw]);exact#[_,_,z6.dat gf (λ_ _=>Heap.get?_push_of_some _) (Heap.get?_push_size _ rfl) (λg A r=>.tup #[_,r,λ_ e=>#[_,e,rfl,_,rfl]] g1 (b9 g2 zz) A) s4.toks,q];rename_i x' n1 n2;obtain⟨ds,e1,q⟩:=q.o;(have nt:ϩ=ff:=by cases x<;>first |rfl|exact[J4,n2 _]);obtain⟨c,us,rfl,le,zz,f,z5⟩:=z4.opS aI e1;rw[nt] at f;obtain⟨n,f⟩:=f;have il:s4.heap.IsList c us.toArray:=#[_,f,rfl,n,rfl];refine Vp il.typeIs slot_list_getitem.lookup (Vf il sl pl pu .none (by simp) ?_ (by exact fR▸zz)) (hp _);rw[zdV,<-le];obtain⟨g1,g2,g3⟩:=FX le [ZU,0,l] ([ZU,ds.length,u]-[ZU,0,l]);(have z6:J X pins ρ h ((cutD ds l u).zip ((us.drop [ZU,0,l]).take ([ZU,ds.length,u]-[ZU,0,l]))++ws) s4:=z5.sub λw hw=>by rcases dE.mp hw with hw | hw;exact c9 _ (g3 w hw);simp[hw]);exact z6.pushL g1 (b9 g2 zz) q s4.toks
theorem zci {lo hi:Option QD}(he:QE X a fa)(hl:QO X lo fl)(hu:QO X hi fu):QE X (.Subscript a (.Slice lo hi ng p2) pos) (rSl m fa fl fu):=#[λ{pins ρ _ ws _ P} z q=>Subscript_ (Rj (he.h z q.bnd) λv s1 #[x,_,z,q]=>wpAny_Slice (Rj (hl.h z q.bnd) λvl s2 #[l,_,z,pl,q]=>Rj (hu.h z q.bnd) λvu s3 #[u,h3,z,pu,q]=>by exact Qk (zdY (z.kept (λ_ _=>Heap.get?_push_of_some _) s3.toks) (Heap.IsSliceOf.new ..) pl pu q λv=>by with_unfolding_all rfl)))]
theorem NS {lo hi st:Option QD}{G:D->Ty->Ty->Ty->TH->Prop}(he:QE X a fa)(hl:QO X lo fl)(hu:QO X hi fu)(hs:QO X st ft)(z:J X pins ρ h ws s)(q:(fa ρ h).sat (λx h=>(fl ρ h).sat (λl h=>(fu ρ h).sat (λu h=>(ft ρ h).sat (λt h=>G x l u t h) X.E) X.E) X.E) X.E) (hG:∀{x l u t h},G x l u t h->t≠se 0/\∃ds:List D,eL h x=Pa/\∀us:ϖ,ds.length=us.length->∃(ds':List D) (us':List Value),Vq us.toArray l u t=us'.toArray/\ds'.length=us'.length/\us'.length<=us.length/\(∀w∈Mr,w∈ϝ)/\(RX.mk m ds' h).sat P X.E) (hp:∀u v,∃ops,subscripted (.Slice lo hi st p2) ff u v=operate ops (getItem u v)):X.wp [Ϭ,.Subscript a (.Slice lo hi st p2) pos] (RP X pins ρ ws P) s :=Subscript_ (Rj (he.h z q) λv s1 #[x,_,z,q]=>wpAny_Slice (Rj (hl.h z q) λvl s2 #[l,_,z,pl,q]=>Rj (hu.h z q) λvu s3 #[u,h3,z,pu,q]=>Rj (hs.h z q) λvt s4 #[t,h4,z,pt,q]=>by have z5:J X pins ρ h4 ((x,v)::ws) { s4 with heap:=s4.heap.push { cls:=.type "slice",data:=.fields ([vl,vu,vt].toArray)}}:=z.kept (λ_ _=>Heap.get?_push_of_some _) s4.toks;obtain⟨t0,ds,e1,q⟩:=hG q;obtain⟨c,us,rfl,le,zz,⟨n,f⟩,z6⟩:=z5.opL aI e1;obtain⟨ds',us',g0,g1,g2,g3,q⟩:=q us le;have il:Heap.IsList (s4.heap.push { cls:=.type "slice",data:=.fields ([vl,vu,vt].toArray)}) c us.toArray:=#[_,f,rfl,n,rfl];obtain⟨ops,hp⟩:=hp KY (.ref s4.heap.objs.size);show Qn [ZV,X.B.w] X.A (subscriptTail a (.Slice lo hi st p2) KY (.ref s4.heap.objs.size)) (RP X pins ρ ws P) X.xe { s4 with heap:=s4.heap.push { cls:=.type "slice",data:=.fields ([vl,vu,vt].toArray)}};refine Vp il.typeIs slot_list_getitem.lookup (Vf il (Heap.IsSliceOf.new ..) pl pu pt t0 ?_ (by exact fR▸zz)) hp;rw[g0];(have z7:J X pins ρ h4 (Mr++ws) { s4 with heap:=s4.heap.push { cls:=.type "slice",data:=.fields ([vl,vu,vt].toArray)}}:=z6.sub λw hw=>by rcases dE.mp hw with hw | hw;exact c9 _ (g3 w hw);simp[hw]);exact z7.pushL g1 (b9 g2 zz) q s4.toks))
theorem NT {i1 i2:Int}{j1 j2:Nat}{q1 q2:Tx}{bb:Bool}(he:QE X a fa)(h1:i1=(if bb then 0 else 1):=by rfl)(h2:i2=2:=by rfl):QE X (.Subscript a (.Slice (se (.Constant (.int i1) j1 q1)) ng (se (.Constant (.int i2) j2 q2)) p2) pos) (Yz m bb fa):=#[λ{pins ρ h ws s P} z q=>by subst h1 h2;refine NS (G:=λx l u t h=>l=se (if bb then 0 else 1)/\u=ng/\t=se 2/\(QL (eL h x) λds=>RX.mk m (YS ds bb) h).sat P X.E) (m:=m) he (yY yL) FY (yY yL) z (q.bnd.mono λx h q=>?_) (λ{x l u t h} #[el,eu,et,q]=>?_) λu v=>#[_,by with_unfolding_all rfl];exact#[rfl,rfl,rfl,q];subst el eu et;obtain⟨ds,e1,q⟩:=q.o;refine#[by simp,ds,e1,λus le=>?_];obtain⟨g1,g2,g3⟩:=zc5 bb le;exact#[_,_,zbo us bb,g1,g2,g3,q]]
end
class IpOk (op:Operator) (f:Int->Int->Int):Prop where
 h:∀{B:Cb} {A:Qs} {E Q s a b t u},Q (.int (f a b) s.toks) { s with toks:=s.toks+1}->Qn (Qt B.P B.w) A (inplaceOp op (.int a t) (.int b u)) Q E s
instance:IpOk .Add tM:=#[λh=>iadd_int h]
instance:IpOk .Sub qy:=#[λh=>isub_int h]
section
variable {X:Cz}{k:Nat}[Y:Yx X k] {o a b e:QD}{fa fb fe:RE}{pos ay:Tx}{x y:Qi}{i j n:Nat}{st:RV}{fs:RS}{ρ ρ':Rb}{h:TH}{pins:List (Qh×RB)}{ws:WL}{s:Qe}{d xx yy:D}{ks:Ϛ}{ds:Φ}{g:Gs}{u v w:Value}{op:Operator}{iop:Int->Int->Int}{P:Fl->TH->Prop}
include Y in
theorem zau (h:QE X e fa)(hi:X.N[i]?=σ:=by rfl)(hx:Loc X.env.scope x:=by first | exact Or.inl rfl | exact qN rfl)(hs:UC e (se [L2,ay]) pos.line X.env=Ij:=by rfl)(hf:X.fn x=tj\/JY=Z6:=by first | exact .inl rfl | exact .inr rfl):QS X (.Assign [[L2,ay]] e pos) [η,fa,i]:=#[λz q=>wpAny_Assign_Name (Rj (h.h z q.bnd) λv s1 #[d,h1,z,q]=>by obtain⟨ρ',e,q⟩:=q.o;cases e;exact z.store Y.nd hi hx hf λs2 z2=>#[_,_,z2,by rw[<-eJ];exact q]) hs]
omit Y
theorem mn (z:J X pins ρ h ws s)(mx:(xx,u)∈ws)(e:UZ h xx=se (i,ds))(lt:m<ds.length)(mv:(d,v)∈ws)(q:∀s',J X pins ρ (hs h i (.ml (WJ ds m d))) ws s'->Q () s'):Qn [ZV,X.B.w] X.A (setItem u (.int m t) v) Q E s:=by obtain⟨a,us,rfl,rfl,eh,l,zz,⟨n,f⟩,z⟩:=z.opM mx e;have hn:=qQ;refine PySem.W.ki_setAt f Τ (by lia) Τ (q _ ?_);rw[eJ];refine(z.lset (us':=us.set m v) (eI _ mx) eh f (by simp) (by simp[l]) (by simpa using zz) (λw hw=>?_) s.toks).sub λw hw=>eI _ hw;obtain⟨i,hi⟩:=bf hw;rw[bF,ph,ph] at hi;split at hi;split at hi;obtain⟨h1,h2⟩:=hi;cases c8 h1;cases c8 h2;exact eI _ mv;have:=hi.2;cases this;exact c9 _ [Jv,hi]
theorem zb1 (z:J X pins ρ h ((yy,w)::(xx,u)::(d,v)::ws) s)(q:(gSet xx yy d ρ h).sat P X.E)(k:∀s' h',J X pins ρ h' ws s'->P NC h'->Q () s'):Qn [ZV,X.B.w] X.A (setItem u w v) Q E s:=by unfold gSet at q;split at q;obtain⟨⟨i,ds⟩,e,q⟩:=q.o;obtain⟨lt,q⟩:=q.i;obtain⟨t,rfl⟩:=z.int;exact mn z (by simp) e (by rw[aR] at lt;simpa [bR] using lt) (by simp) λs' z=>k s' _ (z.sub (by simp +contextual [or_imp])) q;exact q.elim
theorem zb2 (z:J X pins ρ h ((yy,w)::(xx,u)::(d,v)::ws) s)(q:(gDput xx yy d ρ h).sat P X.E)(k:∀s' h',J X pins ρ h' ws s'->P NC h'->Q () s'):Qn [ZV,X.B.w] X.A (setItem u w v) Q E s:=by obtain⟨⟨i,ks,ds⟩,e,q1⟩:=q.o;obtain⟨kk,e2,q2⟩:=q1.o;obtain⟨eb,q3⟩:=q2.i;rw[bW] at eb;(have hk:[ZC,X.B.w].is kk w=tj:=by obtain⟨_,_,r⟩:=z.at aI;exact oF r e2);obtain⟨kl,a,us,rfl,rfl,eh,l,zz,⟨n,f⟩,z⟩:=z.opMd (aY _ aI) e;obtain⟨us',f1,f2,f3,f4,f5⟩:=FU (uL eb.1) kl l;(have lt:=by have:=eb.2;rw[aR] at this;simpa [bR] using this);have:=yW;refine wpAny_setItem_pairs hk f (λh' oY oI=>k _ _ ((z.setD (by simp) eh (λb o hb e=>oI.extBut b o hb e) n (by exact f1▸oY) f2 f3 (by lia) (λw hw=>?_) _).sub (by simp +contextual [or_imp])) q3) Τ;rcases f5 w hw with z | z;simp[z];exact c9 _ z
theorem zaN (hv:QE X e fe)(ho:QE X o fa)(hi:QE X a fb)(hs:UC e (se (.Subscript o a ay)) pos.line X.env=Ij:=by rfl):QS X (.Assign [.Subscript o a ay] e pos) (XE fe fa fb):=#[λ{pins ρ h ws s P} z q=>wpAny_Assign_Subscript (Rj (hv.h z q.bnd) λv s1 #[d,_,z,q]=>Rj (ho.h z q.bnd) λu s2 #[x,_,z,q]=>Rj (hi.h z q.bnd) λw s3 #[y,h3,z,q]=>by have k:∀s' h',J X pins ρ h' ws s'->P NC h'->SR X pins ws P Flow.next s':=λs' h' z p=>#[_,h',z,p];cases hd:Yg x h3 with| true=>rw[hd] at q;exact zb2 z q k| false=>rw[hd] at q;exact zb1 z q k) hs]
theorem zad [I:IpOk op iop] (ho:QE X o fa)(hi:QE X a fb)(he:QE X e fe)(ha:∀ov iv new,augStore a ov iv new=(do holding [new,ov,iv] (setItem ov iv new);release [new,ov,iv] [];pure .next):=by intros;rfl):QS X (.AugAssign (.Subscript o a ay) op e pos) (XH iop fa fb fe):=#[λz q=>wpAny_AugAssign_SubscriptAny (Rj (ho.h z q.bnd) λu s1 #[x,_,z,q]=>Rj (hi.h z q.bnd) λw s2 #[y,h2,z,q]=>by split at q;rename_i m;obtain⟨⟨i,ds⟩,e,q1⟩:=q.o;obtain⟨d0,e1,q2⟩:=q1.o;obtain⟨n,e2,q3⟩:=q2.o;obtain⟨t,rfl⟩:=z.int;obtain⟨c,us,rfl,l,zz,⟨n',f⟩,z'⟩:=z.opL (aY _ aI) (rX e);rw[aW] at e1;obtain⟨v0,e3,z1⟩:=z'.item l e1;have hn:=qQ;have lt:='@'.1;(have lt2:=by exact l▸lt);refine wpAny_getItem_list #[_,f,rfl,n',rfl] Τ (by lia) (by simpa using e3) ?_;(have hv:∃t,v0=.int n t:=by obtain⟨_,_,r⟩:=z1.at aI;cases r<;>first |(cases e2;exact#[_,rfl])|cases e2);obtain⟨t0,rfl⟩:=hv;refine Rj (he.h z1 q3.bnd) λv4 s4 #[d4,h4,z4,q4]=>?_;obtain⟨n4,e4,q5⟩:=q4.o;obtain⟨⟨i5,ds5⟩,e5,q6⟩:=q5.o;obtain⟨lt5,q7⟩:=q6.i;(have hv:∃t,v4=.int n4 t:=by obtain⟨_,_,r⟩:=z4.at aI;cases r<;>first |(cases e4;exact#[_,rfl])|cases e4);obtain⟨t4,rfl⟩:=hv;refine I.h ?_;refine mn ((z4.tok (s4.toks+1)).add λ_=>.int) (by simp) e5 (by rw[aR] at lt5;simpa [bR] using lt5) aI λs' z=>#[_,_,z.sub (by simp +contextual [or_imp]),q7];exact q.elim) ha]
theorem Iv.ren (I:Iv X g ρ h s)(l:ρ'.length=ρ.length)(f:∀(i:Nat) d',ρ'[i]?=se (se d')->∃d,ρ[i]?=Nd/\∀u,DU X.B g d u->DU X.B g d' u):Iv X g ρ' h s :=#[I.ok,I.os,I.bare,I.hk,I.bs,I.kp,I.ip,I.lf,by obtain⟨m,a,b⟩:=I.lc;exact#[m,a,λi x d e1 e2 e3=>let #[d0,g1,g2]:=f i d e2;let #[u,r,lk]:=b i x d0 e1 g1 e3;#[u,g2 u r,lk]],I.ce,by exact l▸I.len]
theorem J.frzN (j:J X pins ρ h ws s)(e:ρ[i]?=Nd)(e2:Xg h d=se (jj,ks,ds)):J X pins (WJ ρ i (se (.dic ks ds))) (hs h jj .no) ws s:=by(have bn:d=.at jj/\h[jj]?=se (.md ks ds):=by unfold Xg at e2;split at e2;split at e2;rename_i e1;cases e2;rw[aW] at e1;exact#[rfl,e1];cases e2;cases e2);obtain⟨rfl,eh⟩:=bn;cases j with | mk g I p W =>(have lt:=by exact I.hk.len▸'F'.1);have e0:g.ι[jj]?=se g.ι[jj]:=aJ lt;generalize g.ι[jj]=a at e0;cases[Jp,_,_,_,eh]with | md r dd ns kl l z A =>obtain⟨o,es,ep,e1,e3⟩:=id dd;obtain⟨x,q⟩:=I.hk.gone e1 r;have gr:Gr g (g.upd a ZT):=#[λb r' z f=>by(have n:b≠a:=by rintro rfl;rw[r] at z;cases z;rcases f with f | f<;>cases f);rwa [Oc],x.i];rw[show hs h jj .no=h.set jj .no from eJ _ _ _,eJ];have I2:=I.go gr q (λ_ _ _ e=>e) s.toks;refine#[_,I2.ren (by simp) λi' d' e'=>?_,λy z=>gr.f _ _ (p y z) gV,x.held W];rw[ph] at e';split at e';rename_i ei;subst ei;split at e';cases c8 e';refine#[_,e,λu du=>?_];(cases du with | at_ e4 =>have e4:g.ι[jj]?=se _:=e4;rw[e0] at e4;cases e4;exact .dic #[o,Gs.upd_same,λ_ e=>#[o,es,ep,e,e3]] ns kl l z (x.held A));cases e';exact#[d',e',λ_ z=>z]
theorem zcb (ly:QS X st fs):QS X st (YK i fs):=#[λ{pins ρ h ws s P} z q=>Rj (ly.h z q.bnd) λf s1 t=>by cases f with| next =>(obtain⟨ρ1,h1,z1,q1⟩:=t;replace q1:(match eg ρ1 i with| some (se d)=>QL (Xg h1 d) λp=>R.ok (Fl.nx (WJ ρ1 i (se (.dic p.2.1 p.2.2)))) (hs h1 p.1 .no)| _=>R.no).sat P X.E:=q1;split at q1;rename_i d e;rw[aW] at e;obtain⟨⟨jj,ks,ds⟩,e2,q2⟩:=q1.o;exact#[_,_,z1.frzN e e2,q2];exact q1.elim)| ret v=>obtain⟨d,ρ1,h1,z1,q1⟩:=t;exact#[d,ρ1,h1,z1,q1]| brk=>exact t.elim| cont=>exact t.elim]
include Y
end
end NAL.RZ
namespace NAL.EX
open PySem PySem.Spec PyProof.Rows
section
end
section
end
section
variable {prog:Qv}{w:Q0}{A:Qs}{E:Value->Qe->Prop}{s:Qe}
theorem FZ {b:Nat}{p q:Bool×Qh}(hh:A.handled=ng)(hp:p.2<b)(hq:q.2<b)(st:Yu b [p,q] k s.heap)(hx:[Ϲ,p.1,p.2,xs])(hy:[Ϲ,q.1,q.2,ys]) (hQ:∀h' x y,xs[k]?=σ->ys[k]?=Ϥ->Yu b [p,q] (k+1) h'->jf h' s.heap.objs.size [x,y]->h'.objs.size=s.heap.objs.size+1->Kept b 2 s.heap h'->Q (se PM) { s with heap:=h'}) (hE:xs[k]?=ng\/ys[k]?=ng->∀h',Kept b 2 s.heap h'->Q ng { s with heap:=h'}):Qn [ϔ,w] A (pyNext (.ref (b+4))) Q E s:=by refine Bv (xss:=λj=>if j=0 then xs else ys) hh (by simp) (by exact Nat.le_add_left ..) (λr hr=>?_) st (λi r hr=>?_) (λh' au vl vx z t sz kk=>?_) λhex h' kk=>hE ?_ h' kk;simp only[aT,dQ,or_false] at hr;rcases hr with rfl | rfl<;>assumption;rcases i with _ | _ | i<;>cases hr;exact hx;exact hy;rcases au with _ | ⟨x,_ | ⟨y,_ | _⟩⟩<;>simp at vl;exact hQ h' x y (vx 0 (by exact lV _)) (vx 1 (by exact iO _)) z t sz kk;obtain⟨i,hi,e⟩:=hex;rcases i with _ | _ | i;exact .inl e;exact .inr e;exact absurd hi (by simp)
end
end NAL.EX
namespace PySem
theorem N1:[Mg,"zip","keys"]=KC:=by kernel_rfl
theorem zak:[Mg,"zip","__getattr__"]=KC:=by kernel_rfl
theorem N3:entryFor table "zip.__getattribute__"=se Builtin.«object.__getattribute__»:=entryFor_alias (id':="object.__getattribute__") (by kernel_rfl) (by decide +kernel) (by decide +kernel) (by kernel_rfl)
theorem N4 (a:Qh)(vs:TT)(u:Tok):Meets (Builtin.«object.__getattribute__» #[[ύ,.str "keys" u],[]]) (λA R s=>Z5=se { cls:=.type "zip",dict:=ng,data:=Lx,slots:=([].toArray)}/\raisesAttr ύ "keys" A R s) :=Meets.of_wp λprog w A R s #[hx,hs]=>by obtain⟨hp,g,d,tk,os⟩:=s;have hT:(#[hp,g,d,tk,os]:Qe).TypeIs ύ "zip":=#[_,hx,rfl];have hmiss:=N1;unfold Builtin.«object.__getattribute__»;(repeat(any_goals(first |assumption|wp_step)));all_goals exact wpAny_raiseAttrError hs.1 hs.2 (attrMsg_fits (by decide +kernel) (by size_fits))
section
variable {prog:Qv}{w:Q0}{A:Qs}{E:Value->Qe->Prop}{s:Qe}
theorem getAttr?_keys_zip (hx:Z5=se { cls:=.type "zip",dict:=ng,data:=Lx,slots:=([].toArray)})(hA:A.handled=ng) (h:∀h' tk,(∀b ob,ϣ=Lj->JK=Lj)->Q ng { s with heap:=h',toks:=tk}) :Qn [ϔ,w] A (getAttr? ύ "keys") Q E s:=by obtain⟨hp,g,d,tk,os⟩:=s;have hT:∀bi,(#[hp,g,d,bi,os]:Qe).TypeIs ύ "zip":=λ_=>#[_,hx,rfl];have f1:=sub_AttributeError;have f3:=F.slot_zip_getattribute.lookup;have f4:=F.slot_zip_getattribute.bind ύ;have f5:=zak;unfold getAttr? getAttrBy? getAttrBy;(repeat(any_goals(first |assumption|exact hT _|((with_reducible show Qn _ _ (call (Value.builtin "zip.__getattribute__") _ _) _ _ _);refine S6 F.slot_zip_getattribute (hT _) N3 (F.args_zip_getattribute_2 _ _) (N4 a vs _) #[hx,hA,λh' bi e hZ=>?_])|wp_step)));obtain⟨t',u',he⟩:=hZ.there;show Qn _ _ (Tk _ _ _ _ _ _ _) _ _ _;unfold Tk;(repeat(any_goals(first |assumption|wp_step)));exact h h' bi hZ.keeps
end
end PySem
namespace NAL.EX
open PySem PySem.Spec PyProof.Rows
section
variable {prog:Qv}{w:Q0}{K:Type}[DecidableEq K] {knd:KeyKind prog w K}
structure ZPairs (knd:KeyKind prog w K)(xs ys:TT)(ps:List (K×Value)):Prop where
 at_:∀(j:Nat) p,ps[j]?=ο->∃bn,xs[j]?=se bn/\ys[j]?=se p.2/\knd.is p.1 bn=tj
 end_:xs[ps.length]?=ng\/ys[ps.length]?=ng
theorem zbs {b:Nat}{p q:Bool×Qh}(hA:A.handled=ng)(zp:ZPairs knd xs ys ps)(hp:p.2<b)(hq:q.2<b)(st:Yu b [p,q] 0 s.heap)(h1:[Ϲ,p.1,p.2,xs])(h2:[Ϲ,q.1,q.2,ys])(hz:ps.length<=sizeLine) (h:∀h' tk,[HI,knd,putAll [] ps]->(∀c o,c<b->ZZ=Υ->ZP=Υ)->Q PM { s with heap:=h',toks:=tk}) :Qn [ϔ,w] A (call (.type "dict") [.ref (b+4)]) Q E s:=by obtain⟨f0,f1,hf,hz0⟩:=st.zip;have hd:b+4<s.heap.objs.size:=Heap.lt_size hz0;have K:∀{c:Qh} {h h':QF},Kept b 2 h h'->¬(b<=c/\c<=b+4)->∀o,G8=Υ->ZP=Υ:=λ{c h h'} k hc o ho=>k c o (by unfold Kp;lia) ho;refine BO (fp:=λc=>b<=c/\c<=b+4) hA hz0 rfl hz (by decide) getAttr?_keys_zip (λs2 k lt hQ=>uv (st.keep λc _ _ o ho=>k c o ho) (hQ _ _ (λi h=>Yu b [p,q] i h/\SeqAt p.1 h p.2 xs/\SeqAt q.1 h q.2 ys) #[λz=>by lia,?_,?_,?_] #[st.keep λc _ _ o ho=>k c o ho,h1.at λo ho=>k _ _ ho,h2.at λo ho=>k _ _ ho] λ_ _ ho=>ho)) λh' tk hd k=>h h' tk hd λc o hc ho=>k c o (λz=>by lia) ho;intro i h h'#[a,b,c]kk;exact#[a.keep λc _ hc o ho=>kk _ _ (cI (gz hc hd)) ho,b.at λo ho=>kk _ _ (cI (by lia)) ho,c.at λo ho=>kk _ _ (cI (by lia)) ho];intro i r A s Q E hA hr#[a,b,c]hQ;obtain⟨bn,g1,g2,g3⟩:=zp.at_ i r hr;refine FZ hA hp hq a b c (λh' x y e1 e2 fD tT sz kk=>?_) λhex=>?_;rw[g1] at e1;rw[g2] at e2;cases e1;cases e2;exact hQ h' _ _ _ bn #[fD,b.at λo ho=>kk _ _ (.inl hp) ho,c.at λo ho=>kk _ _ (.inl hq) ho] tT rfl rfl g3 λc o hc ho=>K kk hc o ho;rw[g1,g2] at hex;rcases hex with z | z<;>cases z;intro A s Q E hA#[a,b,c]hQ;refine FZ hA hp hq a b c (λh' x y e1 e2 _ _ _ _=>?_) λ_ h' kk=>hQ h' λc o hc ho=>K kk hc o ho;rcases zp.end_ with z | z;rw[z] at e1;cases e1;rw[z] at e2;cases e2
end
section
end
section
end
noncomputable def seen:Χ->Χ:=List.foldl (λacc k=>if k∈acc then acc else acc++[k]) []
theorem yZ (l:Χ)(k:Qi):seen (l++[k])=if k∈seen l then seen l else seen l++[k]:=by unfold seen;simp_all
theorem F3 (P:Χ->Prop)(h0:P [])(hs:∀l k,P l->P (l++[k]))(l:Χ):P l:=by(have:∀n l,l.length=n->P l:=λn=>by induction n with| zero=>simp_all| succ n ih =>intro l hl;(have c7:l ≠ []:=λz=>by simp_all);rw[<-zV c7];simp_all);simp_all
theorem F4 (l:Χ):k∈seen l↔k∈l:=by induction l using F3 with| h0=>rfl| hs l j ih =>rw[yZ,dE];split;rename_i z;rw[ih,cT];exact#[.inl,λq=>q.elim id λe=>e▸ih.mp (e▸z)];rw[dE,ih]
theorem zbq (l:Χ):(seen l).length<=l.length/\((seen l).length<l.length↔¬l.Nodup):=by induction l using F3 with| h0=>exact#[bG _,by trivial]| hs l j ih =>obtain⟨a,b⟩:=ih;rw[yZ,kD,eU];split;rename_i z;refine#[by exact nO a,λ_ q=>q.2.2 j ((F4 l).mp z) j (cT.mpr rfl) rfl,λ_=>by exact ue a];rename_i z;refine#[by simp;assumption,λq=>?_,λq=>?_];have:=b.mp (by simp at q;assumption);exact λw=>this w.1;have:=λw=>q #[w,by simp,λx hx y hy e=>z ((F4 l).mpr (by rwa [<-cT.mp hy,<-e]))];have:=b.mpr this;simp;assumption
section
variable {prog:Qv}{w:Q0}
theorem F5 {h h':QF}(x:h.SetOf [PU,w] S f n)(k:∀o,h.get? S=Υ->h'.get? S=Υ):h'.SetOf [PU,w] S f n:=by obtain⟨o,es,ep,t,ho,r⟩:=x;exact#[o,es,ep,t,k o ho,r]
theorem zbu (S it l:Qh)(items:TT)(ks:Χ)(hk:∀(j:Nat) k,ks[j]?=se k->∃t,items[j]?=se (.str k t))(hn:items.size=ks.length)(hb:ks.length+1<scanBound)(h1:S≠it)(h2:S≠l)(h3:it≠l)(n:Nat) :∀i s A R,ks.length-i=n->i<=ks.length->A.handled=ng->s.heap.IsListIter it l i->s.heap.IsList l items->s.heap.SetOf [PU,w] S (λk=>decide (k∈seen Wm)) (seen Wm).length->(∀h' tk,h'.SetOf [PU,w] S (λk=>decide (k∈'6')) '6'.length->(∀b o,b≠S->b≠it->ϣ=Υ->JK=Υ)->R (.ok (.ret .none)) { s with heap:=h',toks:=tk})->UA [ϔ,w] A (.builtin "set.update.loop" #[[.ref S,ZI],[]]) R s:=by induction n with| zero =>intro i s A R hi hl hA c4 hls hS hR;(have e:i=ks.length:=by lia);subst e;refine Ti F.entry_set_update_loop ?_;rw[Around.under_plainId F.plain_set_update_loop _];refine Qd (TY (show A.in1.handled=ng from hA) c4 hls (by simp[hn]) λh' eb=>Qk ?_);rw[kE] at hS;exact hR h' s.toks (F5 hS λo ho=>eb _ _ h1 ho) λb o _ hb ho=>eb b o hb ho| succ n ih =>intro i s A R hi hl hA c4 hls hS hR;(have eX:i<ks.length:=by lia);obtain⟨k,hki⟩:∃k,ks[i]?=se k:=#[_,aJ eX];obtain⟨t,ht⟩:=hk i k hki;(have et:ks.take (i+1)=ks.take i ++ [k]:=by obtain⟨y1,y2⟩:=aH.mp hki;rw[pq,hki];rfl);refine Ti F.entry_set_update_loop ?_;rw[Around.under_plainId F.plain_set_update_loop _];refine Qd (TJ c4 hls ht λh' hit' sb=>?_);refine Qd (Sf ?_);unfold setAdd;(have iz:=by show Value.isStrOf k (.str k t)=tj;simp[Value.isStrOf]);refine Sf (Qd ((strKind prog w).pyHash iz ?_));(have sj:(seen (ks.take i)).length+1<scanBound:=by have:=(zbq (ks.take i)).1;rw[h8] at this;lia);refine wpAny_setAddHashed_of iz rfl (F5 hS λo ho=>(sb.2 S h1).trans ho) sj λjN iG i3=>?_;(have hS3:jN.SetOf (strKind prog w) S (λj=>decide (j∈seen (ks.take (i+1)))) (seen (ks.take (i+1))).length:=by rw[et,yZ];refine SetOf_congr i3 (λj=>?_) ?_;by_cases z:k∈seen (ks.take i);rw[P8 z];by_cases y:j=k;subst y;simpa using z;simp[y];rw[P7 z];simp_all;by_cases z:k∈seen (ks.take i);simp[z];simp[z]);have up:∀b o,b≠S->b≠it->s.heap.get? b=se o->jN.get? b=se o:=λb o b1 b2 ho=>(iG.2 b b1).trans ((sb.2 b b2).trans ho);exact Qk #[plainId_quiet F.plain_set_update_loop _,ih (i+1) _ A R (by lia) eX hA (hit'.at λo ho=>(iG.2 it (Ne.symm h1)).trans ho) (hls.at λo ho=>up l o (Ne.symm h2) (Ne.symm h3) ho) hS3 λh4 tk hS4 k4=>hR h4 tk hS4 λb o b1 b2 ho=>k4 b o b1 b2 (up b o b1 b2 ho)]
variable {A:Qs}{E:Value->Qe->Prop}{s:Qe}
set_option maxHeartbeats 3200000 in
theorem N8 {l:Qh}{items:TT}{ks:Χ}{Q:Value->Qe->Prop}(hh:A.handled=ng)(hl:s.heap.IsList l items)(hk:∀(j:Nat) k,ks[j]?=se k->∃t,items[j]?=se (.str k t))(hn:items.size=ks.length)(hb:ks.length+1<scanBound)
  (h:∀(h':QF) (tk:Nat),h'.SetOf [PU,w] s.heap.objs.size (λk=>decide (k∈'6')) '6'.length->(∀b o,ϣ=Υ->JK=Υ)->Q PM { s with heap:=h',toks:=tk}) :
  Qn [ϔ,w] A (call (.type "set") [HN]) Q E s:=by
 obtain⟨c,tl,hmro⟩:=F.called_set.mro;have g1:=F.called_set.made;have g2:=F.called_set.sub
 have g3:=F.called_set.notType;have g4:=F.called_set.canCreate
 have g5:=F.typeCall_set_1 HN;refine wpAny_call (codeAny_of_tree (?_:Qn _ _ (callAny (.type "set") _) _ _ _));refine Qk #[Code.quiet_builtin _ (by decide +kernel),Ti F.entry_type_call ?_]
 rw[Around.under_plain (weight_type_call_type "set" [HN] []) rfl]
 repeat(any_goals(first |assumption|wp_step))
 let so:Bool->RB:=λhW=>{ cls:=.type "set",dict:=ng,data:=.set ([].toArray) 0 (.fresh 0 0 hW)}
 refine Sz (code_set_new_1 HN (E:=E) (Q₁:=λobj s₁=>∃hW:Bool,obj=PM/\s₁={ s with heap:=[Ja,hW]}) λhW=>#[hW,rfl,rfl]) λr s₁ hr=>?_
 cases r with
 | error e=>exact hr
 | ok fl =>
  cases fl with
  | ret obj =>
   obtain⟨hW,rfl,rfl⟩:=hr;have hS:[Ja,hW].get? s.heap.objs.size=se (so hW):=Heap.get?_push_size _ rfl;have hT:Shared.TypeIs { s with heap:=[Ja,hW]} PM "set":=#[_,hS,rfl]
   have g6:=F.called_set.init.lookup;have g7:=F.called_set.init.bind PM
   repeat(any_goals(first |assumption|wp_step))
   refine Sz (codeAny_call_builtin (R:=wants (λr s₂=>r=.none/\∃h' tk,s₂={ s with heap:=h',toks:=tk}/\h'.SetOf [PU,w] s.heap.objs.size (λk=>decide (k∈'6')) '6'.length/\∀b o,ϣ=Υ->JK=Υ) E) F.called_set.init.plain F.entry_set_init (check_set_init_1 hT ?_)) λr₂ s₂ hr₂=>?_
   .obtain⟨⟨oc,od,ot,os'⟩,hol,sQ,nl,hdl⟩:=hl;dsimp only at sQ hdl;subst sQ hdl;have low:∀(b:Qh) o,ϣ=Υ->b<s.heap.objs.size:=λb o ho=>Hm;have hlS:=low _ _ hol
    have hol':[Ja,hW].get? l=se #[.type "list",od,.seq items nl,os']:=Heap.get?_push_of_some _ hol;have z1:=F.sub_list_set
    have z2:=F.sub_list_frozenset;have z3:(Value.type "list"==Value.type "dict")=ff:=by decide
    have iy:[Ja,hW].IsList l items:=#[_,hol',rfl,nl,rfl];unfold Builtin.«set.__init__» noKeywords Builtin.Frozenset.updateFrom;generalize hPI:pyIter=PI
    wp_walk
    subst hPI;refine Rd iy (Qd (wpAny_runValue ?_));have ez:[Ja,hW].objs.size=s.heap.objs.size+1:=Heap.size_push ..;have gS:([Ja,hW].push { cls:=.type "list_iterator",data:=.fields ([HN,.int 0 0].toArray)}).get? s.heap.objs.size=se (so hW):=Heap.get?_push_of_some _ hS
    refine zbu s.heap.objs.size [Ja,hW].objs.size l items ks hk hn hb (by rw[ez];exact cI (iO _)) (eV hlS) (by rw[ez];exact eV (e9 hlS)) _ 0 _ _ _ rfl (jb _) (show A.in1.in1.in1.handled=ng by simp[hh]) #[_,Heap.get?_push_size _ rfl,rfl,rfl] (iy.push _)
     (SetOf_congr ((setObjOf_fresh (knd:=[PU,w]) hW).setOf gS (by unfold scanBound;lia)) (λj=>(Qb (by simp[seen])).symm) rfl) λh4 tk hS4 k4=>?_
    refine Qk ?_;show Qn _ _ (ret Value.none) _ _ _;exact Qk #[rfl,h4,tk,rfl,hS4,λb o ho=>k4 b o (cI (low _ _ ho)) (by rw[ez];exact cI (e9 (low _ _ ho))) (Heap.get?_push_of_some _ (Heap.get?_push_of_some _ ho))]
   .cases r₂ with
    | error e=>exact hr₂
    | ok f₂ =>
     cases f₂ with
     | ret r =>
      obtain⟨rfl,h',tk,rfl,hS',cN⟩:=hr₂
      repeat(any_goals(first |assumption|wp_step))
      exact h _ _ hS' cN
     | _=>exact hr₂.elim
  | _=>exact hr.elim
end
theorem N9:QR "set"=[JF,"set"]:=by decide +kernel
section
end
end NAL.EX
namespace NAL.RZ
open PySem PySem.Spec PyProof.Rows NAL NAL.EX NAL.RX
section
variable {X:Cz}{k:Nat}[Y:Yx X k] {o a b e:QD}{es:Ia}{fa fb:RE}{fA:RA}{pos aA p p1 p2 q0:Tx}{x y:Qi}{i j n nc:Nat}{ρ:Rb}{h:TH}{pins:List (Qh×RB)}{ws:WL}{s:Qe}{d xx:D}{ks:Ϛ}{ds:Φ}{us:ϖ}{g:Gs}{u v w:Value}{P:D->TH->Prop}{m:Bool}{H':QF}{E:Value->Qe->Prop}{B:Cb}
theorem F6:1000<=sizeLine:=by decide
omit Y
theorem kds_len:∀ks:Ϛ,(kds ks).length=ks.length| []=>rfl| k::ks=>congrArg iP (kds_len ks)
theorem F7:∀{ks:List QK} {i:Nat},(kds ks)[i]?=ks[i]?.map kd| [],i=>by simp[kds]| k::ks,0=>rfl| k::ks,i+1=>by have:kds (k::ks)=kd k::kds ks:=rfl;rw[this,tP,tP];exact F7
theorem J.adds (z:J X pins ρ h ws s)(l:ds.length=us.length)(f:∀(i:Nat) d u,ds[i]?=Ϡ->us[i]?=TG->∀g,DU X.B g d u):J X pins ρ h (ϝ++ws) s:=by cases z with | mk g I p W =>refine#[g,I,p,jK (λw hw=>?_) W];obtain⟨i,hi⟩:=bf hw;rw[bF] at hi;exact f i _ _ hi.1 hi.2 g
theorem J.keysL {vs:ϖ}(z:J X pins ρ h ws s)(kl:ks.length=vs.length)(zz:vs.length<=sizeLine)(hk:∀b o,ϣ=Υ->'&'=Υ)(hS:H'.get? s.heap.objs.size=se { cls:=.type "list",dict:=ng,data:=.seq acc cc,slots:=([].toArray)})(iw:ItemsOf (λi v=>∃k x,'!'[i]?=se (k,x)/\[ZC,X.B.w].is k v=tj) acc '!'.length)(q:(RX.mk m (kds ks) h).sat P X.E):RP X pins ρ ws P PM { s with heap:=H',toks:=tk}:=by(have la:acc.toList.length=ks.length:=by have:=iw.1;simp[this,kl]);refine(z.adds (by rw[kds_len,la]) λi d u e1 e2 g=>?_).mkL (by rw[kds_len,la]) (by rw[la,kl];exact zz) gf hk (by exact hS) q tk;rw[F7,jc] at e1;obtain⟨k,e3,rfl⟩:=e1;obtain⟨k',x',e4,e5⟩:=iw.2 i u (by simpa using e2);rw[bF,e3] at e4;cases e4.1;exact FH e5
include Y
instance:BOk X "list" (V6 m):=#[_,Fr,Ba,.inr #[_,rfl],λ{pins ρ h ws s P ds us} l0 z q=>by unfold V6 at q;split at q;rename_i x;obtain⟨u,rfl,z⟩:=one l0 z;split at q;rename_i p e1;obtain⟨kl,a,us,rfl,l,zz,⟨n,dd⟩,_⟩:=z.opD aI e1;obtain⟨od,es,ep,g1,g2,g3,g4⟩:=id dd;exact PySem.W.kdl_call (PySem.W.kdl_dict n) (z.hd Y) (show s.heap.DictAt [ZC,X.B.w] a _ ep from#[od,es,g1,g2,g3,g4]) (by simp;simp_all) λh' tk acc cc hk hS iw=>z.tl.keysL (by rw[kl,l]) zz hk hS iw q;obtain⟨ds,e1,q⟩:=q.o;obtain⟨a,us,rfl,l,zz,f,z2⟩:=z.opS aI e1;have fin:∀h' c',(∀b o',ϣ=se o'->JK=se o')->h'.get? s.heap.objs.size=se { cls:=.type "list",dict:=ng,data:=.seq us.toArray c',slots:=([].toArray)}->RP X pins ρ ws P PM { s with heap:=h'}:=λh' c' kp e=>(z2.sub (by simp +contextual [or_imp])).mkL l zz gf kp e q s.toks;(cases ht:ϩ with| true=>rw[ht] at f;obtain⟨o,ho,hc,n,hd⟩:=f;exact call_list_seq a Mi ho hc hd fin (by exact zz)| false=>rw[ht] at f;obtain⟨n,f⟩:=f;exact call_list_seq a gV f rfl rfl fin (by exact zz));exact q.elim]
omit Y
include Y
omit Y
theorem zbf {kk:QK}(n:kk∉r.map (·.1)):T5 r kk v=r++[(kk,v)]:=by unfold T5;rw[P7];simp only[ia,decide_eq_true_eq,not_exists,not_and];exactλx hx e=>n (by exact e▸tS hx)
theorem zc3:∀{r acc:List (QK×Value)},((acc++r).map (·.1)).Nodup->putAll acc r=acc++r:=by intro r;induction r with| nil =>rintro acc _;rw[lN];rfl| cons p r ih =>rintro acc nd;(have e:T5 acc p.1 p.2=acc ++ [p]:=zbf λz=>by rw[cP,kD] at nd;exact nd.2.2 _ z _ (by simp) rfl);show putAll (T5 acc p.1 p.2) r=_;rw[e,ih (by simpa using nd)];simp
theorem F8 (nd:ks.Nodup)(l:ks.length=us.length):putAll [] '5'='5':=by have:=zc3 (r:='5') (acc:=[]) (by simpa [FS l] using nd);exact this
theorem J.newD {vs:ϖ}(z:J X pins ρ h (ds.zip vs++ws) s)(kl:ks.length=ds.length)(l:ds.length=vs.length)(zz:vs.length<=sizeLine)(hk:∀b o,ϣ=Υ->'&'=Υ)(dd:H'.DictOf [ZC,X.B.w] s.heap.objs.size '!')(q:(RX.mkD m ks ds h).sat P X.E):RP X pins ρ ws P PM { s with heap:=H',toks:=tk} :=z.mkD kl l zz gf hk z.big dd q tk
theorem za0 (W:Hk B g h s.heap):∀{ds:List D} {us:List Value} {ks:List QK} {es:List D},QJ prK ds=se ks->QJ prV ds=se es->ds.length=us.length->cF B g ϝ->∃vs:List Value,ks.length=es.length/\es.length=vs.length/\ds.length=vs.length/\cF B g (es.zip vs)/\∀(j:Nat) p,'!'[j]?=ο->∃t bn,us[j]?=[ZN,t]/\s.heap.IsTuple t ([bn,p.2].toArray)/\(Ra B.P B.w).is p.1 bn=tj:= by intro ds;induction ds with| nil=>intro us ks es e1 e2 l _;cases e1;cases e2;exact#[[],rfl,rfl,rfl,λ_ z=>by simp at z,λj p z=>by simp at z]| cons d ds ih =>intro us ks es e1 e2 l A;obtain⟨kk,ks,h1,h2,rfl⟩:=Qx.mp e1;obtain⟨e,es,h3,h4,rfl⟩:=Qx.mp e2;cases us with| nil=>cases l| cons u us =>obtain⟨vs,l1,l2,l3,A3,f⟩:=ih h2 h4 (by simpa using l) λw z=>A w (aY _ z);have dq:=A (d,u) aI;unfold prK at h1;split at h1;rename_i d1 d2;cases h3;(cases dq with | @tup a _ us2 ft lt zt At =>(rcases us2 with _ | ⟨v1,_ | ⟨v2,_ | _⟩⟩<;>first |cases lt |skip);obtain⟨o,eo,fo⟩:=ft;have it:=fo _ (W.st _ _ (.inl eo));refine#[v2::vs,by simp[l1],by simp[l2],by simp[l3],qa (At (_,v2) (aY _ aI)) A3,λj p hj=>?_];cases j with| zero=>cases hj;exact#[a,v1,rfl,it,oF (At (d1,v1) (by simp)) h1]| succ j=>exact f j p (by exact hj));cases h1
include Y
theorem Od:Fb X (.type "dict") (Vt m):=λ{pins ρ h ws s P ds us} l0 z q=>by unfold Vt at q;split at q;rename_i x;obtain⟨u,rfl,z⟩:=one l0 z;split at q;rename_i p e1;obtain⟨kl,a,us,rfl,l,zz,⟨n,dd⟩,z2⟩:=z.opD aI e1;exact kt_call_dict n dd Τ λh' oY hs=>(z2.sub (by simp +contextual [or_imp])).newD kl l zz (λb q hq=>(hs.2 b [PF,hq]).trans (Heap.get?_push_of_some _ hq)) oY q;obtain⟨ds,e1,q⟩:=q.o;obtain⟨ks,e2,q⟩:=q.o;obtain⟨es,e3,q⟩:=q.o;obtain⟨nd,q⟩:=q.i;obtain⟨a,us,rfl,l,zz,⟨n,f⟩,z2⟩:=z.opL aI e1;have hd:=z2.hd Y;(cases z2 with | mk g I p W =>obtain⟨vs,l1,l2,l3,A,fp⟩:=za0 I.hk e2 e3 l λw hw=>W w (c9 _ hw);have z3:J X pins ρ h (es.zip vs++ws) s:=#[g,I,p,jK A λw hw=>W w (by simp[hw])];refine IN (ps:='!') hd f #[Τ,λj p hj=>?_] (by exact zz) λh' tk dd kp=>z3.newD l1 l2 Τ kp (by rw[F8 (uL nd) (by rwa [l1])] at dd;exact dd) q;obtain⟨t,bn,g1,g2,g3⟩:=fp j p hj;exact#[t,bn,by simpa using g1,g2,g3]);exact q.elim
theorem zde (ha:QA X es fA)(sc:SC X "dict" pos es:=by exact⟨rfl,by decide,by decide,rfl⟩):QE X [Z2,.Name "dict" p,es,[]] (Q4 (Vt m) fA):=#[λ{pins ρ h ws s P} z q=>Qp (io z sc.g Fr Bc (jd sc.pl (gi sc.pl (Rj [wr,z] λus s1 #[ds,h1,l,z,q]=>Od l z q))) sc.n sc.d)]
theorem zdH (h1:QE X a fa)(h2:QE X b fb)(sc:SC X "dict" pos [.Call [Jm,"zip"] [a,b] [] aA]:=by exact⟨rfl,by decide,by decide,rfl⟩)(sz:SC X "zip" aA [a,b]:=by exact⟨rfl,by decide,by decide,rfl⟩)(qi:[ϴ,[.Call [Jm,"zip"] [a,b] [] aA]]=[(ff,[Ϭ,.Call [Jm,"zip"] [a,b] [] aA])]:=by rfl)(hs:[ϴ,[a,b]]=[(ff,[Ϭ,a]),(ff,[Ϭ,b])]:=by rfl) :QE X [Z2,.Name "dict" p1,[.Call [Jm,"zip"] [a,b] [] aA],[]] (rDz m fa fb):=#[λ{pins ρ h ws s P} z q=>Qp (io z sc.g Fr Bc (jd sc.pl (gi sc.pl (by rw[qi];refine[PW,io z sz.g Fr wU (jd sz.pl (gi sz.pl ?_)) sz.n sz.d];rw[hs];refine[HH,h1.h z q.bnd,λu s1 #[x,_,z,q]=>[HH,h2.h z q.bnd,λv s2 #[y,h3,z,q]=>Calls.spliced_nil ?_]];obtain⟨ds,e1,q⟩:=q.o;obtain⟨es,e2,q⟩:=q.o;obtain⟨ks,e3,q⟩:=q.o;obtain⟨eb,q⟩:=q.i;simp only[bW] at eb;obtain⟨eb1,eb2,eb3⟩:=eb;obtain⟨c2,vs,rfl,l2,yX,f2,z2⟩:=z.opS aI e2;obtain⟨c1,us,rfl,l1,P6,f1,z1⟩:=z2.opS (eI _ (aY _ aI)) e1;(have sq:∀{x c} {us:List Value},(bif ϩ then IsTup s2.heap c us.toArray else∃n,s2.heap.get? c=se (Vi us n))->SeqAt ϩ s2.heap c us.toArray:=λ{x c us} f=>by cases ht:ϩ with| true=>rw[ht] at f;exact f| false=>rw[ht] at f;obtain⟨n,f⟩:=f;exact#[_,f,rfl,n,rfl]);have k1:=sq f1;have k2:=sq f2;have kl:=(iR e3).1;(have le:=by rw[aR,aR] at eb2;exact lR eb2);(have lt:=by simpa [aR] using eb3);have t16:=F6;(have hk:∀j kk u,ks[j]?=se kk->us[j]?=TG->[ZC,X.B.w].is kk u=tj:=λj kk u e4 e5=>by(have mJ:j<ds.length:=by exact kl▸(aH.mp e4).1);obtain⟨kk',e6,e7⟩:=(iR e3).2 j ds[j] (aJ mJ);rw[e4] at e6;cases e6;obtain⟨_,_,r⟩:=z1.at (c9 _ [Jv,#[aJ mJ,e5]]);exact oF r e7);refine By (p:=(ϩ,c1)) (q:=(QY y,c2)) k1 k2 λh' z0 kk=>Calls.spliced_nil ?_;(have lz:s2.heap.objs.size+4<h'.objs.size:=by obtain⟨f0,f1,_,hz0⟩:=z0.zip;exact Heap.lt_size hz0);refine zbs (knd:=[ZC,X.B.w]) (ps:='!') (z.hd Y) #[λj r hr=>?_,.inl Τ] (w8 k1) (w8 k2) z0 (k1.at λo g=>kk _ o g) (k2.at λo g=>kk _ o g) Τ λh2 tk hd kp=>?_;rw[bF] at hr;(have mJ:=by exact l1▸kl▸(aH.mp hr.1).1);exact#[us[j],by simp[mJ],by simpa using hr.2,hk j _ _ hr.1 (aJ mJ)];rw[F8 (uL eb1) (by rwa [le])] at hd;have n:s2.heap.get? h'.objs.size=none:=Heap.get?_none_of_le (by lia);have big:=(J.big (z.kept kk s2.toks):);exact(z2.sub (by simp +contextual [or_imp])).mkD le l2 yX n (λc o g=>kp c o (Heap.lt_size g) (kk c o g)) big hd q tk))) sc.n sc.d)]
omit Y in
theorem F9:∀{n k i:Nat},(dUp k n)[i]?=if i<n then[ω,.ofNat (k+i)]else ng
 | 0,k,i=>by rw[P7 (kI _)];rfl
 | n+1,k,i=>by
  have e:dUp k (n+1)=[PE,k]::dUp (k+1) n:=rfl;rw[e];cases i with
  | zero=>simp
  | succ i =>
   rw[tP,F9]
   by_cases z:i<n<;>simp[z]
   lia
omit Y in
theorem zc:∀{n k:Nat},(dUp k n).length=n
 | 0,_=>rfl
 | n+1,k=>congrArg iP (zc (n:=n) (k:=k+1))
theorem zaC (h1:QE X a fa)(sc:SC X "list" pos [.Call [Jm,"range"] [a] [] aA]:=by exact⟨rfl,by decide,by decide,rfl⟩)(sr:SC X "range" aA [a]:=by exact⟨rfl,by decide,by decide,rfl⟩)(qi:[ϴ,[Expr.Call [Jm,"range"] [a] [] aA]]=[(ff,[Ϭ,Expr.Call [Jm,"range"] [a] [] aA])]:=by rfl)(hs:[ϴ,[a]]=[(ff,[Ϭ,a])]:=by rfl) :QE X [Z2,.Name "list" p1,[.Call [Jm,"range"] [a] [] aA],[]] (WO m fa):=#[λ{pins ρ h ws s P} z q=>Qp (io z sc.g Fr Ba (jd sc.pl (gi sc.pl (by rw[qi];refine[PW,io z sr.g Fr boot_range (jd sr.pl (gi sr.pl ?_)) sr.n sr.d];rw[hs];refine[HH,h1.h z q.bnd,λu s1 #[x,hh,z,q]=>Calls.spliced_nil ?_];split at q;rename_i n;obtain⟨hb,q⟩:=q.i;obtain⟨t,rfl⟩:=z.int;(have hb:=by simpa using hb);refine call_range_1 (Calls.spliced_nil ?_);have z2:J X pins ρ hh ws { s1 with heap:=s1.heap.push { cls:=.type "range",data:=.fields ([.int 0 s1.toks,.int (lH n) t,.int 1 (s1.toks+1)].toArray)},toks:=s1.toks+1+1}:=z.tl.kept (λ_ _=>Heap.get?_push_of_some _) _;refine call_list_range (n:=n) (z.hd Y) (Heap.get?_push_size _ rfl) (small_one Τ Τ (by simp) (by simp;lia)) (by rw[rangeSize_one];split<;>simp_all) (by lia) λh' tk acc c' hk hS c4=>?_;(have la:acc.toList.length=n:=by have:=c4.1;exact this);have t16:=F6;refine(z2.adds (ds:=dUp 0 n) (by rw[zc,la]) λi d u e1 e2 g=>?_).mkL (by rw[zc,la]) (by lia) gf hk (by exact hS) q tk;rw[F9] at e1;split at e1;cases c8 e1;obtain⟨t',e3⟩:=c4.2 i u (by simpa using e2);rw[e3];(have:0+i*1=lH (0+i):=by simp);exact this▸.int;cases e1;exact q.elim))) sc.n sc.d)]
theorem zdk (h1:QE X a fa)(sc:SC X "len" pos [.Call [Jm,"set"] [a] [] aA]:=by exact⟨rfl,by decide,by decide,rfl⟩)(sr:SC X "set" aA [a]:=by exact⟨rfl,by decide,by decide,rfl⟩)(qi:[ϴ,[.Call [Jm,"set"] [a] [] aA]]=[(ff,[Ϭ,.Call [Jm,"set"] [a] [] aA])]:=by rfl)(hs:[ϴ,[a]]=[(ff,[Ϭ,a])]:=by rfl) :QE X [Z2,.Name "len" p1,[.Call [Jm,"set"] [a] [] aA],[]] (rLs fa):=#[λ{pins ρ h ws s P} z q=>Qp (io z sc.g Fr (show QR "len"=[G2,"len"]by decide +kernel) [Hd,sc.pl,sc.pl,by rw[qi];refine[PW,io z sr.g Fr N9 (jd sr.pl (gi sr.pl ?_)) sr.n sr.d];rw[hs];refine[HH,h1.h z q.bnd,λu s1 #[x,hh,z,q]=>Calls.spliced_nil ?_];obtain⟨ds,e1,q⟩:=q.o;obtain⟨ks,e2,q⟩:=q.o;obtain⟨eb,q⟩:=q.i;simp only[bW,jr] at eb;obtain⟨c,us,rfl,l,zz,f,z2⟩:=z.opS aI e1;rw[eb.1] at f;obtain⟨n,f⟩:=f;have kl:=(iR e2).1;(have lt:=by have:=eb.2;simpa [aR] using this);refine N8 (ks:=ks) (z.hd Y) #[_,f,rfl,n,rfl] (λj kk hj=>?_) (by simp;simp_all) (by unfold scanBound;lia) λh' tk hS kk=>Calls.spliced_nil ?_;(have mJ:=by exact kl▸'-'.1);obtain⟨kk',e6,e7⟩:=(iR e2).2 j ds[j] (aJ mJ);rw[hj] at e6;cases e6;obtain⟨u,e8,z3⟩:=z2.item l (aJ mJ);obtain⟨_,_,r⟩:=z3.at aI;generalize ds[j]=dj at r e7;(cases r<;>first |(cases e7;exact#[_,by simpa using e8])|cases e7);obtain⟨o,es,ep,t,ho,g1,g2,_,_,g5,g6,g7⟩:=hS;refine call_len_set ho g1 g2 g6 (Int.lt_trans (vR.mpr g5) (by decide)) ?_;rw[g7];rw[aR,Cf] at q;exact(z.tl.kept kk tk).gint q] sc.n sc.d)]
omit Y in
theorem kR (K:bj):∀{t c:Nat},t<7->c<7->c≠0->PySem.W.kitOne K (.type (tn t)) (.type (tn c))=se (isBn t c):=by intro t c ht hc h0;rcases t with _ | _ | _ | _ | _ | _ | _ | t<;>first |(exact absurd ht (by lia))|(rcases c with _ | _ | _ | _ | _ | _ | _ | c<;>first |rfl|exact[J4,h0]|exact absurd hc (by lia))
omit Y in
theorem Oi {Q:Value->Qe->Prop}{t c:Nat}(z:J X pins ρ h ((xx,u)::ws) s)(e:tc h xx=se t)(hc:c<7)(h0:c≠0)(q:∀tk,Q (.bool (isBn t c)) { s with toks:=tk}):Qn [ZV,X.B.w] X.A (call (.builtin "isinstance") [u,.type (tn c)]) Q E s:=by
 cases z with | mk g I p W =>
 have kin:MF:=I.kIn;cases W _ aI with
 | non=>cases e;exact kJ PySem.W.kitx_none kin True.intro (kR (t:=0) _ (by decide) hc h0) (λz=>nomatch z) q
 | bl=>cases e;exact kJ PySem.W.kitx_bool kin True.intro (kR (t:=1) _ (by decide) hc h0) (λz=>nomatch z) q
 | int=>cases e;exact kJ PySem.W.kitx_int kin True.intro (kR (t:=2) _ (by decide) hc h0) (λz=>nomatch z) q
 | str=>cases e;exact kJ PySem.W.kitx_str kin True.intro (kR (t:=3) _ (by decide) hc h0) (λz=>nomatch z) q
 | fn=>cases e
 | lst f l zz A=>cases e;exact kJ wR kin #[_,[OT,_,_,f],rfl] (kR (t:=4) _ (by decide) hc h0) (λz=>nomatch z) q
 | tup f l zz A =>
  cases e;obtain⟨o,e1,f⟩:=f;obtain⟨o,h1,h2,_⟩:=f _ [OT,_,_,e1];exact kJ PySem.W.kitx_tuple kin #[o,h1,h2] (kR (t:=5) _ (by decide) hc h0) (λz=>nomatch z) q
 | dic=>cases e
 | @at_ i a e0 =>
  replace e:(match eg h i with
   | some (.ml _)=>se 4
   | some (.mr _)=>se 4
   | some (.md _ _)=>se 6
   | _=>ng)=se t:=e
  rw[aW] at e
  split at e
  .rename_i e1;cases e;cases[Jp,_,_,_,e1]with | ml r f l zz A=>exact kJ wR kin #[_,f,rfl] (kR (t:=4) _ (by decide) hc h0) (λz=>nomatch z) q
  .rename_i e1;cases e;cases[Jp,_,_,_,e1]with | mr f l zz A=>exact kJ wR kin #[_,[OT,_,_,f],rfl] (kR (t:=4) _ (by decide) hc h0) (λz=>nomatch z) q
  .rename_i e1;cases e;cases [Jp,_,_,_,e1] with | md r f n k l zz A =>
   obtain⟨o,es,ep,h1,h2,_⟩:=f;exact kJ PySem.W.kitx_dict kin #[o,h1,h2.1] (kR (t:=6) _ (by decide) hc h0) (λz=>nomatch z) q
  .cases e
theorem Oj (ha:QE X e fa)(hy:bltN.contains y=tj:=by decide +kernel)(hv:QR y=[JF,tn nc]:=by decide +kernel)(hn:nc<7:=by decide)(h0:nc≠0:=by decide)(sc:SC X "isinstance" pos [e,.Name y q0]:=by exact⟨rfl,by decide,by decide,rfl⟩)(sy:SC X y pos []:=by exact⟨rfl,by decide,by decide,rfl⟩)(hs:[ϴ,[e,.Name y q0]]=[(ff,[Ϭ,e]),(ff,[Ϭ,.Name y q0])]:=by rfl) :QE X [Z2,.Name "isinstance" p,[e,.Name y q0],[]] (Y2 nc fa):=#[λ{pins ρ h ws s P} z q=>Qp (io z sc.g Fr HD [Hd,sc.pl,sc.pl,by rw[hs];refine[HH,[wr,z],λu s1 #[x,h1,z,q]=>Calls.spliced_cons (io z sy.g (Y.no y hy) hv (Calls.spliced_nil ?_) sy.n sy.d)];obtain⟨t,e1,q⟩:=q.o;exact Oi z e1 hn h0 λtk=>(z.tl.tok tk).gbl q] sc.n sc.d)]
end
structure LamK (mg:Qi->ZH)(base:QF)(c P:Qh):Prop where
 code:PySem.W.CodeHd base c P
 blt:[NP,P]
 ne:Qw≠P
section
variable {X:Cz}{B:Cb}{g:Gs}{H H':QF}{ρ:Rb}{h:TH}{s:Qe}{pins:List (Qh×RB)}{ws:WL}{k l j0:Nat}{a c P cd:Qh}{oc:RB}
theorem Hk.lam (q:Hk B g h H)(n:g.G c=ng)(e:H'.get? c=se oc)(rP:g.G P=se (.tab j0))(k:∀b o,b≠P->'D'=Υ->'&'=Υ)(eP:∃o,H'.get? P=Υ)(tb:∀j,j<B.C.nl->B.C.tb j=P->Tb B (g.upd c HZ) H' j):Hk B (g.upd c HZ) h H':=by have x:=Le.upd (r':=HZ) (show g.free c fromλr z=>by rw[n] at z;cases z);(have old:∀{b r},ϛ=τ->(g.upd c HZ).G b=τ:=λ{b r} z=>by rw[Gs.upd_ne (by rintro rfl;rw[n] at z;cases z),z]);(have nP:∀{b r},ϛ=τ->(∀j,r≠.tab j)->b≠P:=λ{b r} z y=>by rintro rfl;rw[rP] at z;cases z;exact y _ rfl);(have cs:∀{b r},(g.upd c HZ).G b=τ->(b=c/\r=.dat oc)\/ϛ=τ:=λ{b r} z=>by by_cases y:b=c;subst y;rw[Gs.upd_same] at z;cases z;exact .inl #[rfl,rfl];rw[Gs.upd_ne y] at z;exact .inr z);refine#[λb o z=>?_,λb o z=>?_,λb r z=>?_,q.len,λi t b e1 e2=>(q.th i t b e1 e2).go x (λb z=>old z) λb o z=>k b o (nP z (by simp)),λj hj=>?_];rcases z with z | z<;>rcases cs z with ⟨rfl,y⟩ | y;cases y;exact e;exact k _ _ (nP y (by simp)) (q.st b o (.inl y));cases y;exact k _ _ (nP y (by simp)) (q.st b o (.inr y));rcases cs z with ⟨rfl,y⟩ | y;cases y;obtain⟨n,sl,e⟩:=q.sl b o y;exact#[n,sl,k _ _ (nP y (by simp)) e];rcases cs z with ⟨rfl,y⟩ | y;exact#[_,e];by_cases w:b=P;subst w;exact eP;obtain⟨o,e⟩:=q.al b r y;exact#[o,k _ _ w e];by_cases w:B.C.tb j=P;exact tb j hj w;obtain⟨⟨j',r⟩,ps,e,q1,q2⟩:=q.tb j hj;exact#[#[j',old r],ps,k _ _ w e,q1,λpos c z=>by obtain⟨c',e,f⟩:=q2 pos c z;exact#[c',e,x.fz f]]
theorem Om {c cv:Value}{a b:Int}:∀l,TriplesOk l->Vw ay (l++[Vg a,Vg b,c])=se cv->cv=c\/Vw ay l=se cv:=by intro l h e;fun_induction TriplesOk l with| case1 =>simp only[As,Vg,Vw] at e;simp_all| case2 a' t b' u x rest ih =>simp only[pi,Vw] at e ⊢;lia| case3 l h1 h2=>exact h.elim
theorem Oo (z:H.CodeRec KY q):∃o,H.get? c=Υ/\∀h:QF,G8=Υ->h.CodeRec KY q:=by obtain⟨c',oc,vs,tq,hc,hoc,r⟩:=z;cases hc;exact#[oc,hoc,λh e=>#[_,oc,vs,tq,rfl,e,r]]
variable {params:Arguments}{body:QD}{scope:UU}{pos:Tx}
theorem Op (L:LamK X.mg X.base cd (X.B.C.tb l))(inj:∀j,j<X.B.C.nl->X.B.C.tb j=X.B.C.tb l->(X.B.C.lm j).qual=(X.B.C.lm l).qual)(hk:bq l X.B.C.nl=tj:=by rfl)(hL:X.B.C.lm l=#[X.env.qual++"<lambda>",params,body,scope]:=by rfl)(mR:X.env.code=.ref cd:=by rfl)(sQ:closureFor scope X.env=pure []:=by rfl)(hdef:defaultsOf params X.env=([],[]):=by rfl):QE X (.Lambda params body scope pos) (rLam l):=#[λ{pins ρ h ws s P} z q=>by cases z with | mk g I p W =>have lt:=bR.mp hk;obtain⟨⟨j0,rP⟩,ps,eP,ht,hr⟩:=I.hk.tb l lt;have C:=L.code.keeps I.bk;have hg:='s';obtain⟨bm,ob,b1,b2,b3,b4,b5,b6⟩:=L.blt;have hb:s.heap.BuiltinsAt X.mg (X.B.C.tb l):=#[bm,ob,b1,b2,b3,b4,I.bk _ _ b5,b6];have q:P (.at Gl) (hp h (.mf l)):=q;rw[show Gl=h.length from aR h,show hp h (.mf l)=h++[.mf l]from gY _ _] at q;refine PySem.W.kla_eval hdef ?_;(have ql:(X.B.C.lm l).qual=X.env.qual++"<lambda>":=by rw[hL]);cases e:Vw pos ps.toList with| none =>(refine PySem.W.kla_makeFunction sQ I.ok.glob hg mR C eP ht e L.ne hb λc' ctv h' tk hx hge eX hrec htb=>?_;obtain⟨oc,ec,fc⟩:=Oo hrec;have gc:=I.hk.fresh (Heap.get?_none_of_le hge);have ga:=I.hk.fresh (Heap.get?_none_of_le (gD (kH hge eX)));have gr:=Gr.upd (r:=HZ) gc;have k1:=λb o hb e=>hx b o hb e;(have q1:=I.hk.lam gc ec rP k1 #[_,htb] λj hj ej=>by refine#[#[j0,by rw[ej,Gs.upd_ne (by rintro rfl;rw[gc] at rP;cases rP),rP]],_,by exact ej▸htb,by simpa using TriplesOk_snoc pos.line pos.col (.ref c') ps.toList ht,λay cv hcv=>?_];rw[inj j hj ej];have bn:=Om ps.toList ht (by simpa using hcv);rcases bn with rfl | bn;exact#[c',rfl,oc,Gs.upd_same,by exact ql▸fc];obtain⟨c2,z1,z2⟩:=hr ay cv bn;exact#[c2,z1,gr.le.fz z2]);have I1:=I.go gr q1 (λb o z=>k1 b o (by rintro rfl;rw[rP] at z;cases z)) tk;refine#[_,_,vy (ws':=[]) (s:={ s with heap:=h',toks:=tk}) I1 (λy z=>gr.f _ _ (p y z) gV) Kx [h'.objs.size] (λb z=>?_) (λ_ _=>Heap.get?_push_of_some _) (λb z=>by rw[NB];exact#[_,Heap.get?_push_size _ rfl]) (λg' x _ r=>?_) tk,q];rw[NB,Gs.upd_ne (eV eX),ga];refine .mf (ctv:=ctv) (pm:=(X.mg "__name__").getD .none) (r _ (by simp)) ?_ (x.fz #[oc,Gs.upd_same,by exact ql▸fc]);exact hL▸Heap.get?_push_size _ rfl)| some cv =>obtain⟨c',e1,e2⟩:=hr pos cv e;subst e1;refine PySem.W.kla_makeFunctionHit sQ I.ok.glob hg mR C eP ht e hb λctv h' tk cN hs=>?_;have ga:=I.hk.fresh (Heap.get?_none_of_le hs);refine#[_,_,vy (a:=h'.objs.size) (ws':=[]) I p W [h'.objs.size] (λb z=>by rw[NB,ga]) (λb o e=>Heap.get?_push_of_some _ (cN b o e)) (λb z=>by rw[NB];exact#[_,Heap.get?_push_size _ rfl]) (λg' x _ r=>?_) tk,q];refine .mf (ctv:=ctv) (pm:=(X.mg "__name__").getD .none) (r _ (by simp)) ?_ (x.fz e2);exact hL▸Heap.get?_push_size _ rfl]
noncomputable def czL (T:Bz) (N:Χ) (qual:Qi) (scope:UU) (f:Qh) (cd:Value) (A:Qs) (outer:ME) (g:Gs) (h:TH) (s:Qe):Cz :={Xh T N qual scope f cd A outer g h s (λ_ _=>False)with E:=λ_ _=>False,xe:=λ_ _=>False}
structure LamF (T:Bz)(j k n:Nat)(fb:RE):Prop where
 ex:∃ps:List Qi,ps.length=n/\Ta ps ps 'R'.scope/\(∀(pm cd ct:Value) (us:List Value),us.length=ps.length->bindArgs (PySem.W.kla_fn "<lambda>" 'R'.qual 'R'.params 'R'.body 'R'.scope [] pm cd ct) #[us,[]]=K6) /\
  ∀(f:Qh) (cd:Value) (A:Qs) (outer:List Env) (g:Gs) (h:TH) (s:Qe),RC (j+1) A->QE (czL T ps 'R'.qual 'R'.scope f cd A outer g h s) 'R'.body fb
theorem Ga (z:J X pins ρ h ws s)(m:(x,u)∈ws)(e:eMf h x=se k):∃a pm c ctv,u=ύ/\Z5=se (AV "<lambda>" 'j'.qual 'j'.params 'j'.body 'j'.scope [] pm c ctv)/\s.heap.CodeRec KY 'j'.qual:=by unfold eMf at e;split at e;split at e;rename_i e1;cases e;rw[aW] at e1;(cases z with | mk g I p W =>cases W _ m with | at_ e0 =>cases[Jp,_,_,_,e1]with | mf r e f =>obtain⟨o,eo,fo⟩:=f;exact#[_,_,_,_,rfl,e,fo _ [OT,_,_,eo]]);cases e;cases e
variable {k':Nat}{x:Qi}{p:Tx}{es:Ia}{fa:RE}{fA:RA}{lb:Nat->Option (Nat×RE)}
theorem Oq [Y:Yx X k] (LF:∀l p,lb l=ο->LamF X.toBz k' l p.1 p.2)(hk:cf (k'+1) k=tj)(hn:QE X [L2,p] fa)(ha:QA X es fA)(hpl:(backTo pos [ϴ,es]).any (·.1)=ff:=by rfl):QE X [Z2,[L2,p],es,[]] (Ym lb fa fA):=#[λ{pins ρ h ws s P} z q=>Qp (Rj (hn.h z q.bnd) λu s1 #[d,h1,z,q]=>by obtain⟨k0,e1,q⟩:=q.o;obtain⟨a,pm,c1,ctv,rfl,e2,e3⟩:=Ga z aI e1;refine AS (by rw[hpl];rfl) PySem.W.keeps_F (gi hpl (Rj [wr,z] λus s2 #[ds,h2,l,z2,q2]=>?_));obtain⟨k1,e4,q3⟩:=q2.o;obtain⟨⟨n,fb⟩,e5,q4⟩:=q3.o;obtain⟨eb,q5⟩:=q4.i;obtain⟨a',pm,c2,ctv,ea,e6,e7⟩:=Ga z2 (eI _ aI) e4;cases ea;obtain⟨ps,hps,S,jT,hb⟩:=(LF k1 _ e5).ex;(have dl:ds.length=ps.length:=by rw[hps,<-aR];exact lR eb);refine#[#[_,_,_,_,e6],?_];(have jV:∀y∈ND,'k'.scope.names.lookup y.1=Z6\/('k'.scope.names.lookup y.1=Z7/\((cellsFrom (s2.heap.objs.size+1) 'k'.scope.names []).lookup y.1).isSome=tj):=λ#[n,v] hy=>by rcases S.par n (cx hy).1 with q | q;exact .inl q;exact .inr #[q,wO _ _ _ (.inl q)]);have hr:=[HV,hk];cases z2 with | mk g I p W =>have ca:=I.ca;refine wpAny_call (Sz (R:=CR X.toBz X.stack [Lr,s2.heap] s2 P X.E) (PySem.W.kla_callFunE hr.depth e6 rfl S.co S.gen rfl e7 ?_) λr s' hq=>by have:=I.ret p (ws:=ws) (λw z=>W w (by simp[z])) hq;cases r with| error e=>exact this| ok fl=>cases fl<;>exact this);rw[show(#[[]++us,[]]:Args)=#[us,[]]from rfl,jT pm GZ ctv us (l▸dl▸rfl)];refine Qk (UF S.kind jV λenv he s3 x=>?_);subst he;refine#[I.nolimit.keeps x.toInCall.keep,PySem.W.kla_codeExpr ?_];obtain⟨g1,J1,gr⟩:=Iv.start (E:=λ_ _=>False) (j:=0) S hr.hd ca l dl rfl (Le.hid.held λw z=>W w (c9 _ z)) x;have J2:Iv (czL X.toBz ps 'k'.qual 'k'.scope a GZ X.A X.stack [Lr,s2.heap] h2 s2) g1 (Vj ds 0) h2 s3:=#[#[J1.ok.mod,J1.ok.kind,J1.ok.glob,J1.ok.blt,J1.ok.inj,J1.ok.has,J1.ok.hd,J1.ok.frames,J1.ok.fr],J1.os,J1.bare,J1.hk,J1.bs,J1.kp,J1.ip,J1.lf,J1.lc,J1.ce,J1.len];refine Se ((hb a GZ X.A X.stack [Lr,s2.heap] h2 s2 hr).h (pins:=[]) (ws:=[]) #[g1,J2,λ_ z=>by simp at z,λ_ z=>by simp at z] q5.unx) (λu s' hs=>?_) λ_ _ f=>f.elim;obtain⟨d',h',⟨g',I',_,W'⟩,p'⟩:=hs;exact#[d',g',h',I'.os,I'.bare,#[λa r z y=>I'.kp a r z (y.elim id λy=>absurd z (y▸ca.nl a)),I'.ip],I'.hk,W' _ aI,p'])]
end
end NAL.RZ
namespace NAL.EX
open PySem PySem.Spec PyProof.Rows
abbrev FA (K:bj)(x q:Qi)(st:RV)(f:Qh):Prop:=∃(oc:Value) (od:Option Qh) (kV bQ pm:Value) (an:Option Qh) (cdv ct:Value) (dI:Array (Option Value)),NM=se #[oc,od,.func (gX x q Nz Pl ta .none kV bQ pm an cdv ct),dI]/\ko K cdv q=tj/\gW K tA=tj
abbrev FT (K:bj)(x:Qi)(st:RV):Prop:=∃f,kq K Qw x=Hw/\FA K x x st f
abbrev FM (K:bj)(C:Qh)(x q:Qi)(st:RV):Prop:=∃f,ic K (rv) x=Hw/\nU K tA=tj/\FA K x q st f
abbrev BA (x q:Qi)(st:RV)(ps:Χ):Prop:=∀(kV bQ pm:Value) (an:Option Qh) (cdv ct:Value) (us:List Value),us.length=ps.length->bindArgs (gX x q Nz Pl ta .none kV bQ pm an cdv ct) #[us,[]]=K6
theorem ft_mk {K:bj}{st:RV}{kV bQ pm cdv ct:Value}(a:kq K Qw x=Hw) (l:NM=se #[oc,od,.func (gX x x Nz Pl ta .none kV bQ pm an cdv ct),dI]) (c:ko K cdv x=tj) (k:gW K tA=tj):FT K x st :=#[f,a,oc,od,kV,bQ,pm,an,cdv,ct,dI,l,c,k]
theorem fm_mk {K:bj}{st:RV}{kV bQ pm cdv ct:Value}(a:ic K (rv) x=Hw) (l:NM=se #[oc,od,.func (gX x q Nz Pl ta .none kV bQ pm an cdv ct),dI]) (c:ko K cdv q=tj) (k:gW K tA=tj) (i:nU K tA=tj):FM K C x q st :=#[f,a,i,oc,od,kV,bQ,pm,an,cdv,ct,dI,l,c,k]
theorem zdR {K:bj}{st:RV}(ps:Χ)(X:K.In h)(G:h.Ns Qw mg)(t:FT K x st)(b:BA x x st ps):Top K mg x st ps:=by obtain⟨f,a,oc,od,kV,bQ,pm,an,cdv,ct,dI,l,c,k⟩:=t;exact zeu X G a l c k b
theorem zaw {K:bj}{st:RV}(ps:Χ)(t:FM K C x q st)(cl:Cls K C)(b:BA x q st ps):MTop K C x q st ps:=by obtain⟨f,a,i,oc,od,kV,bQ,pm,an,cdv,ct,dI,l,c,k⟩:=t;exact#[#[f,_,lX l c k,(lX l c k).binds b,#[a,i,k]],cl]
end NAL.EX
namespace NAL.RZ
open PySem PySem.Spec PyProof.Rows NAL NAL.EX NAL.RX
structure Bg where
 P:Qv
 w:Q0
 K:bj
 mg:Qi->ZH
 base:QF
abbrev NoER:Cb->ERt:=λ_ _ _ _ _ _ _=>False
noncomputable abbrev Bg.T (Θ:Bg) (R:Cb->ERt) (C:CT):Bz:=#[#[C,Θ.P,Θ.w],Θ.mg,Θ.base,R #[C,Θ.P,Θ.w]]
structure MTopC (K:bj)(C:Qh)(m qual:Qi)(st:RV)(ps:Χ)(c:Qh):Prop where
 is:∃(f:Qh) (fd:Q8),(∃(oc:Value) (od:Option Qh) (kV bQ pm:Value) (an:Option Qh) (ct:Value) (dI:Array (Option Value)),fd=gX m qual Nz Pl ta .none kV bQ pm an KY ct/\NM=se #[oc,od,.func fd,dI]/\ko K KY qual=tj)/\Binds K fd ps []/\Meth K C m f
 cl:Cls K C
section
variable {T:Bz}{N:Χ}{x y qual:Qi}{st:RV}{k c n j m:Nat}{ps:Χ}{f cd:Qh}{fd:Q8}{keep:Bool}{fs:RS}{ev:Φ->TH->tv}
structure Bx (T:Bz):Prop where
 blt:∀x∈bltN,T.mg x=ng
 fld:∀c f,(T.B.C.nm c).contains f=tj->ClsF T.B.C.K OP f
 xp:∀{N qual scope f cd A outer g h s E g1 ρ h1 s1 e s'},Iv (Xh T N qual scope f cd A outer g h s E) g1 ρ h1 s1->T.ER ([Nu,qual,scope,f,cd]::outer) (g1.hid s1.heap s.heap.objs.size) s1 (qe E g.ι.length) e s'->(Xh T N qual scope f cd A outer g h s E).xe e s'
 en:∀{st g s e s'},T.ER st g s (λ_ _=>False) e s'->False
theorem Gb (B:Bx T)(nd:N.Nodup)(hr:RC k (Xh T N qual scope f cdv A outer g h s E).A):Yx (Xh T N qual scope f cdv A outer g h s E) k :=#[hr,rfl,B.blt,nd,PassesOwn.leaving,B.xp,B.en,B.fld]
theorem zbU (B:Bx T)(nd:N.Nodup)(hr:RC (k+1) A):Yx (czL T N qual scope f cdv A outer g h s) k :=#[hr.deeper _,rfl,B.blt,nd,PassesOwn.never,λ_ z=>B.en z,B.en,B.fld]
abbrev mH (T:Bz)(N:Χ)(qual:Qi)(st:RV)(k:Nat)(fs:RS):Prop :=∀(f:Qh) (cdv:Value) (A:Qs) (outer:List Env) (g:Gs) (h:TH) (s:Qe) (E:Nat->TH->Prop),Yx (Xh T N qual ta f cdv A outer g h s E) k->QB (Xh T N qual ta f cdv A outer g h s E) Pl fs
abbrev zec (T:Bz)(N:Χ)(qual:Qi)(st:RV)(cd:Qh)(k:Nat)(fs:RS):Prop :=∀(f:Qh) (A:Qs) (outer:List Env) (g:Gs) (h:TH) (s:Qe) (E:Nat->TH->Prop),Yx (Xh T N qual ta f (.ref cd) A outer g h s E) k->QB (Xh T N qual ta f (.ref cd) A outer g h s E) Pl fs
structure Yq (ev:Φ->TH->tv)(n j:Nat)(fs:RS):Prop where
 h:∀{ds h P E},(ev ds h).sat P E->ds.length=n/\(fs (Vj ds j) h).sat (λx h'=>Fin P h (val x) h') (qe E h.length)
theorem rY:Yq (Sl keep n j fs) n j fs:=#[λq=>Ni q]
theorem Ow:Yq (fnK m n j fs) n j fs:=#[λq=>Nj q]
theorem vD (B:Bx T)(F:Fun T.B.C.K x qual st f fd)(S:Ta N ps ta)(hL:N.length=ps.length+j)(e:Yq ev ps.length j fs)(h:mH T N qual st k fs):XZ T (k+1) f fd ps ev:=by obtain⟨oc,od,kV,bQ,pm,an,cdv,ct,dI,rfl,lk,hcd⟩:=F.ex;exact FB lk hcd S hL e.h λA outer g hh s E hr=>h f cdv A outer g hh s E (Gb B S.nd hr)
theorem Ox (B:Bx T)(t:Top T.B.C.K T.mg x st ps)(S:Ta N ps ta)(hn:ps.length=n)(hL:N.length=n+j)(e:Yq ev n j fs)(h:mH T N x st k fs):RDef T x (k+1) ps ev:=by subst hn;obtain⟨f,fd,F,hb,hm⟩:=t.is;exact#[f,fd,vD B F S hL e h,hb,hm,F.kp]
theorem zet (B:Bx T)(t:MTop T.B.C.K OP x qual st ps)(S:Ta N ps ta)(hn:ps.length=n)(hL:N.length=n+j)(e:Yq ev n j fs)(h:mH T N qual st k fs):RMet T c x (k+1) ps ev:=by subst hn;obtain⟨f,fd,F,hb,hm⟩:=t.is;exact#[#[f,fd,vD B F S hL e h,hb,hm],t.cl]
theorem Gc (B:Bx T)(t:∃f fd,Fun T.B.C.K x qual st f fd/\Binds T.B.C.K fd ps []/\Mk T.B.C.K OP f)(hm:T.mg y=[ZN,OP])(S:Ta N ps ta)(hn:ps.length=n)(hL:N.length=n+j)(e:Yq ev n j fs)(h:mH T N qual st k fs):RCls T y c (k+1) ps ev:=by subst hn;obtain⟨f,fd,F,hb,hk⟩:=t;exact#[#[f,fd,vD B F S hL e h,hb,hk],hm]
theorem zd1 (B:Bx T)(t:MTopC T.B.C.K OP x qual st ps cd)(S:Ta N ps ta)(hn:ps.length=n)(hL:N.length=n+j)(e:Yq ev n j fs)(h:zec T N qual st cd k fs):RMet T c x (k+1) ps ev:=by subst hn;obtain⟨f,fd,F,hb,hm⟩:=t.is;refine#[#[f,fd,?_,hb,hm],t.cl];obtain⟨oc,od,kV,bQ,pm,an,ct,dI,rfl,lk,hcd⟩:=F;exact FB lk hcd S hL e.h λA outer g hh s E hr=>h f A outer g hh s E (Gb B S.nd hr)
end
theorem zal:∀{vs:List Value} {ns:Zv},IntsAre vs ns->∀w∈ns.zip vs,∃t,w.2=.int w.1 t:=by intro vs ns h;induction h with| nil=>intro w hw;simp at hw| cons n t h ih =>intro w hw;rcases aT.mp hw with hw | hw;subst hw;exact#[t,rfl];exact ih w hw
theorem OB {K:bj}{ts:List (Qh×Qi)}{R:ERt}(en:∀{st g s e s'},R st g s (λ_ _=>False) e s'->False)(hCK:C.K=K) (KX:K.In s₁.heap) (oU:s₁.heap.Ns Qw mg) (hb:s₁.heap.Ns builtinsNs mb) (hbb:∀x:Qi,x≠"__name__"->mb x=QR x) (hlim:s₁.heap.NoLimit) (hg:s₁.gens=([].toArray)) (ha:s₁.heap.get? a=se { cls:=.type "list",data:=MW}) (hi:IntsAre vs ns) (hl:ns.length<=sizeLine) (hr:RC k callerA) (hkt:AW K=tj) (iA:∀b q,BT=Ϝ->'^'=se (uq ([].toArray))/\isCodeTable s₁.heap b/\s₁.heap.BuiltinsAt mg b) (hC:∀k,k<C.nl->∃q,ts.lookup (C.tb k)=Ϝ) (hCt:∀b q,BT=Ϝ->∃k,k<C.nl/\C.tb k=b) (F:∀base:QF,M5->base.Ns Qw mg->(∀b q,BT=Ϝ->[NP,b])->XZ #[#[C,P,w],mg,base,R] k fa fd [x] ev) (jT:∀s u,BindsTo s fd #[[u],[]] [(x,u)]) (mI:∃h,ev [.at 0] [ό]=.ok TE h) :UA (Qt P w) callerA (.call (.ref fa) #[[ύ],[]]) (λr s'=>r=.ok (.ret It)/\OldK s₁.heap s'.heap/\s'.os=s₁.os/\KQ) s₁:=by have sv:=hi.length;(have mem:∀{b},b∈ts.map (·.1)↔∃q,BT=Ϝ:=λ{b}=>by clear hC F iA hCt;induction ts with| nil=>simp| cons p ts ih =>rw[bA,aT,iN,ih];by_cases z:b=p.1;subst z;simp;rw[show(b==p.1)=ff from beq_eq_false_iff_ne.mpr z];simp[z]);let base:=PySem.W.hideAll s₁.heap (ts.map (·.1));(have get:∀{b o},'^'=Υ->BT=ng->Mq=Υ:=λ{b o} e n=>PySem.W.hideAll_get _ e λhm=>by obtain⟨q,z⟩:=mem.mp hm;rw[n] at z;cases z);(have of:∀{b o},Mq=Υ->'^'=Υ/\BT=none:=λ{b o} e=>by refine#[PySem.W.of_hideAll _ e,?_];cases z:BT with| none=>rfl| some q =>have:Mq=none:=PySem.W.hideAll_none _ (mem.mpr #[q,z]);rw[this] at e;cases e);(have free:∀{b:Qh} {o:RB},'^'=Υ->o≠uq ([].toArray)->BT=none:=λ{b o} e n=>by cases z:BT with| none=>rfl| some q=>have:=(iA b q z).1;rw[e] at this;cases this;exact[J4,n]);have nsK:∀{b:Qh} {m:Qi->Option Value},s₁.heap.Ns b m->base.Ns b m:=λ{b m} #[o,es,ep,e,d,r]=>#[o,es,ep,get e (free e (by rintro rfl;cases d)),d,r];have hKb:=λb o e=>get (KX b o e) (free (KX b o e) (by rintro rfl;exact absurd (show ff=tj from i9.mp hkt _ (PySem.W.mem_of_lookupK e)) qr));(have hB:∀b q,BT=Ϝ->[NP,b]:=λb q y=>by obtain⟨bm,o,b1,b2,b3,b4,b5,b6,b7,b8⟩:=(iA b q y).2.2;exact#[bm,o,b1,b2,b3,b4,get b5 (free b5 (by rintro rfl;cases b8)),b6,b7,b8]);let g:Gs:=#[λb=>match BT with| some _=>se (.tab 0)| none=>'^'.map .dat,[a]];(have gt:∀{b q},BT=Ϝ->ϛ=se (.tab 0):=λ{b q} z=>by show(match BT with | some _=>se (Ro.tab 0)| none=>_)=_;rw[z]);(have gd:∀{b},BT=ng->ϛ='^'.map .dat:=λ{b} z=>by show(match BT with | some _=>se (Ro.tab 0)| none=>_)=_;rw[z]);(have cs:∀{b r},ϛ=τ->(r=.tab 0/\∃q,BT=Ϝ)\/∃o,r=.dat o/\'^'=Υ:=λ{b r} z=>by cases y:BT with| some q=>rw[gt y] at z;cases z;exact .inl #[rfl,q,rfl]| none =>rw[gd y,jc] at z;obtain⟨o,e,rfl⟩:=z;exact .inr #[o,rfl,e]);have na:=free ha (by intro z;cases z);(have hk:Hk #[C,P,w] g [ό] s₁.heap:=by refine#[λb o z=>?_,λb o z=>?_,λb r z=>?_,rfl,λi t b e1 e2=>?_,λk hk=>?_];rcases z with z | z<;>rcases cs z with ⟨y,_⟩ | ⟨o',y,e⟩<;>cases y;exact e;rcases cs z with ⟨y,_⟩ | ⟨o',y,e⟩<;>cases y;rcases cs z with ⟨_,q,y⟩ | ⟨o',y,e⟩;exact#[_,(iA b q y).1];exact#[o',e];(match i,e1,e2 with| 0,e1,e2 =>cases e1;cases e2;exact .mr (by rw[gd na,ha];rfl) sv.symm (by exact sv▸hl) λw hw=>by exact zal hi w hw| i+1,e1,_=>simp at e1);obtain⟨q,y⟩:=hC k hk;exact#[#[0,gt y],([].toArray),(iA _ q y).1,trivial,λpos c z=>by cases z]);have ca:Ca #[#[C,P,w],mg,base,R] callerA [] g [ό] s₁:=#[rfl,hCK▸#[hKb,nsK oU,#[mb,nsK hb,hbb],by obtain⟨mc,h1,h2⟩:=hlim;exact#[mc,nsK h1,h2]],λb o e=>by rw[gd (of e).2,(of e).1];rfl,hk,.of_eq hg,(λb z=>by rcases cs z with ⟨y,_⟩ | ⟨_,y,_⟩<;>cases y),λ_ z=>by simp at z];obtain⟨h,mI⟩:=mI;refine Sz ((F base hKb (nsK oU) hB).run (ds:=[.at 0]) (us:=[ύ]) (P:=λv _=>v=TE) (E:=λ_ _=>False) hr ca (jT s₁ ύ) rfl (λw hw=>by exact(cT.mp hw)▸.at_ rfl) (by rw[mI];rfl)) λr s' hq=>?_;cases r with| error e=>exact(en hq).elim| ok fl =>cases fl with| next=>exact OK| brk=>exact OK| cont=>exact OK| ret u =>obtain⟨d,g',h',os,br,x,cN,dq,p⟩:=hq;subst p;cases dq;refine#[rfl,#[λb o e=>?_,λb o e=>?_],os,br];(cases y:BT with| none=>exact .inl (cN.st b o (.inl (x.f b _ (by rw[gd y,e];rfl) gV)))| some q =>obtain⟨k,hk,rfl⟩:=hCt b q y;obtain⟨_,ps,e2,_⟩:=cN.tb k hk;rw[(iA _ q y).1] at e;cases e;exact .inr (.inl #[(iA _ q y).2.1,rfl,([].toArray),ps,rfl,by rw[e2];simp[uq]]));cases y:BT with| none=>exact#[o,cN.st b o (.inl (x.f b _ (by rw[gd y,e];rfl) gV))]| some q =>obtain⟨k,hk,rfl⟩:=hCt b q y;obtain⟨_,ps,e2,_⟩:=cN.tb k hk;exact#[_,e2]
theorem walk_ofR {l:PySem.W.OpenLaw}{K:Params->bj}{ts:List (Qh×Qi)}{R:Cb->ERt}(en:∀{B st g s e s'},R B st g s (λ_ _=>False) e s'->False) (hn:l.most=se n) (hn2:n<=sizeLine) (hdf:d.params.defaults=[]) (hr:RC k callerA) (hY:∀w h,YP w h->'_'.In h) (hT:∀w h,YP w h->∀b q,BT=Ϝ->h.get? b=se (uq ([].toArray))) (hC:∀(w:Q0) b q,BT=Ϝ->∃c,wS '_' c b=tj) (hkt:∀w:Q0,AW '_'=tj) (F:∀w mg fa h,'_'.In h->h.Ns Qw mg->mg d.name=[ZN,fa]->∃(C:CT) (fd:Q8),C.K='_'/\(∀k,k<C.nl->∃q,ts.lookup (C.tb k)=Ϝ)/\(∀b q,BT=Ϝ->∃k,k<C.nl/\C.tb k=b)/\(∀s u,BindsTo s fd #[[u],[]] [(x,u)])/\∀base:QF,'_'.In base->base.Ns Qw mg->(∀b q,BT=Ϝ->[NP,b])->XZ (Bg.T #[l.prog,w,'_',mg,base] R C) k fa fd [x] ev) (mI:∀ns:Zv,ns.length<=n->∃h,ev [.at 0] [ό]=.ok TE h) :PySem.W.WalkO q jU XP YP l.row.toRowW d [] (λf vs=>PySem.call f vs):=by refine NAA.attach_call hn hdf λw s₀ s₁ mg mb fa o pm cd bQ a vs ns G Y ho hd hcd hmg hobj hints dR hg=>?_;have KX:=hY w _ Y;obtain⟨C,fd,ck,hc,hct,hb,hF⟩:=F w mg fa _ KX G.T.g hmg;obtain⟨bm,ob,b1,b2,b4,b5,b6,b7⟩:=G.T.bmain;refine OB (R:=R #[C,l.prog,w]) en ck KX G.T.g G.T.b G.T.builtins G.T.nolimit hg hobj hints (b9 dR hn2) hr (hkt w) (λb q y=>?_) hc hct hF hb (mI ns dR);have t:=hT w _ Y b q y;obtain⟨c,hc⟩:=hC w b q y;obtain⟨o,vs,file,tf,flags,tg,inF,text,tt,e1,r1,r2,r3,_⟩:=AT KX hc;refine#[t,#[c,o,vs,e1,r1,r2,r3],bm,ob,b1,b2,λz=>?_,λz=>?_,b4,b5,b6,b7];obtain⟨o2,es,ep,g1,g2,_⟩:=G.T.g;simp_all;lia
section
variable {K:bj}{mg:Qi->ZH}{h base:QF}{x q:Qi}{C c f a:Qh}{ps:Χ}{st:RV}{i j:Int}{oc:Value}{od an:Option Qh}{dI sl:Array ZH}{fs:Χ}{B:Cb}
noncomputable def okB (K:bj) (x:Qi):Bool:=match kq K Qw x with| some ng=>tj| _=>ff
theorem OC (X:K.In h)(G:h.Ns Qw mg)(e:okB K x=tj):mg x=none:=by unfold okB at e;split at e;rename_i z;exact PySem.W.mg_none_of X G z;cases e
noncomputable def okC (K:bj) (C:Qh) (fs:Χ):Bool:=qP K C Str.empty&&uk K C&&wQ K C&&(ic K (rv) "__setattr__"==se [G2,"object.__setattr__"])&&pD K C&&gW K rv&&fs.all λf=>ic K (rv) f==Oa
theorem zd (e:okC K C fs=tj):Cls K C/\pD K C=tj/\gW K rv=tj/\∀f,fs.contains f=tj->ClsF K C f:=by unfold okC at e;simp only[bW,beq_iff_eq,i9] at e;obtain⟨⟨⟨⟨⟨⟨e1,e2⟩,e3⟩,e4⟩,e5⟩,e6⟩,e7⟩:=e;exact#[#[e1,e2,e3,e4],e5,e6,λf hf=>#[#[e1,e2,e3,e4],e7 f (kf.mp hf)]]
noncomputable def okI (K:bj) (x:Qi) (i:Int):Bool:=match kq K Qw x with| some (se (.int j _))=>j==i| _=>ff
theorem Gd (X:K.In h)(G:h.Ns Qw mg)(e:okI K x i=tj):RCst B mg base x MA:=by unfold okI at e;split at e;rename_i j t z;cases beq_iff_eq.mp e;exact#[_,nR X G z,λg _=>.int];cases e
theorem OD {t1 t2 n:Nat}(X:K.In h)(G:h.Ns Qw mg)(XB:M5)(u:kq K Qw x=se (se ύ)) (l:K.lookup a=se #[.type "tuple",od,.seq ([.int i t1,.int j t2].toArray) n,sl]):RCst B mg base x (.tup [MA,.int j]) :=#[_,nR X G u,λg hg=>.tup #[_,hg _ _ (XB _ _ l),λ_ e=>#[_,e,rfl,n,rfl]] rfl (show 2<=sizeLine by decide) λw hw=>by simp only[iM,List.zip_nil_right,aT,dQ,or_false] at hw;rcases hw with rfl | rfl<;>exact .int]
theorem Ge (ps:Χ)(p5:pD K C=tj)(p6:gW K rv=tj)(t:FM K C "__init__" q st)(b:BA "__init__" q st ps):∃f fd,Fun K "__init__" q st f fd/\Binds K fd ps []/\NAL.Mk K C f:=by obtain⟨f,a,i,oc,od,kV,bQ,pm,an,cdv,ct,dI,l,c,kp⟩:=t;exact#[f,_,lX l c kp,(lX l c kp).binds b,#[p5,a,i,p6]]
abbrev FMC (K:bj)(C:Qh)(x q:Qi)(st:RV)(c:Qh):Prop:=∃f,ic K (rv) x=Hw/\nU K tA=tj/\∃(oc:Value) (od:Option Qh) (kV bQ pm:Value) (an:Option Qh) (ct:Value) (dI:Array (Option Value)),NM=se #[oc,od,.func (gX x q Nz Pl ta .none kV bQ pm an KY ct),dI]/\ko K KY q=tj/\gW K tA=tj
theorem fmc_mk {kV bQ pm ct:Value}(a:ic K (rv) x=Hw) (l:NM=se #[oc,od,.func (gX x q Nz Pl ta .none kV bQ pm an KY ct),dI]) (d:ko K KY q=tj) (k:gW K tA=tj) (i:nU K tA=tj):FMC K C x q st c :=#[f,a,i,oc,od,kV,bQ,pm,an,ct,dI,l,d,k]
theorem zaz (ps:Χ)(cl:Cls K C)(t:FMC K C x q st c)(b:BA x q st ps):MTopC K C x q st ps c:=by obtain⟨f,a,i,oc,od,kV,bQ,pm,an,ct,dI,l,d,kp⟩:=t;exact#[#[f,_,#[oc,od,kV,bQ,pm,an,ct,dI,rfl,l,d],(lX l d kp).binds b,#[a,i,kp]],cl]
theorem zdo (X:M5)(e:wS K c T=tj)(b:[NP,T])(n:Qw≠T):LamK mg base c T:=#[AT X e,b,n]
theorem one_tab (e:[(a,x)].lookup b=se q'):b=a:=by rw[iN] at e;by_cases z:b=a;exact z;rw[show(b==a)=ff from beq_eq_false_iff_ne.mpr z] at e;cases e
end
section
variable {X:Cz}{k:Nat}[Y:Yx X k] {tg e a b o:QD}{fa fb:RE}{p pos av aw px py:Tx}{kt i j:Nat}{x y:Qi}{es:Ia}
omit Y in
theorem Gf {B:Cb}{g:Gs}:∀{ds:List D} {us:List Value} {ks:List Qi},QJ YR ds=se ks->ds.length=us.length->cF B g ϝ->StrsAre us ks
 | [],[],ks,e,_,_=>by cases e;exact .nil
 | d::ds,u::us,ks,e,l,W=>by
  obtain⟨y,r,e1,e2,rfl⟩:=Qx.mp e;have du:=W (d,u) (by simp)
  cases d with
  | str z =>
   cases e1;cases du;exact .cons _ _ (Gf e2 (jy l) λw hw=>W w (aY _ hw))
  | _=>cases e1
omit Y in
theorem Gg:∀{us:List Value} {ks:List Qi},StrsAre us ks->'N'.length=us.length/\∀(i:Nat) d u,'N'[i]?=Ϡ->us[i]?=TG->∀{B g},DU B g d u
 | _,_,.nil=>#[rfl,λi d u h=>by simp at h]
 | _,_,.cons x t h=>by
  obtain⟨l,f⟩:=Gg h;refine#[by simpa using l,λi d u h1 h2=>?_]
  cases i with
  | zero=>cases h1;cases h2;exact .str
  | succ i=>exact f i d u (by simpa using h1) (by simpa using h2)
instance:BOk X "sorted" gSrt:=#[_,Fr,boot_sorted,.inl #[_,rfl],λ{_ _ _ _ s _ _ _} l j q=>by unfold gSrt at q;split at q;obtain⟨ds,e1,q⟩:=q.o;obtain⟨ks,e2,q⟩:=q.o;obtain⟨eb,q⟩:=q.i;simp only[bW,jr] at eb;obtain⟨u,rfl,j⟩:=one l j;obtain⟨a,us,rfl,l',z,f,j⟩:=j.opS aI e1;rw[eb.1] at f;obtain⟨n,f⟩:=f;have lk:=(iR e2).1;(have l64:ks.length<64:=by have:=eb.2;rw[aR] at this;simpa [bR] using this);(have S:StrsAre us ks:=by cases j with | mk g I p W=>exact Gf e2 l' λw hw=>W w (c9 _ hw));refine sorted_strs #[_,f,rfl,n,rfl] S (by rw[<-l',<-lk];exact l64) λout ss' hS hp hs=>?_;obtain⟨e,he⟩:=sortedAll_at s.heap us out;obtain⟨l3,f3⟩:=Gg hS;have es:=L0 hp hs;rw[es] at l3 f3;(have lo:out.toList.length<=sizeLine:=by have:=hp.length_eq;rw[<-l3,a8,<-es,this];exact b9 (gD l64) (by decide));exact((j.sub (ws':=_) (by simp +contextual [or_imp])).adds l3 λi d u h1 h2 g=>f3 i d u h1 h2).mkL (m:=ff) l3 lo (Heap.get?_none_of_le (lV _)) (λb o hb=>sortedAll_old hb) (by simpa [seqObj] using he) q s.toks;exact q.elim]
theorem OG (ho:QE X o fa)(he:QE X a fb)(sm:SM X o "pop" av [a] aw:=by exact⟨rfl,rfl,rfl,rfl⟩)(h1:[ϴ,[a]]=(ff,[Ϭ,a])::[ϴ,[]]:=by rfl):QE X (.Call [Ot,"pop",av] [a] [] aw) (Y1 fa fb):=#[λ{pins ρ h ws s P} z q=>by refine bm qO AM AN sm ho (p9 he p8 h1) z (q.bnd.mono λx h q=>?_) (C:=λx h=>∃p,UZ h x=ο) (G:=λx ys h=>∃y,ys=[y]/\(match y with| .int (.ofNat k)=>QL (UZ h x) λp=>QL (eg p.2 k) λy=>R.ok y (hs h p.1 (.ml (p.2.eraseIdx k)))| _=>R.no).sat P X.E) (λz #[p,e]=>z.tyL (rX e)) λ{x u h s ds us} l z #[y,ed,q0]=>?_;obtain⟨p,e,q⟩:=q.o;exact#[#[p,e],[O4,λy h q=>R.sat.unb #[y,rfl,q]]];subst ed;split at q0;rename_i kk _;obtain⟨⟨i,ds⟩,e,q1⟩:=q0.o;obtain⟨y,e2,q2⟩:=q1.o;obtain⟨u1,rfl,z⟩:=one l z;obtain⟨t,rfl⟩:=z.int;obtain⟨a,us,rfl,rfl,eh,l,zz,⟨n,f⟩,z⟩:=z.opM (aY _ aI) e;rw[aW] at e2;obtain⟨v,e3,_⟩:=z.item l e2;have mv:(y,v)∈ϝ:=[Jv,#[e2,e3]];have kl:=(aH.mp e3).1;(have fit:Builtin.List.listFitsIndex (lH kk)=tj:=by unfold Builtin.List.listFitsIndex;rw[bW];exact#[P9 (gq (by decide) (tJ kk)),P9 (vR.mpr (qK (gz kl zz) qQ))]);have ix:seqIndex? (lH kk) us.toArray.size=se kk:=seqIndex_of (k:=(kk:Int)) (tJ kk) (vR.mpr (by exact kl));(have ey:us.toArray[kk]?=ZJ:=by simpa using e3);have zs:us.toArray.size<=sizeLine:=zz;generalize lH kk=ki at fit ix;have mt:=MeetsSeq.list_pop_at a us.toArray n ki t kk v fit ix ey zs;refine S6 F.slot_list_pop #[_,f,rfl] F.entry_list_pop (F.args_list_pop_2 _ _) mt #[f,#[y,_,(z.lset (ds':=ds.eraseIdx kk) (us':=us.eraseIdx kk) (by simp) eh f (by rw[zU]) (by simp[List.length_eraseIdx,l]) (b9 (List.length_eraseIdx_le ..) zz) (λw hw=>?_) s.toks).sub (by simp +contextual [or_imp,mv]),q2]];obtain⟨j,hj⟩:=bf hw;rw[bF] at hj;simp only[List.getElem?_eraseIdx] at hj;(obtain⟨j',g1,g2⟩:∃j',ds[j']?=se w.1/\us[j']?=se w.2:=by by_cases c:j<kk;rw['>','>'] at hj;exact#[j,hj];rw[oO,oO] at hj;exact#[j+1,hj]);have hm:w∈ϝ:=aG (i:=j') (bF.mpr #[g1,g2]);simp[hm];exact q0.elim]
theorem zdl {B:Cb}{it a:Qh}{xx:D}{n:Nat}(nt:QY xx=ff):Wk B tg it (nRv xx n) (At [it] λi H=>H.IsRevIter it a ((n:Int)-1-(i:Int))) [(xx,ύ)] :=rS (nm:="list_reverseiterator") (by decide) (λ{i H} st=>by obtain⟨o,e,c,d⟩:=st;exact#[o,_,e,c,d,λH' e'=>#[o,e',c,d]]) (λ{X i pins ρ h ws s o} eB hd st j e {Q E} q=>by subst eB;unfold nRv at e;cases c:bq i n with| true =>(rw[c] at e;dsimp only[cond_true] at e;split at e;rename_i ds e1;(cases c2:bJ NU n with| false=>rw[c2] at e;cases e| true =>rw[c2] at e;cases e;have c:=bR.mp c;rw[wL,aR] at c2;obtain⟨a',us,ea,l,z,f,j⟩:=j.opS aI e1;cases ea;rw[nt] at f;obtain⟨n',f⟩:=f;have e4:ds[n-1-i]?=se (ds[n-1-i]'(by lia)):=aJ (by lia);rw[aW,e4] at q;obtain⟨u,e5,j⟩:=j.item l e4;(have ei:(n:Int)-1-(i:Int)=((n-1-i:Nat):Int):=by lia);rw[ei] at st;refine wpAny_pyNext_rev_item st #[_,f,rfl,n',rfl] (x:=u) (by simpa using e5) λh' fD sb=>q TG h' s.toks (λb o hb e=>sb.extBut b o hb e) #[?_,u,rfl,j];(have e2:((n-1-i:Nat):Int)-1=(n:Int)-1-((i+1:Nat):Int):=by lia);rw[<-e2];exact fD);cases e)| false =>rw[c] at e;dsimp only[cond_false] at e;cases c2:bJ i n with| false=>rw[c2] at e;cases e| true =>rw[c2] at e;cases e;rw[wL] at c2;subst c2;rw[show(i:Int)-1-(i:Int)=-1 by lia] at st;exact wpAny_pyNext_rev_end hd st λh' eb=>q ng h' s.toks (λb o hb e=>eb b o hb e) rfl) λst q=>wpAny_pyIter_revIter st q
omit Y in
theorem OJ (Y:Yx X k)(h1:QG X [L2,px] (rN i))(h2:QG X [NZ,y] (rN j))(ly:(T8 [[L2,px],[NZ,y]] X.env).findIdx? (·.1)=none:=by rfl)(hn:(T8 [[L2,px],[NZ,y]] X.env).length=2:=by rfl):QG X (.Tuple [[L2,px],[NZ,y]] kt pos) (rL2 i j):=#[λ{pins ρ ρ' h ws s d u} z e=>by
 unfold rL2 at e
 split at e
 .cases e;obtain⟨a,us,rfl,l,zz,f,z⟩:=z.opS aI rfl;obtain⟨n,f⟩:=f;rw[assign_Tuple];refine Qd (wpAny_standAt ?_);unfold unpack;have sz:(T8 [[L2,px],[NZ,y]] X.env).length=us.toArray.size:=by rw[hn,fR,<-l];rfl
  rw[sz,ly];refine Qd (Sf (PySem.W.kun_itemsOf (z.hd Y) #[_,f,rfl,n,rfl] λh' hx=>?_));have z:=(z.kept (λb o e=>hx b o [PF,e] e) s.toks);obtain⟨u1,r,rfl,l2⟩:=kP l;obtain⟨u2,r,rfl,l3⟩:=kP l2;cases r with
  | cons _ _=>cases l3
  | nil=>exact Rh (Rj (h1.h (ws:=(_,u2)::_) (z.sub (by simp +contextual [or_imp])) rfl) λ_ _ z=>Rh (Rj (h2.h z rfl) λ_ _ z=>Vc z))
 .cases e]
include Y in
theorem zen (ha:QE X a fa)(h:SC X "reversed" pos [a]:=by exact⟨rfl,by decide,by decide,rfl⟩)(hs:[ϴ,[a]]=[(ff,[Ϭ,a])]:=by rfl):QI X tg [Z2,.Name "reversed" p,[a],[]] (rIv fa):=#[λ{pins ρ _ ws _ P} z q=>Qp (io z h.g Fr HF (jd h.pl (gi h.pl (by
 rw[hs];refine[HH,[wr,z],λu s1 #[x,h1,z,q]=>Calls.spliced_nil ?_];obtain⟨ds,e1,q⟩:=q.o;obtain⟨nt,q⟩:=q.i;have nt:ϩ=ff:=by simpa using nt
 obtain⟨a,us,rfl,l,zz,f,_⟩:=z.opS aI e1;rw[nt] at f;obtain⟨n,f⟩:=f;refine call_reversed_list #[_,f,rfl,n,rfl] ?_;have en:((us.toArray.size:Nat):Int)-1=((NU:Nat):Int)-1-((0:Nat):Int):=by rw[fR,<-l,aR];simp
 rw[en];have st:Heap.IsRevIter (s1.heap.push (revObj a (((NU:Nat):Int)-1-((0:Nat):Int)))) s1.heap.objs.size a (((NU:Nat):Int)-1-((0:Nat):Int)):=#[_,Heap.get?_push_size _ rfl,rfl,rfl];refine wpAny_pyIter_revIter st ?_;obtain⟨o,e2,c,d⟩:=id st;exact mG (as:=[s1.heap.objs.size]) (zdl (a:=a) nt) z (λ_ _=>Heap.get?_push_of_some _) st (λkk=>#[o,kk _ (by simp) _ e2,c,d]) (λb hb=>by rw[cT.mp hb];exact#[gf,_,e2]) q s1.toks))) h.n h.d)]
end
end NAL.RZ
set_option maxHeartbeats 40000000
namespace NAM
open PySem PySem.Spec PyProof.Rows NAL NAL.EX NAL.RX NAL.RZ
def rl (s:String):Ks:=do
 let h <- `(?_)
 let t <-(s.splitOn " ").toArray.mapM fun x=>let p:=x.splitOn "/"; let e:Lean.Term:=#[Lean.Syntax.mkApp (Lean.mkIdent p.head!.toName) (.replicate (p.getD 1 "").length h)]; `(tacticSeq| refine $e)
 `(tactic| first $[| $t]*)
def gl (s:String):Ks:=do
 let t <-(s.splitOn " ").toArray.mapM fun x=>let i:=Lean.mkIdent x.toName; `(tacticSeq| show $i ..; walk_at $(Lean.Syntax.mkStrLit x))
 `(tactic| first $[| $t]*)
local macro_rules | `(tactic| walk_at "sc")=>`(tactic| exact ⟨by decide +kernel,rfl,rfl,by decide +kernel,(by repeat (first | exact True.intro | refine And.intro (Or.inl rfl) ?_ | refine And.intro (Or.inr rfl) ?_)),rfl,by decide +kernel,by decide +kernel,by intro _; rfl⟩)
local macro_rules | `(tactic| walk_at "q")=>gl "QE QA QT QW QS QB QI QO"
local macro_rules | `(tactic| walk_at "QE1")=>rl "q_v zbX yL zcS zex MC zej/xx zck/xx zcB/xxx Nc/x zci/xxx NT/x zbz/xx zdn/x M6/x M7 ML/xx MM/xx zaD/x MK/x zdq/x MN/xxx zba/xx zcH/xx NL/xxx NG/x OG/xx zbv/xx zbj/xx NE/xx zcX/xx Nb/x Nf/x q_b/x zde/x Oj/x zaC/x zdk/x zdH/xx M8/x"
local macro_rules | `(tactic| walk_at "QE")=>`(tactic| first
 | walk_at "QE1"
 | refine yT (vB (by decide)) (by walk_at "sc") ?_ (λc Y=>de Y) λc Y=>?_
 | refine yT (vC (by decide) (by decide)) (by walk_at "sc") ?_ (λc Y=>rR Y (de Y) (de Y)) λc Y=>?_
 | refine yT (FD (by decide) (by decide) (by decide)) (by walk_at "sc") ?_ (λc Y=>vA Y (de Y) (de Y) (de Y)) λc Y=>?_
 | refine FQ (vB (by decide)) (by walk_at "sc") ?_ (λc Y=>de Y) (λc Y=>?_) λc Y=>?_
 | refine FQ (vC (by decide) (by decide)) (by walk_at "sc") ?_ (λc Y=>rR Y (de Y) (de Y)) (λc Y=>?_) λc Y=>?_
 | refine Oq (by assumption) rfl ?_ ?_
 | exact Op (by assumption) (λ_ _ _=>rfl))
local macro_rules | `(tactic| walk_at "QA")=>rl "p8 p9/xx"
local macro_rules | `(tactic| walk_at "QT1")=>rl "MH/xx MP/x MO/x"
local macro_rules | `(tactic| walk_at "QT")=>`(tactic| first
 | walk_at "QT1"
 | refine Ff (Fd ?_ ?_)
 | refine Ff (Fe ?_ ?_))
local macro_rules | `(tactic| walk_at "QW")=>rl "Fd/xx Fe/xx MR/x MS/x"
local macro_rules | `(tactic| walk_at "QS1")=>rl "zch/x MX/x MZ/xxx zau/x zbx/xx zaN/xxx zad/xxx Nl/xx MT zcb/x"
local macro_rules | `(tactic| walk_at "QS")=>`(tactic| first
 | walk_at "QS1"
 | refine yU (vB (by decide)) (by walk_at "sc") ?_ (λc Y=>de Y) λc Y=>?_
 | refine yU (vC (by decide) (by decide)) (by walk_at "sc") ?_ (λc Y=>rR Y (de Y) (de Y)) λc Y=>?_
 | refine yU (FD (by decide) (by decide) (by decide)) (by walk_at "sc") ?_ (λc Y=>vA Y (de Y) (de Y) (de Y)) λc Y=>?_
 | refine FR (vB (by decide)) (by walk_at "sc") ?_ (λc Y=>de Y) (λc Y=>?_) λc Y=>?_
 | refine FR (vC (by decide) (by decide)) (by walk_at "sc") ?_ (λc Y=>rR Y (de Y) (de Y)) (λc Y=>?_) λc Y=>?_
 | refine FE ?_ (vA inferInstance (de inferInstance) (de inferInstance) (de inferInstance))
 | refine FE ?_ (OJ inferInstance (de inferInstance) (de inferInstance))
 | refine yR ?_ (λY=>de Y) ?_
 | refine yR ?_ (λY=>rR Y (de Y) (de Y)) ?_
 | refine yR ?_ (λY=>vA Y (de Y) (de Y) (de Y)) ?_)
local macro_rules | `(tactic| walk_at "QB")=>rl "MV/x zc9/xx zcu"
local macro_rules | `(tactic| walk_at "QI")=>rl "zbK/x zen/x zat/x zaA/xx zbA/xxx Nr/x"
local macro_rules | `(tactic| walk_at "QO")=>rl "FY yY/x"
local macro_rules | `(tactic| walk_at "x")=>`(tactic| repeat' (walk_at "q"))
local macro_rules | `(tactic| walk_at "sf")=>`(tactic| exact ⟨rfl,rfl,rfl,by decide +kernel,rfl,by decide +kernel,by decide +kernel⟩)
def Gh:Nat->(ϖ->Prop)->Prop| 0,P=>P []| n+1,P=>∀a,Gh n λl=>P (a::l)
theorem rZ {n:Nat}{P:ϖ->Prop}(h:Gh n P):∀us:ϖ,us.length=n->P us:=by induction n generalizing P with| zero=>(intro us hl;cases us with| nil=>exact h| cons _ _=>cases hl)| succ n ih=>intro us hl;cases us with| nil=>cases hl| cons a us=>exact ih (h a) us (jy hl)
local macro_rules | `(tactic| walk_at "b")=>`(tactic| first | exact fun _ _ _ _ _ _=>rZ (n:=1) fun _=>rfl | exact fun _ _ _ _ _ _=>rZ (n:=2) fun _ _=>rfl | exact fun _ _ _ _ _ _=>rZ (n:=3) fun _ _ _=>rfl | exact fun _ _ _ _ _ _=>rZ (n:=4) fun _ _ _ _=>rfl | exact fun _ _ _ _ _ _=>rZ (n:=5) fun _ _ _ _ _=>rfl)
local macro_rules | `(tactic| walk_at "B")=>`(tactic| (intro f cdv A outer g h s E Y; walk_at "x"))
abbrev Fq:=Nat×Nat×Qi×Qi×RV
noncomputable abbrev tF (x:Qi) (i:Nat):Fq:=(0,0,x,x,top i)
noncomputable abbrev mF (c:Nat) (x q:Qi) (i j:Nat):Fq:=(1,c,x,q,WR (top i) j)
structure Ad where
 p:Qh
 r:Qh
 h:Qh
 t:Qh
noncomputable abbrev Cc (Θ:Bg) (a:Ad):CT:=gC Θ.K a.p a.r a.h a.t λ_=>0
noncomputable abbrev Tt (Θ:Bg) (a:Ad):Bz:=Θ.T NoER (Cc Θ a)
abbrev dS (x:Qi)(k:Nat)(ps:Χ)(e:Φ->TH->R D)(Θ:Bg)(a:Ad):Prop:=RDef (Tt Θ a) x k ps e
abbrev mS (c:Nat)(x:Qi)(k:Nat)(ps:Χ)(e:Φ->TH->R D)(Θ:Bg)(a:Ad):Prop:=RMet (Tt Θ a) c x k ps e
abbrev cS (x:Qi)(c k:Nat)(ps:Χ)(e:Φ->TH->R D)(Θ:Bg)(a:Ad):Prop:=RCls (Tt Θ a) x c k ps e
abbrev iS (x:Qi)(d:D)(Θ:Bg)(a:Ad):Prop:=RCst (Tt Θ a).B Θ.mg Θ.base x d
section
variable {Θ:Bg}{a:Ad}{K:bj}{N ps:Χ}{x y q:Qi}{st:RV}{k c n j m:Nat}{keep:Bool}{fs:RS}{cl:Nat->Qh}
def Fcs (K:bj)(cl:Nat->Qh):List Fq->Prop| []=>True| (0,_,x,_,st)::l=>FT K x st/\Fcs K cl l| (_,c,x,q,st)::l=>FM K (cl c) x q st/\Fcs K cl l
theorem vE:∀{l:List Fq} {n:Nat},Fcs K cl l->l[n]?=se (0,c,x,q,st)->FT K x st| _::_,0,a,e=>by cases e;exact a.1| (0,_)::_,_+1,a,e=>vE a.2 e| (_+1,_)::_,_+1,a,e=>vE a.2 e
theorem r5:∀{l:List Fq} {n:Nat},Fcs K cl l->l[n]?=se (1,c,x,q,st)->FM K (cl c) x q st| _::_,0,a,e=>by cases e;exact a.1| (0,_)::_,_+1,a,e=>r5 a.2 e| (_+1,_)::_,_+1,a,e=>r5 a.2 e
structure Bb (Θ:Bg)(a:Ad)(l:List Fq):Prop where
 B:Bx (Tt Θ a)
 X:∃h,Θ.K.In h/\Heap.Ns h Qw Θ.mg
 f:Fcs Θ.K (Cc Θ a).cl l
 c:∀c,Cls Θ.K ((Cc Θ a).cl c)/\pD Θ.K ((Cc Θ a).cl c)=tj/\gW Θ.K (.ref ((Cc Θ a).cl c))=tj
 l:∀i p,lb i=ο->LamF (Tt Θ a) 0 i p.1 p.2
variable {l:List Fq}(B:Bb Θ a l)
include B
theorem dd (i:Nat)(N:Χ)(t:l[i]?=se (0,0,x,x,st):=by rfl)(S:Ta N ps ta:=by walk_at "sf")(b:BA x x st ps:=by walk_at "b")(hn:ps.length=n:=by rfl)(hL:N.length=n+j:=by rfl)(h:mH (Tt Θ a) N x st k fs:=by walk_at "B"):dS x (k+1) ps (Sl keep n j fs) Θ a :=let #[_,X,G]:=B.X;Ox B.B (zdR ps X G (vE B.f t) b) S hn hL rY h
theorem dm (i:Nat)(N:Χ)(t:l[i]?=se (1,c,x,q,st):=by rfl)(S:Ta N ps ta:=by walk_at "sf")(b:BA x q st ps:=by walk_at "b")(hn:ps.length=n:=by rfl)(hL:N.length=n+j:=by rfl)(h:mH (Tt Θ a) N q st k fs:=by walk_at "B"):mS c x (k+1) ps (Sl keep n j fs) Θ a:=zet B.B (zaw ps (r5 B.f t) (B.c c).1 b) S hn hL rY h
theorem dc (i:Nat)(N:Χ)(hm:Θ.mg y=[ZN,(Cc Θ a).cl c])(t:l[i]?=se (1,c,("__init__":Qi),q,st):=by rfl)(S:Ta N ps ta:=by walk_at "sf")(b:BA "__init__" q st ps:=by walk_at "b")(hn:ps.length=n:=by rfl)(hL:N.length=n+j:=by rfl)(h:mH (Tt Θ a) N q st k fs:=by walk_at "B"):cS y c (k+1) ps (Sl keep n j fs) Θ a:=Gc B.B (Ge ps (B.c c).2.1 (B.c c).2.2 (r5 B.f t) b) hm S hn hL rY h
theorem dcK (i:Nat)(N:Χ)(hm:Θ.mg y=[ZN,(Cc Θ a).cl c])(t:l[i]?=se (1,c,("__init__":Qi),q,st):=by rfl)(S:Ta N ps ta:=by walk_at "sf")(b:BA "__init__" q st ps:=by walk_at "b")(hn:ps.length=n:=by rfl)(hL:N.length=n+j:=by rfl)(h:mH (Tt Θ a) N q st k fs:=by walk_at "B"):cS y c (k+1) ps (fnK m n j fs) Θ a:=Gc B.B (Ge ps (B.c c).2.1 (B.c c).2.2 (r5 B.f t) b) hm S hn hL Ow h
end
theorem OL {Θ:Bg}{a:Ad}(B:Bx (Tt Θ a)):∀l p,lb l=ο->LamF (Tt Θ a) 0 l p.1 p.2:=by intro l p e;cases l with| succ n=>cases e| zero =>cases e;(have S:Ta ["share"] ["share"] lamS.scope:=by walk_at "sf");refine#[["share"],rfl,S,λpm cd ct us hl=>?_,λf cd A outer g h s hr=>?_];obtain⟨_,rfl⟩:=vY.mp hl;rfl;have Y:=zbU (T:=Tt Θ a) (N:=["share"]) (qual:=lamS.qual) (scope:=lamS.scope) (f:=f) (cdv:=cd) (outer:=outer) (s:=s) (g:=g) (h:=h) (k:=0) B (by decide +kernel) hr;walk_at "x"
noncomputable def fcs:List Fq:=[tF "_law_cell_at" 45,tF "_law_state" 46,mF 2 "__init__" "House.__init__" 43 0,tF "is_name" 40,tF "need_name" 41,mF 1 "__init__" "Roll.__init__" 42 0,mF 1 "hand_names" "Roll.hand_names" 42 1,mF 2 "old_row" "House.old_row" 43 16,mF 0 "__init__" "Pour.__init__" 18 0,mF 0 "gives_with_rest" "Pour.gives_with_rest" 18 3,mF 0 "has_room" "Pour.has_room" 18 4,mF 0 "far_end" "Pour.far_end" 18 1,mF 0 "may_go" "Pour.may_go" 18 2,mF 0 "row_behind" "Pour.row_behind" 18 6,mF 0 "steps_to_room" "Pour.steps_to_room" 18 5,mF 0 "leads_on" "Pour.leads_on" 18 10,mF 0 "skip_dead_ties" "Pour.skip_dead_ties" 18 9,mF 0 "way_from" "Pour.way_from" 18 8,mF 0 "send_along" "Pour.send_along" 18 11,mF 0 "send_by_steps" "Pour.send_by_steps" 18 7,mF 0 "fill" "Pour.fill" 18 12,tF "pour_more" 20,tF "pour_all" 19,tF "ties_in" 22,tF "work_in" 23,tF "pour_in" 24,tF "chosen" 25,tF "crowds_by" 26,tF "is_whole" 12,tF "divisor_of" 13,tF "part_of" 14,tF "shares_in" 31,tF "rows_from" 27,tF "deal_evenly" 30,tF "plus_in_lowest" 15,tF "sum_of_parts" 16,tF "loads_of_shares" 32,tF "is_kept" 35,tF "kept_up" 34,mF 2 "changes_to" "House.changes_to" 43 17,mF 1 "by_names" "Roll.by_names" 42 2,mF 2 "with_crew" "House.with_crew" 43 13,mF 2 "hire" "House.hire" 43 4,mF 2 "need_hand" "House.need_hand" 43 2,mF 2 "with_task" "House.with_task" 43 14,mF 2 "put" "House.put" 43 5,mF 2 "move" "House.move" 43 12,mF 2 "away" "House.away" 43 10,tF "_law_straight" 47,mF 2 "need_chore" "House.need_chore" 43 3,mF 2 "grow" "House.grow" 43 9,mF 2 "more" "House.more" 43 7,mF 2 "fewer" "House.fewer" 43 8,mF 2 "drop" "House.drop" 43 6,mF 2 "is_there" "House.is_there" 43 21,mF 2 "back" "House.back" 43 11,tF "_law_idle" 49,tF "_law_winding" 48,tF "layers_by" 28,mF 2 "layers" "House.layers" 43 25,mF 2 "waiting" "House.waiting" 43 24,mF 2 "load" "House.load" 43 18,tF "_law_told" 50,mF 2 "hands" "House.hands" 43 22,tF "_law_two" 52,tF "_law_deed" 51,tF "law" 53]
section
variable {Θ:Bg}{a:Ad}(B:Bb Θ a fcs)
include B
abbrev vF:=dS "_law_cell_at" 1 ["_law_script","_law_k"] QC
theorem ON :vF Θ a:=by exact dd B 0 ["_law_script","_law_k"]
abbrev Gi:=dS "_law_state" 2 ["_law_script"] VM
theorem OO (_:vF Θ a):Gi Θ a:=by exact dd B 1 ["_law_script","_law_hands","_law_gone","_law_chores","_law_k","_law_cell","_law_work","_law_bits","_law_names"]
abbrev ze:=cS "House" 2 1 ["self"] VO
theorem zbw  (u:Θ.mg "House"=[ZN,a.h]):ze Θ a:=by exact dc B 2 ["self"] u
abbrev Gj:=dS "is_name" 1 ["thing"] Wl
theorem OQ (_:iS "LONGEST_NAME" (.int 12) Θ a):Gj Θ a:=by exact dd B 3 ["thing"]
abbrev zf:=dS "need_name" 2 ["thing"] U8
theorem zaG (_:Gj Θ a):zf Θ a:=by exact dd B 4 ["thing"]
abbrev zg:=cS "Roll" 1 1 ["self","crew","tasks"] Va
theorem OU  (u:Θ.mg "Roll"=[ZN,a.r]):zg Θ a:=by exact dc B 5 ["self","crew","tasks","number_of","chore","numbers"] u
abbrev vG:=mS 1 "hand_names" 1 ["self","numbers"] Ru
theorem OV :vG Θ a:=by exact dm B 6 ["self","numbers"]
abbrev Gk:=mS 2 "old_row" 2 ["self","roll","place","touched"] Tg
theorem zc4 (_:vG Θ a)(_:iS "NOTHING" (.tup [JV,X5]) Θ a):Gk Θ a:=by exact dm B 7 ["self","roll","place","touched","chore","doers"]
abbrev Gm:=cS "Pour" 0 1 ["self","gives","takes","ties","sent"] Vb
theorem OX  (u:Θ.mg "Pour"=[ZN,a.p]):Gm Θ a:=by exact dcK B 8 ["self","gives","takes","ties","sent","tie","ends","end"] u
abbrev zh:=mS 0 "gives_with_rest" 1 ["self"] Re
theorem OY :zh Θ a:=by exact dm B 9 ["self"]
abbrev vH:=mS 0 "has_room" 1 ["self","ends"] R7
theorem OZ :vH Θ a:=by exact dm B 10 ["self","ends"]
abbrev vI:=mS 0 "far_end" 1 ["self","end","tie"] SZ
theorem zdU :vI Θ a:=by exact dm B 11 ["self","end","tie","ends"]
abbrev zi:=mS 0 "may_go" 1 ["self","end","tie"] Ue
theorem O1 :zi Θ a:=by exact dm B 12 ["self","end","tie"]
abbrev Gn:=mS 0 "row_behind" 2 ["self","row","steps"] TU
theorem O2 (_:vI Θ a)(_:zi Θ a):Gn Θ a:=by exact dm B 13 ["self","row","steps","behind","end","tie","far"]
abbrev Gp:=mS 0 "steps_to_room" 3 ["self"] Sb
theorem zcW (_:zh Θ a)(_:vH Θ a)(_:Gn Θ a):Gp Θ a:=by exact dm B 14 ["self","steps","row","give"]
abbrev Gq:=mS 0 "leads_on" 2 ["self","end","tie","steps"] Uo
theorem zdF (_:vI Θ a)(_:zi Θ a):Gq Θ a:=by exact dm B 15 ["self","end","tie","steps"]
abbrev Gu:=mS 0 "skip_dead_ties" 3 ["self","end","steps","tried"] SD
theorem zay (_:Gq Θ a):Gu Θ a:=by exact dm B 16 ["self","end","steps","tried","ties"]
abbrev Gv:=mS 0 "way_from" 4 ["self","give","steps","tried"] Tf
theorem O6 (_:vH Θ a)(_:Gu Θ a)(_:vI Θ a):Gv Θ a:=by exact dm B 17 ["self","give","steps","tried","way","ends","end","tie"]
abbrev Gw:=mS 0 "send_along" 1 ["self","give","way"] SG
theorem za9 :Gw Θ a:=by exact dm B 18 ["self","give","way","take","amount","tie"]
abbrev Gx:=mS 0 "send_by_steps" 5 ["self","steps"] SY
theorem zb3 (_:zh Θ a)(_:Gv Θ a)(_:Gw Θ a):Gx Θ a:=by exact dm B 19 ["self","steps","tried","give","way"]
abbrev Gy:=mS 0 "fill" 6 ["self"] Wb
theorem zbg (_:Gp Θ a)(_:vH Θ a)(_:Gx Θ a):Gy Θ a:=by exact dm B 20 ["self","steps"]
abbrev Gz:=dS "pour_more" 7 ["gives","takes","ties","sent"] V9
theorem zaa (_:Gm Θ a)(_:Gy Θ a):Gz Θ a:=by exact dd B 21 ["gives","takes","ties","sent","pour","near"]
abbrev GA:=dS "pour_all" 8 ["gives","takes","ties"] WE
theorem zbT (_:Gz Θ a):GA Θ a:=by exact dd B 22 ["gives","takes","ties"]
abbrev zj:=dS "ties_in" 1 ["doers","crowd"] Vv
theorem zdN :zj Θ a:=by exact dd B 23 ["doers","crowd","place_of","ties","give","chore"]
abbrev zk:=dS "work_in" 1 ["works","crowd"] Vu
theorem zdT :zk Θ a:=by exact dd B 24 ["works","crowd"]
abbrev zm:=dS "pour_in" 9 ["works","doers","crowd"] Wj
theorem Pe (_:GA Θ a)(_:zj Θ a)(_:zk Θ a):zm Θ a:=by exact dd B 25 ["works","doers","crowd","many","gives"]
abbrev GC:=dS "chosen" 1 ["things","marks","wanted"] WT
theorem zdj :GC Θ a:=by exact dd B 26 ["things","marks","wanted"]
abbrev zn:=dS "crowds_by" 10 ["works","doers","many"] Ug
theorem zc0 (_:zm Θ a)(_:GC Θ a):zn Θ a:=by exact dd B 27 ["works","doers","many","crowds","uncut","crowd","near","wanted"]
abbrev GD:=dS "is_whole" 1 ["thing"] UP
theorem zbI :GD Θ a:=by exact dd B 28 ["thing"]
abbrev zq:=dS "divisor_of" 1 ["one","other"] TQ
theorem Pj :zq Θ a:=by exact dd B 29 ["one","other","greater","lesser","rest"]
abbrev zr:=dS "part_of" 2 ["top","bottom"] UE
theorem Pk (_:GD Θ a)(_:zq Θ a):zr Θ a:=by exact dd B 30 ["top","bottom","divisor"]
abbrev GE:=dS "shares_in" 10 ["works","doers","crowd"] U7
theorem zab (_:zm Θ a)(_:zr Θ a):GE Θ a:=by exact dd B 31 ["works","doers","crowd","sent"]
abbrev GF:=dS "rows_from" 2 ["doers","crowds","sents","nothing"] V8
theorem Pm (_:zj Θ a):GF Θ a:=by exact dd B 32 ["doers","crowds","sents","nothing","rows","crowd","sent","tie","amount","chore"]
abbrev GG:=dS "deal_evenly" 11 ["works","doers","many"] Ud
theorem zbN (_:zn Θ a)(_:GE Θ a)(_:GF Θ a):GG Θ a:=by exact dd B 33 ["works","doers","many","crowds","sents"]
abbrev GH:=dS "plus_in_lowest" 2 ["one","other"] T7
theorem zcM (_:zq Θ a):GH Θ a:=by exact dd B 34 ["one","other","shared","top","extra"]
abbrev GI:=dS "sum_of_parts" 3 ["parts"] UO
theorem zbQ (_:GH Θ a):GI Θ a:=by exact dd B 35 ["parts","total","part"]
abbrev zu:=dS "loads_of_shares" 4 ["doers","many","shares"] SF
theorem zc8 (_:GI Θ a):zu Θ a:=by exact dd B 36 ["doers","many","shares","shares_at","hands","row","hand","share"]
abbrev GJ:=dS "is_kept" 1 ["hands","old","stayed"] Xf
theorem zbR :GJ Θ a:=by exact dd B 37 ["hands","old","stayed"]
abbrev GK:=dS "kept_up" 12 ["works","doers","many","shares","old_loads"] Xe
theorem Ps (_:GG Θ a)(_:zu Θ a)(_:GJ Θ a):GK Θ a:=by exact dd B 38 ["works","doers","many","shares","old_loads","dealt","loads","stayed"]
abbrev GL:=mS 2 "changes_to" 1 ["self","burdens"] Tn
theorem Pu (_:iS "NOTHING" (.tup [JV,X5]) Θ a):GL Θ a:=by exact dm B 39 ["self","burdens","changes"]
abbrev GM:=mS 1 "by_names" 2 ["self","rows","is_above"] Un
theorem zei (_:vG Θ a):GM Θ a:=by have lf:=B.l;exact dm B 40 ["self","rows","is_above","told","chore","numbers","row"]
abbrev vJ:=mS 2 "settle" 13 ["self","crew","tasks","touched"] RL
theorem zb4 (_:zg Θ a)(_:Gk Θ a)(_:GK Θ a)(_:zu Θ a)(_:GL Θ a)(_:GM Θ a)(_:iS "NOTHING" (.tup [JV,X5]) Θ a){cd:Qh}(lk:LamK Θ.mg Θ.base cd a.t)(F:FMC Θ.K a.h "settle" "House.settle" (WR (top 43) 15) cd):vJ Θ a:=zd1 (N:=["self","crew","tasks","touched","roll","many","old_rows","old_loads","dealt","burdens","changes"]) B.B (zaz _ (B.c 2).1 F (by walk_at "b")) (by walk_at "sf") rfl rfl rY (by intro f A outer g h s E Y;walk_at "x")
abbrev zv:=mS 2 "with_crew" 14 ["self","name","is_present"] SK
theorem zd2 (_:vJ Θ a):zv Θ a:=by exact dm B 41 ["self","name","is_present","crew"]
abbrev zw:=mS 2 "hire" 15 ["self","name"] S9
theorem zdD (_:zf Θ a)(_:zv Θ a)(_:iS "MOST" (.int 40) Θ a):zw Θ a:=by exact dm B 42 ["self","name"]
abbrev r6:=mS 2 "need_hand" 1 ["self","name"] Rv
theorem PA :r6 Θ a:=by exact dm B 43 ["self","name"]
abbrev zx:=mS 2 "with_task" 14 ["self","chore","work","named"] SJ
theorem PB (_:vJ Θ a):zx Θ a:=by exact dm B 44 ["self","chore","work","named","tasks"]
abbrev r8:=mS 2 "put" 15 ["self","chore","work","names"] QZ
theorem PC (_:zf Θ a)(_:r6 Θ a)(_:zx Θ a)(_:iS "MOST" (.int 40) Θ a):r8 Θ a:=by exact dm B 45 ["self","chore","work","names","name"]
abbrev zy:=mS 2 "move" 15 ["self","name","to_be_there"] Uy
theorem PD (_:r6 Θ a)(_:zv Θ a):zy Θ a:=by exact dm B 46 ["self","name","to_be_there"]
abbrev r9:=mS 2 "away" 16 ["self","name"] Q7
theorem zbn (_:zy Θ a):r9 Θ a:=by exact dm B 47 ["self","name"]
abbrev GN:=dS "_law_straight" 17 ["_law_hands","_law_gone","_law_chores"] Um
theorem zbL (_:ze Θ a)(_:zw Θ a)(_:r8 Θ a)(_:r9 Θ a):GN Θ a:=by exact dd B 48 ["_law_hands","_law_gone","_law_chores","_law_house","_law_name","_law_work","_law_names"]
abbrev zB:=mS 2 "need_chore" 1 ["self","chore"] Sv
theorem zdM :zB Θ a:=by exact dm B 49 ["self","chore"]
abbrev zC:=mS 2 "grow" 15 ["self","chore","work","sign"] Uz
theorem zcA (_:zB Θ a)(_:zx Θ a):zC Θ a:=by exact dm B 50 ["self","chore","work","sign","task","after"]
abbrev zD:=mS 2 "more" 16 ["self","chore","work"] Sw
theorem PJ (_:zC Θ a):zD Θ a:=by exact dm B 51 ["self","chore","work"]
abbrev zE:=mS 2 "fewer" 16 ["self","chore","work"] Si
theorem PK (_:zC Θ a):zE Θ a:=by exact dm B 52 ["self","chore","work"]
abbrev zF:=mS 2 "drop" 14 ["self","chore"] Sy
theorem zdG (_:zB Θ a)(_:vJ Θ a):zF Θ a:=by exact dm B 53 ["self","chore","tasks"]
abbrev zG:=mS 2 "is_there" 2 ["self","name"] Q1
theorem PN (_:r6 Θ a):zG Θ a:=by exact dm B 54 ["self","name"]
abbrev vK:=mS 2 "back" 16 ["self","name"] Ry
theorem PO (_:zy Θ a):vK Θ a:=by exact dm B 55 ["self","name"]
abbrev GP:=dS "_law_idle" 17 ["_law_house","_law_hands","_law_cell","_law_k"] U9
theorem PP (_:r8 Θ a)(_:zF Θ a)(_:zG Θ a)(_:r9 Θ a)(_:vK Θ a):GP Θ a:=by exact dd B 56 ["_law_house","_law_hands","_law_cell","_law_k","_law_name"]
abbrev GQ:=dS "_law_winding" 18 ["_law_script","_law_hands","_law_gone","_law_chores"] UQ
theorem PQ (_:ze Θ a)(_:zw Θ a)(_:vF Θ a)(_:r9 Θ a)(_:r8 Θ a)(_:zD Θ a)(_:zE Θ a)(_:GP Θ a)(_:zG Θ a)(_:vK Θ a):GQ Θ a:=by exact dd B 57 ["_law_script","_law_hands","_law_gone","_law_chores","_law_house","_law_name","_law_rest","_law_k","_law_cell","_law_work","_law_names","_law_some"]
abbrev GR:=dS "layers_by" 11 ["works","doers","many"] Wa
theorem zcC (_:zn Θ a)(_:zr Θ a)(_:zk Θ a):GR Θ a:=by exact dd B 58 ["works","doers","many","crowds"]
abbrev GS:=mS 2 "layers" 12 ["self"] UR
theorem PS (_:zg Θ a)(_:GR Θ a)(_:vG Θ a):GS Θ a:=by exact dm B 59 ["self","roll","told","layer"]
abbrev GT:=mS 2 "waiting" 1 ["self"] Uq
theorem PT :GT Θ a:=by exact dm B 60 ["self"]
abbrev GU:=mS 2 "load" 2 ["self","name"] VN
theorem zcz (_:r6 Θ a):GU Θ a:=by exact dm B 61 ["self","name"]
abbrev GV:=dS "_law_told" 13 ["_law_house","_law_hands"] Sa
theorem PV (_:GS Θ a)(_:GT Θ a)(_:GU Θ a):GV Θ a:=by exact dd B 62 ["_law_house","_law_hands","_law_layers"]
abbrev GW:=mS 2 "hands" 1 ["self"] Uf
theorem zev :GW Θ a:=by exact dm B 63 ["self"]
abbrev GX:=dS "_law_two" 2 ["_law_script","_law_hands","_law_gone","_law_chores"] WG
theorem zcR (_:vF Θ a):GX Θ a:=by exact dd B 64 ["_law_script","_law_hands","_law_gone","_law_chores","_law_cell","_law_name","_law_some","_law_chore"]
abbrev GY:=dS "_law_deed" 17 ["_law_house","_law_deed_here"] SX
theorem zdJ (_:r8 Θ a)(_:zF Θ a)(_:zD Θ a)(_:zE Θ a)(_:r9 Θ a)(_:vK Θ a):GY Θ a:=by exact dd B 65 ["_law_house","_law_deed_here"]
theorem PZ {f:Qh}{fd:Q8}(_:Gi Θ a)(_:GN Θ a)(_:GQ Θ a)(_:GV Θ a)(_:GW Θ a)(_:GX Θ a)(_:GY Θ a)(F:Fun Θ.K "law" "law" (top 53) f fd):XZ (Tt Θ a) 19 f fd ["_law_script"] e_law:=vD (N:=["_law_script","_law_hands","_law_gone","_law_chores","_law_one","_law_other","_law_before","_law_there","_law_back","_law_changes","_law_turned"]) (k:=18) B.B F (by walk_at "sf") rfl rY (by walk_at "B")
end
noncomputable def hdOk (K:bj) (CP CR CH:Qh):Bool:=RZ.bltN.all (okB K)&&okC K CP ["many_gives","tie_ends","sent","spare","ties_at"]&&okC K CR ["present","dealt","works","doers"]&&okC K CH ["crew","tasks","rows","burdens","piece_rows"]&&okI K "LONGEST_NAME" 12&&okI K "MOST" 40
theorem all_mk {P:Qv}{w:Q0}{K:bj}{h:QF}{mg:Qi->ZH}{fa CP CR CH aN:Qh}{odN:Option Qh}{t0 t1 nN:Nat}{slN:Array ZH}(X:K.In h)(G:h.Ns Qw mg)(hfa:mg "law"=[ZN,fa])(neT:Qw≠490)(hcd:wS K 492 490=tj)(uPour:kq K Qw "Pour"=se [ZN,CP])(uRoll:kq K Qw "Roll"=se [ZN,CR])(uHouse:kq K Qw "House"=se [ZN,CH])(kN:kq K Qw "NOTHING"=se [ZN,aN])(kNl:K.lookup aN=se #[.type "tuple",odN,.seq ([.int 0 t0,.int 1 t1].toArray) nN,slN])(ck:hdOk K CP CR CH=tj)(sl:FMC K CH "settle" "House.settle" (WR (top 43) 15) 492)(fc:Fcs K (gC K CP CR CH 490 λ_=>0).cl fcs): ∃(C:CT) (fd:Q8),C.K=K/\(∀k,k<C.nl->∃q,[((490:Qh),lamS.qual)].lookup (C.tb k)=Ϝ)/\(∀b q,[((490:Qh),lamS.qual)].lookup b=Ϝ->∃k,k<C.nl/\C.tb k=b)/\(∀(s:Qe) (v:Value),BindsTo s fd #[[v],[]] [("_law_script",v)])/\∀base:QF,M5->base.Ns Qw mg->(∀b q,[((490:Qh),lamS.qual)].lookup b=Ϝ->[NP,b])->XZ (Bg.T #[P,w,K,mg,base] NoER C) 19 fa fd ["_law_script"] e_law:=by unfold hdOk at ck;simp only[bW] at ck;obtain⟨⟨⟨⟨⟨c0,qCP⟩,qCR⟩,qCH⟩,iLONGEST_NAME⟩,iMOST⟩:=ck;have cCP:=zd qCP;have cCR:=zd qCR;have cCH:=zd qCH;obtain⟨fL,aL,ocL,odL,kVL,docL,pmL,anL,cdL,ctL,slL,lL,cL,kpL⟩:FT K "law" (top 53):=vE (n:=66) fc rfl;cases hfa.symm.trans (nR X G aL);refine#[(gC K CP CR CH 490 λ_=>0),gX "law" "law" (SL (top 53)) (Sc (top 53)) (QN (top 53)) .none kVL docL pmL anL cdL ctL,rfl,λk hk=>?_,λb q e=>#[0,by show 0<1;decide,(one_tab e).symm],λs v=>.of_eq rfl,λbase XB GB hB=>?_];cases(show k=0 by have:k<1:=hk;lia);exact#[_,rfl];have B0:Bx (Tt #[P,w,K,mg,base] #[CP,CR,CH,490]):=#[λx hx=>OC X G (i9.mp c0 x hx),λc f hf=>match c,hf with| 0,hf=>cCP.2.2.2 f hf| 1,hf=>cCR.2.2.2 f hf| n+2,hf=>cCH.2.2.2 f hf,λ_ z=>z.elim,id];have Z:LamK mg base 492 490:=zdo XB hcd (hB 490 _ rfl) neT;have B:Bb #[P,w,K,mg,base] #[CP,CR,CH,490] fcs:=#[B0,#[h,X,G],fc,λc=>match c with| 0=>#[cCP.1,cCP.2.1,cCP.2.2.1]| 1=>#[cCR.1,cCR.2.1,cCR.2.2.1]| n+2=>#[cCH.1,cCH.2.1,cCH.2.2.1],OL B0];have fE:iS "LONGEST_NAME" (.int 12) #[P,w,K,mg,base] #[CP,CR,CH,490]:=Gd X G iLONGEST_NAME;have mP:iS "MOST" (.int 40) #[P,w,K,mg,base] #[CP,CR,CH,490]:=Gd X G iMOST;have eO:iS "NOTHING" (.tup [JV,X5]) #[P,w,K,mg,base] #[CP,CR,CH,490]:=OD X G XB kN kNl;have bL:=ON B;have f9:=OO B bL;have dw:=zbw B (nR X G uHouse);have iY:=OQ B fE;have dO:=zaG B iY;have dP:=OU B (nR X G uRoll);have bw:=OV B;have dX:=zc4 B bw eO;have gP:=OX B (nR X G uPour);have bv:=OY B;have bE:=OZ B;have bO:=zdU B;have cW:=O1 B;have df:=O2 B bO cW;have cK:=zcW B bv bE df;have dY:=zdF B bO cW;have cG:=zay B dY;have d5:=O6 B bE cG bO;have dC:=za9 B;have cJ:=zb3 B bv d5 dC;have gH:=zbg B cK bE cJ;have gO:=zaa B gP gH;have iu:=zbT B gO;have fM:=zdN B;have fP:=zdT B;have fK:=Pe B iu fM fP;have jO:=zdj B;have dN:=zc0 B fK jO;have ir:=zbI B;have dh:=Pj B;have fQ:=Pk B ir dh;have gJ:=zab B fK fQ;have gM:=Pm B fM;have fB:=zbN B dN gJ gM;have dH:=zcM B dh;have eQ:=zbQ B dH;have bT:=zc8 B eQ;have i4:=zbR B;have iZ:=Ps B fB bT i4;have cZ:=Pu B eO;have d8:=zei B bw;have bN:=zb4 B dP dX iZ bT cZ d8 eO Z sl;have bU:=zd2 B bN;have dA:=zdD B dO bU mP;have a7:=PA B;have bS:=PB B bN;have bV:=PC B dO a7 bS mP;have dB:=PD B a7 bU;have bI:=zbn B dB;have dZ:=zbL B dw dA bV bI;have bK:=zdM B;have dz:=zcA B bK bS;have dy:=PJ B dz;have cV:=PK B dz;have dD:=zdG B bK bN;have cm:=PN B a7;have cz:=PO B dB;have gL:=PP B bV dD cm bI cz;have eN:=PQ B dw dA bL bI bV dy cV gL cm cz;have gK:=zcC B dN fQ fP;have eR:=PS B dP gK bw;have dW:=PT B;have fZ:=zcz B a7;have gR:=PV B eR dW fZ;have fq:=zev B;have iq:=zcR B bL;have gN:=zdJ B bV dD dy cV bI cz;exact PZ B f9 dZ eN gR fq iq gN (lX lL cL kpL)
end NAM
open PySem PySem.W PyProof.Rows
local macro_rules | `(tactic| walk_at "t")=>`(tactic| (refine' NAL.EX.ft_mk ?a ?l ?c ?k; (case a=>k_is); (case l=>k_is); (case c=>k_is); (case k=>k_is)))
local macro_rules | `(tactic| walk_at "m")=>`(tactic| (refine' NAL.EX.fm_mk ?a ?l ?c ?k ?i; (case a=>k_is); (case l=>k_is); (case c=>k_is); (case k=>k_is); (case i=>k_is)))
local macro_rules | `(tactic| walk_at "s")=>`(tactic| (refine' NAL.RZ.fmc_mk ?a ?l ?d ?k ?i; (case a=>k_is); (case l=>k_is); (case d=>k_is); (case k=>k_is); (case i=>k_is)))
namespace PySem.W.Fast
def tw18138458473104498907:=Nat
def tw16330862408979611211:=Nat
def tw4683888392580576144:=Nat
def tw3465993645272818112:=Nat
def tw13383090908850085833:=Nat
def tw11339047331233816838:=Nat
def tw14282877339872034190:=Nat
def tw4924833259788094390:=Nat
def tw3806368864205415018:=Nat
def tw14383652746432440634:=Nat
def tw9311323212521076745:=Nat
def tw17554047738312928718:=Nat
def tw7447083618206959217:=Nat
def tw17149280355566483507:=Nat
def tw1824267342860266786:=Nat
def tw4387694407119173154:=Nat
def tw11959324902789922896:=Nat
def tw15092193501307743292:=Nat
def tw1369765924942837253:=Nat
def tw13159922239427583250:=Nat
def tw6692293749316213545:=Nat
def tw3248122941981387892:=Nat
def tw16558163876567201900:=Nat
def tw9910669867883499894:=Nat
def tw10217887329252384882:=Nat
def tw16486445491122007188:=Nat
def tw12407330956684570646:=Nat
def tw1503084720983819478:=Nat
def tw11654678751952445073:=Nat
def tw10861330972741559862:=Nat
def tw6028076663068974312:=Nat
def tw2893027328577193841:=Nat
def tw14207619798159981027:=Nat
def tw7525005338191093435:=Nat
def tw13520082425805516522:=Nat
def tw9215559893316935176:=Nat
def tw14282045360645128193:=Nat
def tw11358885110046771518:=Nat
def tw7897482701166145032:=Nat
def tw9203631382880599266:=Nat
def tw17398043917532893573:=Nat
def tw3000297514975695349:=Nat
def tw15955948363615058572:=Nat
def tw17197817921612613546:=Nat
def tw6898735838130734087:=Nat
def tw14500577436318407190:=Nat
def tw4792188718937681442:=Nat
def tw5700846943125459171:=Nat
def tw13718024431452148364:=Nat
def tw8501486212723880011:=Nat
def tw17129682078469759762:=Nat
def tw6211016119145104087:=Nat
def tw17465696655243404984:=Nat
def tw5348897072918483974:=Nat
def tw9986549166387110023:=Nat
def tw15244488880079073706:=Nat
def tw8907860578717701258:=Nat
def tw16758864184326838233:=Nat
def tw6327730616765453557:=Nat
def tw4023211778976850950:=Nat
def tw14845327064725013035:=Nat
def tw10717065747787003512:=Nat
def tw955729428870166730:=Nat
def tw3970161431647879654:=Nat
def tw11446084747586724872:=Nat
def tw1043261014191390557:=Nat
def tw6377952628604045969:=Nat
def tw3163090882791597090:=Nat
def tw10652762268817970832:=Nat
def tw12277468450987722688:=Nat
def tw7815535537418779262:=Nat
def tw17910225393696248987:=Nat
def tw8343325054008974006:=Nat
def tw4325697456567531218:=Nat
def tw2769037509615337243:=Nat
def tw754685081273762982:=Nat
def tw11663845941409558712:=Nat
def tw9966965170032794062:=Nat
def tw2799367796706178171:=Nat
def tw7115634380161867966:=Nat
def tw12123771280739356585:=Nat
def tw2424369134604460994:=Nat
def tw11554974646115124738:=Nat
def tw5216764235355308857:=Nat
def tw2685168312906926503:=Nat
def tw13565562963623454318:=Nat
def tw14637657311428783702:=Nat
def tw1043291215664372362:=Nat
def tw2549562465247582823:=Nat
def tw8792386168778487743:=Nat
def tw2869979870443965051:=Nat
def tw12295360224226648102:=Nat
def tw15986458679060410546:=Nat
def tw7191549512372288345:=Nat
def tw17483889848466120071:=Nat
def tw2458406265417879919:=Nat
def tw11268497639704527071:=Nat
def tw14745258639871561378:=Nat
def tw4120546441089528305:=Nat
def tw12784517099995734763:=Nat
def tw3826842290255651946:=Nat
def tw15459200399377772928:=Nat
def tw10688931704396997515:=Nat
def tw14789353769665124726:=Nat
def tw536917244220223691:=Nat
def tw18192812335717640910:=Nat
def tw6719195047289500525:=Nat
def tw3319838926995200298:=Nat
def tw13392103280045515151:=Nat
def tw5878883577897759778:=Nat
def tw10859906913870285226:=Nat
def tw2404821651954368362:=Nat
def tw8683485484126417069:=Nat
def tw9139860475986779960:=Nat
def tw9996339394267006743:=Nat
def tw2693515364073877952:=Nat
def tw14568657361459085379:=Nat
def tw8819093284821653743:=Nat
def tw11598032053238569499:=Nat
def tw3367179681970735758:=Nat
def tw11172684581893085595:=Nat
def tw13854581926403124277:=Nat
def tw18069663875995549484:=Nat
def tw13886722306770671045:=Nat
def tw18080435671783972719:=Nat
def tw12217412263709093847:=Nat
def tw17709449430945266657:=Nat
def tw8678588218746337604:=Nat
def tw5115429343941087212:=Nat
def tw17956451895492161168:=Nat
def tw443855078590236291:=Nat
def tw3779900013543687761:=Nat
def tw13264010939479815403:=Nat
def tw10049173104361528381:=Nat
def tw1736136327453963334:=Nat
def tw6637239693617017008:=Nat
def tw11903563215351729780:=Nat
def tw5002777741654014125:=Nat
def tw5922617383909156704:=Nat
def tw6305700837451490522:=Nat
def tw2823806577735274635:=Nat
def tw12975292469412486382:=Nat
def tw16734768988774960236:=Nat
def tw2089886953045287608:=Nat
def tw7935411326388834366:=Nat
def tw4664208946283799335:=Nat
def tw17231141410499323201:=Nat
def tw16740351877181401237:=Nat
def tw1582705945334770917:=Nat
def tw780604869095069494:=Nat
def tw1351311138740139617:=Nat
def tw1179170219213294724:=Nat
def tw1221607115918414885:=Nat
def tw18365976835708813572:=Nat
def tw18361195928428895836:=Nat
def tw17791345003320219999:=Nat
def tw13239640710336881463:=Nat
def tw2168979246443280135:=Nat
def tw18018306026842869181:=Nat
def tw9942357935585521091:=Nat
def tw15504810719691648983:=Nat
def tw1470290515280042454:=Nat
def tw6091300573153953551:=Nat
def tw15446123532027302569:=Nat
def tw1742441592687953843:=Nat
def tw4619786826354263314:=Nat
def tw8137232121974056420:=Nat
def tw951135116233418422:=Nat
def tw6485474371462151606:=Nat
def tw6468488835194673140:=Nat
def tw16651404066149068087:=Nat
def tw8096831601420789632:=Nat
def tw8999674655823007934:=Nat
def tw8298379870744521956:=Nat
def tw15856970787872385314:=Nat
def tw12964678871468615815:=Nat
def tw5882148201642353191:=Nat
def tw2957620283492145504:=Nat
def tw2034865832624944595:=Nat
def tw6669615519609274312:=Nat
def tw16071909520691914053:=Nat
def tw13381350688708821412:=Nat
def tw17282036348542001355:=Nat
def tw16823061034278975540:=Nat
def tw4980389286879300368:=Nat
def tw15500744331162551354:=Nat
def tw14674175591901350807:=Nat
def tw4326384858806608943:=Nat
def tw13146154927041944692:=Nat
def tw14208357494011250585:=Nat
def tw18362406828804121016:=Nat
def tw5863364672086692930:=Nat
def tw14027271320900705255:=Nat
def tw3019051466730534925:=Nat
def tw12778917134484593708:=Nat
def tw9806821507659866996:=Nat
def tw11989471865104792796:=Nat
def tw8759618060681083989:=Nat
def tw15566043592781959956:=Nat
def tw4526579688088198902:=Nat
def tw18319139201590903613:=Nat
def tw3368466389504302453:=Nat
def tw13836931887682297111:=Nat
def tw897534268024258150:=Nat
def tw6683819407928991000:=Nat
def tw1806730368668624774:=Nat
def tw14030501332945577025:=Nat
def tw9873560763931106079:=Nat
def tw12006507258196042402:=Nat
def tw8584670655367571352:=Nat
def tw9811423976741282106:=Nat
def tw10587532933887776513:=Nat
def tw3995834414585777742:=Nat
def tw8667042918510541496:=Nat
def tw6764032881796990931:=Nat
def tw2639863911266696053:=Nat
def tw4200891679675903927:=Nat
def tw17281501462420260600:=Nat
def tw11758261529296434960:=Nat
def tw7587766778949536660:=Nat
def tw10466854278271180736:=Nat
def tw2233764646531930279:=Nat
def tw2340370170984786913:=Nat
def tw8892379480020092032:=Nat
def tw4088894696545343013:=Nat
def tw15874007697795347157:=Nat
def tw10831757784016165787:=Nat
def tw14414868658159811921:=Nat
def tw3557120681324429755:=Nat
def tw15797773100611659204:=Nat
def tw5218157972830610073:=Nat
def tw3599146365025886161:=Nat
def tw7188245936395760657:=Nat
def tw7718362508886208415:=Nat
def tw15278804241806869994:=Nat
def tw2603346759214519122:=Nat
def tw3088021535628667303:=Nat
def tw13478535349366072820:=Nat
def tw16432888898091138392:=Nat
def tw7461327702719401412:=Nat
def tw12587253353027463291:=Nat
def tw17720139777035791716:=Nat
def tw5698994470429496410:=Nat
def tw7124996711798621259:=Nat
def tw15365553212379990418:=Nat
def tw11336139868920109660:=Nat
def tw9368115827914753942:=Nat
def tw11168973045323222950:=Nat
def tw17128235130376501385:=Nat
def tw17428588302251898765:=Nat
def tw8547703711142142931:=Nat
def tw4063432024611593398:=Nat
def tw4345783854232939613:=Nat
def tw17050091166320229479:=Nat
def tw14273311469950505258:=Nat
def tw6548074924872675066:=Nat
def tw4768342874705979502:=Nat
def tw5130817279267358605:=Nat
def tw12249115532263210850:=Nat
def tw18112138531648645990:=Nat
def tw16496360943219788024:=Nat
def tw585326301344664390:=Nat
def tw17057155487234109782:=Nat
def tw17934831009345779730:=Nat
def tw3191996036526930198:=Nat
def tw7137156491655718728:=Nat
def tw4959217724050090843:=Nat
def tw4528145987791797510:=Nat
def tw16805308782797701093:=Nat
def tw17680692404187412603:=Nat
def tw10160213799897809551:=Nat
def tw9995915763842550059:=Nat
def tw4164096461397666775:=Nat
def tw4849397580050232329:=Nat
def tw5769374259699553171:=Nat
def tw11195222108664346466:=Nat
def tw6419398245516926947:=Nat
def tw3667194540824240940:=Nat
def tw3981951755069474008:=Nat
def tw11680435417015403470:=Nat
def tw1290076334544960208:=Nat
def tw8625682995887407998:=Nat
def tw9271012574743605282:=Nat
def tw3035477066624528547:=Nat
def tw5229496583769706170:=Nat
def tw5577498332130683173:=Nat
def tw9184245311965214816:=Nat
def tw14143071223462495023:=Nat
def tw14881010038099915166:=Nat
def tw1734295121782945725:=Nat
def tw9172798222987197439:=Nat
def tw16084545021528924965:=Nat
def tw2983502554455530339:=Nat
def tw13654335700062523200:=Nat
def tw11479553305913319030:=Nat
def tw3249896462898173497:=Nat
def tw17423140650423710937:=Nat
def tw11352883092256534848:=Nat
def tw17586922918836385021:=Nat
def tw17399443582535479901:=Nat
def tw11162175971507275804:=Nat
def tw17148216487292643415:=Nat
def tw9982645282682213591:=Nat
def tw10736478461411589623:=Nat
def tw9027404499962923294:=Nat
def tw13488717152696821684:=Nat
def tw16593732210225988591:=Nat
def tw8150234531972988537:=Nat
def tw17739862852598916897:=Nat
def tw4911107983204898976:=Nat
def tw13205375291967055273:=Nat
def tw3867118784646425598:=Nat
def tw9804972529352756464:=Nat
def tw7422271231683154152:=Nat
def tw68332968004975231:=Nat
def tw18060169753074208521:=Nat
def tw3238672477247652273:=Nat
def tw8527166371022811138:=Nat
def tw8350433678496584972:=Nat
def tw1193024297306284369:=Nat
def tw6784623501666168156:=Nat
def tw12771496177891842875:=Nat
def tw2730583665465846596:=Nat
def tw12175706376436193823:=Nat
def tw10084338246861365222:=Nat
def tw5485869615910144438:=Nat
def tw3769912233342705227:=Nat
def tw3336948785939040043:=Nat
def tw4853347535643700287:=Nat
def tw6420608658362354101:=Nat
def tw17478358771645607485:=Nat
def tw13142915778235753034:=Nat
def tw6496924307846238533:=Nat
def tw1776021805634581259:=Nat
def tw12334195171539910986:=Nat
def tw7621400210962411431:=Nat
def tw13830743500100700281:=Nat
def tw1596219756677562590:=Nat
def tw2634020035362821296:=Nat
def tw11283073260893083702:=Nat
def tw10460154469851698620:=Nat
def tw7909757375611715609:=Nat
def tw10837888534846499023:=Nat
def tw12541639396714253314:=Nat
def tw6166953690924156970:=Nat
def tw6773357430136953401:=Nat
def tw5335775758547873514:=Nat
def tw8568544807016182002:=Nat
def tw17685038251059119005:=Nat
def tw1577555443005011478:=Nat
def tw16776987348860852672:=Nat
def tw14712443936504772511:=Nat
def tw3915179834003081079:=Nat
def tw16979032052273957198:=Nat
def tw17205486171595603155:=Nat
def tw7521332972058416444:=Nat
def tw14138610852399701789:=Nat
def tw1213071396315652669:=Nat
def tw2300664885004133311:=Nat
def tw1052204897984866230:=Nat
def tw16846878756947029424:=Nat
def tw12626895710270196888:=Nat
def tw14915662864428970929:=Nat
def tw8378621797558911116:=Nat
def tw9139814200062284332:=Nat
def tw14980810122496090652:=Nat
def tw5130508826285865592:=Nat
def tw2364127998859366674:=Nat
def tw16212026200682082110:=Nat
def tw17143332127733804919:=Nat
def tw1442882712110859655:=Nat
def tw5243753628528249:=Nat
def tw3984427370376722154:=Nat
def tw9051935718924195480:=Nat
def tw1377994195579309257:=Nat
def tw2767949819011846129:=Nat
def tw12688591281799643499:=Nat
def tw3089393603440187189:=Nat
def tw16650130897645365206:=Nat
def tw16941822649567718714:=Nat
def tw1075532990880010468:=Nat
def tw1577545213677246165:=Nat
def tw13858047098916836162:=Nat
def tw4864458698639222868:=Nat
def tw126339911948229058:=Nat
def tw13836529809083444022:=Nat
def tw15395352063167207629:=Nat
def tw4665403771846315867:=Nat
def tw1055804659854636726:=Nat
def tw9558150859223187600:=Nat
def tw16171842972018864998:=Nat
def tw6543907815156693703:=Nat
def tw4279282020018931734:=Nat
def tw13409259799149976360:=Nat
def tw2269855542792317891:=Nat
def tw12590068997456716091:=Nat
def tw5171058993174219070:=Nat
def tw8568865735234565142:=Nat
def tw9033434249237067961:=Nat
def tw17451054235373145216:=Nat
def tw11828268785834356880:=Nat
def tw14135626487934390252:=Nat
def tw3220542595683025953:=Nat
def tw14282178480167103227:=Nat
def tw5848413241032520151:=Nat
def tw5360723225601901528:=Nat
def tw16437835984603239657:=Nat
def tw15610839284342123221:=Nat
def tw11281390083802776137:=Nat
def tw4311570463216519542:=Nat
def tw10755112648015508395:=Nat
def tw2173237976840867470:=Nat
def tw13142941838334147916:=Nat
def tw2759238784661188974:=Nat
def tw14650042173507307857:=Nat
def tw15369679726189605948:=Nat
def tw8728518122787487654:=Nat
def tw4683499240248854979:=Nat
def tw13019039970989814420:=Nat
def tw7969849699787778840:=Nat
def tw3768581652802005569:=Nat
def tw11411207193378148058:=Nat
def tw6314277919389051725:=Nat
def tw13002123285175609006:=Nat
def tw8137307787681125695:=Nat
def tw17397781358198827075:=Nat
def tw15336385951185866274:=Nat
def tw11790168581884446431:=Nat
def tw2193062968067424159:=Nat
def tw994063584647478138:=Nat
def tw14830426612845058228:=Nat
def tw9868867551858224081:=Nat
def tw11835186560627823161:=Nat
def tw4795310610531354624:=Nat
def tw3119618590341468133:=Nat
def tw14361574581951816977:=Nat
def tw10268989798532482068:=Nat
def tw6199392162548520116:=Nat
def tw2585895178712652857:=Nat
def tw605683533471820761:=Nat
def tw15045298421304785001:=Nat
def tw4654793558765803966:=Nat
def tw16905318601562968476:=Nat
def tw15329065891138743976:=Nat
def tw17978518986531156712:=Nat
def tw8393851427924310638:=Nat
def tw12042722184997227884:=Nat
def tw3810544012288762766:=Nat
def tw5239608823447995604:=Nat
def tw12934466796397219476:=Nat
def tw13651235637382675170:=Nat
def tw5669604977868587019:=Nat
def tw925670980739778133:=Nat
def tw6744594606652296828:=Nat
def tw12273752772473919919:=Nat
def tw4208451071463000981:=Nat
def tw13858646611008734829:=Nat
def tw2435614766782274877:=Nat
def tw10532878509334948337:=Nat
def tw6789824622310069685:=Nat
def tw6994198721426336099:=Nat
def tw5479780244519820009:=Nat
def tw1574755593684932333:=Nat
def tw16860895438043341644:=Nat
def tw18297832862315712501:=Nat
def tw18250933221703570283:=Nat
def tw14076766850694298868:=Nat
def tw12421374915051579203:=Nat
def tw2771800818946482673:=Nat
def tw6139587379103504817:=Nat
def tw6788404331180239439:=Nat
def tw16944440358060764030:=Nat
def tw2280232004536146195:=Nat
def tw12014049688130879263:=Nat
def tw11948104245525644512:=Nat
def tw4146618281700696726:=Nat
def tw15118962479704796335:=Nat
def tw13417789390857750634:=Nat
def tw142890102858888071:=Nat
def tw8134215452147569246:=Nat
def tw8979198045492072443:=Nat
def tw5605084540774454163:=Nat
def tw16690023864768749740:=Nat
def tw3912100150971606431:=Nat
def tw481428213269723369:=Nat
def tw870182378989261377:=Nat
def tw5727597558043210939:=Nat
def tw5654696196546508933:=Nat
def tw13058152744553948625:=Nat
def tw4029487261185984797:=Nat
def tw5467893637780441551:=Nat
def tw2753753677943921598:=Nat
def tw13571904995870988791:=Nat
def tw845386360564449663:=Nat
def tw15796373677415659577:=Nat
def tw16131514818538512108:=Nat
def tw621896141186825361:=Nat
def tw952875250175208435:=Nat
def tw14775988191303708607:=Nat
def tw7944133821972722158:=Nat
def tw13947244613920636361:=Nat
def tw4747693075530411919:=Nat
def tw15303291188197004328:=Nat
def tw12494468159223919080:=Nat
def tw9370424580945783411:=Nat
def tw792315696728267853:=Nat
def tw3093335726351128388:=Nat
def tw5384316581543423653:=Nat
def tw14261023680895650313:=Nat
def tw16297659216214709919:=Nat
def tw11695823333883643927:=Nat
def tw2510155596924760910:=Nat
def tw15292768853900955389:=Nat
def tw13371450789141023670:=Nat
def tw2742940417476692737:=Nat
def tw11880900812654897947:=Nat
def tw10291409828611330327:=Nat
def tw6374639040631094457:=Nat
def tw6437777917598027063:=Nat
def tw6468341041585717578:=Nat
def tw3970128945423133617:=Nat
def tw7347647414458720031:=Nat
def tw4806703110635579007:=Nat
def tw4200800727499523147:=Nat
def tw17828468756109403905:=Nat
def tw16770211232253478736:=Nat
def tw12210954869492960903:=Nat
def tw3746271750018025117:=Nat
def tw13337965953957185767:=Nat
def tw5943476352630862707:=Nat
def tw1364857412047619796:=Nat
def tw11345377154199945877:=Nat
def tw12922382483301309506:=Nat
def tw7452320724657511414:=Nat
def tw192719512691148866:=Nat
def tw4471449850241117559:=Nat
def tw9126811231651465669:=Nat
def tw5745834532420584891:=Nat
def tw1261725716501526376:=Nat
def tw3534731382891311881:=Nat
def tw17082612084444149160:=Nat
def tw10827987386978032241:=Nat
def tw10427512797032834191:=Nat
def tw770138990843754697:=Nat
def tw8649725675662408859:=Nat
def tw3004403681723422776:=Nat
def tw7936679977130723406:=Nat
def tw16111185644118176719:=Nat
def tw3764519315673487788:=Nat
def tw10121403146640699414:=Nat
def tw11723546617668505033:=Nat
end PySem.W.Fast
set_option maxHeartbeats 0 in
theorem PySem.Challenge.cw_evenyoke_k81_whole_same_by_any_road_holds : PySem.Challenge.rw_evenyoke_k81_whole_same_by_any_road.Holds := by
 w_on; o_law; k_head; (case hw=>w_witness2)
 k_fill
 refine NAL.RZ.walk_ofR (l:=PySem.Challenge.rw_evenyoke_k81_whole_same_by_any_road) (n:=63) (k:=19) (x:="_law_script") (ev:=NAM.e_law) (ts:=[(490,NAM.lamS.qual)]) (R:=NAL.RZ.NoER) (fun h=>h) rfl (by decide) rfl ⟨rfl,by decide,by decide⟩ (fun w h Y=>PySem.W.km_in_of Y) (fun w h Y b q e=>?T) (fun w b q e=>?C) (fun w=>?kt) ?F ?S
 case T=>exact PySem.W.km_tabs_of Y b (by have:=NAL.RZ.one_tab e; subst this; decide)
 case C=>have:=NAL.RZ.one_tab e; subst this; exact⟨492,by kernel_rfl⟩
 case kt=>kernel_rfl
 case S=>exact fun ns h=>⟨_,NAY.law_ok h⟩
 case F =>
  intro w mg fa h KX G hmg
  refine' NAM.all_mk KX G hmg (by decide) ?hcd ?uPour ?uRoll ?uHouse ?kN ?kNl ?ck ?sl ?fc
  (case uPour=>k_is)
  (case uRoll=>k_is)
  (case uHouse=>k_is)
  (case hcd=>kernel_rfl)
  (case kN=>k_is)
  (case kNl=>k_is)
  (case sl=>walk_at "s")
  (case fc=>(repeat (refine⟨?hh,?_⟩; (case hh=>first | walk_at "t" | (dsimp only [NAM.gC]; walk_at "m")))); exact True.intro)
  (case ck=>kernel_rfl)
