import PyProof.Rows.All
import Wide.All
import OpenK.AllK
import Wide.FinOn
import Lean
import PyProof.EqAt
import PyProof.EqKinds
import PyProof.TupleCall
import KE.KRevIter
import PyProof.AutoListH
import KE.KDictOf
import PyProof.AttrMissHeap
import PyProof.ListRange
import PyProof.Rows.SortWalk
import PyProof.MinMaxWalk
import PyProof.Rows.CallKwBuiltin
import PySem.Challenge.RW_evenyoke_k32_loads_and_unrest
open And renaming intro→y4w
open Array renaming getElem?_toList→y4h,length_toList→y67
open Bool renaming false_ne_true→y15,and_eq_true→y1h,eq_false_or_eq_true→y1s,eq_iff_iff→y2o,false_eq_true→y3e,not_eq_true'→y5g,or_eq_true→y5w,false_and→y66,eq_false_iff→y6t,true_and→y7l
open Int renaming gcd→y1b,mul_comm→y1k,eq_of_mul_eq_mul_right→y1l,emod_lt_of_pos→y1p,emod_nonneg→y1q,mul_le_mul_of_nonneg_right→y1r,le_of_lt→y1u,mul_fdiv_cancel_left→y1w,lt_or_le→y28,mul_nonneg→y29,mul_assoc→y2a,eq_ofNat_of_zero_le→y2b,fdiv_eq_ediv_of_nonneg→y2c,le_refl→y2e,natAbs_dvd_natAbs→y2w,mul_le_mul_of_nonneg_left→y2y,zero_add→y31,natAbs_mul→y32,le_of_mul_le_mul_right→y37,mul_right_comm→y3g,le_trans→y3k,le_of_eq→y3l,mul_pos→y3m,mul_lt_mul_of_pos_right→y3n,gcd_dvd_right→y3q,gcd_comm→y3y,zero_mul→y3z,lt_of_lt_of_le→y44,dvd_trans→y46,le_ediv_iff_mul_le→y47,toNat_natCast→y4b,mul_left_comm→y4d,toNat→y4i,mul_one→y4r,ediv_nonneg→y4v,mul_add→y4x,mul_ne_zero→y50,lt_of_mul_lt_mul_right→y53,mul_neg_of_neg_of_pos→y5b,natAbs_add_le→y5i,dvd_mul_of_dvd_left→y5n,ediv_le_self→y5p,gcd_dvd_left→y5q,ediv_mul_le→y5v,add_zero→y5y,dvd_refl→y61,ediv_mul_cancel→y6d,natCast_nonneg→y6i,neg_mul→y79,neg_mul_neg→y7a,mul_neg→y7b,add_mul→y7d,le_of_dvd→y7p
open List renaming getElem?_eq_some_iff→y00,getElem?_eq_getElem→y01,mem_of_getElem?→y02,length_map→y04,getElem?_map→y05,getD_eq_getElem?_getD→y06,take_of_length_le→y07,replicate→y08,getElem?_of_mem→y0a,mem_cons_of_mem→y0b,length_append→y0c,range→y0d,mem_singleton→y0e,map_append→y0f,mem_cons_self→y0h,getElem?_zip_eq_some→y0l,mem_cons→y0m,map_cons→y0n,size_toArray→y0o,getElem?_set_self→y0q,map_congr_left→y0r,sum_cons→y0s,getElem?_append_left→y0u,length_pos_iff→y0v,getElem?_eq_none→y0w,length_take→y0x,mem_append→y0z,getElem?_set_ne→y10,mem_filter→y12,mem_append_right→y14,of_mem_zip→y16,getElem?_append_right→y17,getElem?_replicate→y1a,getLast?_eq_getElem?→y1c,getElem?_range→y1d,idxOf_lt_length_of_mem→y1e,length_cons→y1f,not_mem_nil→y1g,mem_map→y1i,mem_range→y1j,length_replicate→y1m,getD→y1n,lookup_cons→y1o,replicate_succ→y1t,any_eq_true→y1v,length_eq_zero_iff→y1x,getLast?_eq_some_getLast→y1y,length_range→y1z,map_map→y20,drop_of_length_le→y21,length_set→y25,contains_iff_mem→y26,sum_append→y27,filter_append→y2g,append_nil→y2i,pairwise_iff_getElem→y2j,length_zip→y2k,filter_cons→y2l,mem_flatMap→y2m,map_set→y2q,getElem?_dropLast→y2s,filterMap_cons→y2t,ext_getElem?→y2u,length_filter_le→y2x,append_assoc→y33,find?_cons→y36,getElem_mem→y39,zip_cons_cons→y3a,getElem?_eq_none_iff→y3b,mem_or_eq_of_mem_set→y3c,nodup_cons→y3d,count_pos_iff→y3f,map_replicate→y3h,map_nil→y3j,range_succ→y3o,flatten_cons→y3p,mem_append_left→y3r,mem_of_mem_take→y3u,all_eq_true→y3w,foldl_cons→y41,set_cons_zero→y42,set_cons_succ→y43,pairwise_cons→y45,pairwise_lt_range→y48,lookup→y4a,foldl_append→y4e,length_singleton→y4g,pairwise_flatMap→y4j,length_drop→y4k,countP_cons→y4m,nodup_range→y4n,count_range→y4o,nodup_iff_count→y4p,countP_eq_length_filter→y4q,range'→y4y,zip_append→y4z,flatMap_append→y51,exists_cons_of_ne_nil→y52,mem_filterMap→y54,getElem?_drop→y56,count_flatMap→y57,getElem_idxOf→y58,drop_eq_getElem_cons→y5a,getElem?_take_of_lt→y5e,take_append_getElem→y5f,filter_congr→y5h,nodup_append→y5j,eq_of_mem_replicate→y5l,pairwise_singleton→y5o,range_succ_eq_map→y5s,forIn_cons→y5x,count_cons→y5z,filter_nil→y62,take_append_drop→y64,length_dropLast→y65,length→y68,map_eq_nil_iff→y69,filter_eq_self→y6b,perm_iff_count→y6c,reverse_append→y6f,count_eq_zero→y6j,filterMap_map→y6k,any_cons→y6l,find?_eq_none→y6m,any_eq_false→y6n,pairwise_map→y6u,zip_map_left→y6v,flatMap_cons→y6w,getElem?_inj→y6x,foldl→y7g,map_take→y7n,map_drop→y7o,set→y7r
open List.Pairwise renaming imp_of_mem→y5k,nil→y6r
open Nat renaming le_refl→y09,lt_of_lt_of_le→y0p,ne_of_lt→y0t,le_trans→y13,zero_le→y2d,eq_zero_or_pos→y2f,lt_of_le_of_lt→y2p,lt_irrefl→y2v,le_mul_of_pos_right→y30,lt_trichotomy→y34,lt_succ_self→y38,ne_of_gt→y3i,pow_le_pow_right→y3s,mul_le_mul_right→y3t,lt_or_ge→y3x,min_self→y40,lt_succ_of_lt→y4c,le_of_lt→y4f,le_add_right→y4l,le_succ→y5m,not_lt_zero→y60,lt_trans→y63,pow_add→y6a,pow_pos→y6e,lt_succ_of_le→y6s,le_of_eq→y6z,gcd_comm→y71,lt_of_not_ge→y74,min_eq_right→y75,mod_eq_of_lt→y76,min_eq_left→y7c,add_mul→y7e,not_lt→y7i,mod_lt→y7j,le_of_dvd→y7m,gcd→y7q
open Option renaming map_eq_some_iff→y2r,getD_none→y73,map_some→y78
open Option.some renaming inj→y11
open Or renaming inr→y70,inl→y77
open PyProof.Rows renaming callWith_type1→y24
open PySem renaming boot_len→y19,mem_of_lookup→y23,Within→y6y,call→y7h
open PySem.F renaming plainAttrs_list→y2z
open PySem.SeqAt renaming shaped→y6h
open PySem.W renaming Frag→y03,keepIn→y0g,codeIn→y0i,fnOf→y0j,nsIn→y0k,findIn→y0y,mg_none_of→y18,isFn→y22,kia_one→y2h,emptyDict→y2n,instObj→y35,plainGet→y3v,hasDictIn→y49,plainGet_of→y4s,makesIn→y4t,OpenLaw→y4u,callWith_K→y55,lookIn→y59,methodObj→y5c,plainOver→y5d,cellsFrom_some→y5r,takerIn→y5t,methodCall_KW→y5u,mg_of→y6g,specialIn→y6o,kitx_list→y6p,kitx_dict→y6q,handedIn→y72,kitOne→y7f,WalkO→y7k
set_option compiler.extract_closed false
set_option Elab.async false
set_option linter.all false
set_option maxRecDepth 100000
namespace L2
open PySem PySem.Spec PyProof.Rows
abbrev Key:=Sum Int Str
def zd2:Key->Value->Bool
 | .inl k,v=>Value.isInt k v
 | .inr x,v=>Value.isStrOf x v
def zsa (w:World):Key->Int
 | .inl k=>hashInt k
 | .inr x=>hashStr w x
theorem z24:∀{k:Key} {v:Value},zd2 k v=true->(∃i t,k=Sum.inl i/\v=Value.int i t)∨(∃x t,k=Sum.inr x/\v=Value.str x t)
 | .inl i,v,h=>by
  obtain⟨t,e⟩:=Value.isInt_shape (k:=i) (v:=v) h;exact .inl ⟨i,t,rfl,e⟩
 | .inr x,v,h=>by
  obtain⟨t,e⟩:=Value.isStrOf_shape (x:=x) (v:=v) h;exact .inr ⟨x,t,rfl,e⟩
theorem ziw (i:Int)(t:Tok):zd2 (.inl i) (.int i t)=true:=by simp[zd2,Value.isInt]
theorem zhy (x:Str)(t:Tok):zd2 (.inr x) (.str x t)=true:=by simp[zd2,Value.isStrOf]
theorem znv (a b:Int):decide ((Sum.inl a:Key)=Sum.inl b)=(a==b):=by
 by_cases e:a=b
 ·subst e;simp
 ·have h:¬(Sum.inl a:Key)=Sum.inl b:=λq=>e (Sum.inl.inj q);rw[decide_eq_false h];exact(beq_eq_false_iff_ne.mpr e).symm
theorem zoz (a b:Str):decide ((Sum.inr a:Key)=Sum.inr b)=decide (a=b):=by
 by_cases e:a=b
 ·subst e;simp
 ·have h:¬(Sum.inr a:Key)=Sum.inr b:=λq=>e (Sum.inr.inj q);rw[decide_eq_false h,decide_eq_false e]
theorem znw (a:Int)(b:Str):decide ((Sum.inl a:Key)=Sum.inr b)=false:=decide_eq_false (λq=>nomatch q)
theorem zoo (a:Str)(b:Int):decide ((Sum.inr a:Key)=Sum.inl b)=false:=decide_eq_false (λq=>nomatch q)
def z3h (prog:Program)(w:World):PySem.KeyKind prog w Key where
 is:=zd2
 hash:=zsa w
 inj:=λv a b ha hb=>by
  rcases z24 ha with ⟨i,t,rfl,rfl⟩ | ⟨x,t,rfl,rfl⟩
  ·rcases z24 hb with ⟨j,u,rfl,e⟩ | ⟨y,u,rfl,e⟩
   ·injection e with e1 _;rw[e1]
   ·exact nomatch e
  ·rcases z24 hb with ⟨j,u,rfl,e⟩ | ⟨y,u,rfl,e⟩
   ·exact nomatch e
   ·injection e with e1 _;rw[e1]
 byValue:=λk v h=>by
  rcases z24 h with ⟨i,t,rfl,rfl⟩ | ⟨x,t,rfl,rfl⟩<;>rfl
 pyHash:=λhv h=>by
  rcases z24 hv with ⟨i,t,rfl,rfl⟩ | ⟨x,t,rfl,rfl⟩
  ·exact wpAny_pyHash_int h
  ·exact wpAny_pyHash_str h
 eqBool:=λhu hv h=>by
  rcases z24 hu with ⟨i,t,rfl,rfl⟩ | ⟨x,t,rfl,rfl⟩
  ·rcases z24 hv with ⟨j,u,rfl,rfl⟩ | ⟨y,u,rfl,rfl⟩
   ·rw[znv] at h;exact wpAny_eqBool_int h
   ·rw[znw] at h;exact SeqAt.EqAt.int_str i t y u _ _ _ _ h
  ·rcases z24 hv with ⟨j,u,rfl,rfl⟩ | ⟨y,u,rfl,rfl⟩
   ·rw[zoo] at h;exact SeqAt.EqAt.str_int x t j u _ _ _ _ h
   ·rw[zoz] at h;exact wpAny_eqBool_str h
 «strs»:=λk x t v h=>by
  rcases z24 h with ⟨i,u,rfl,e⟩ | ⟨y,u,rfl,e⟩
  ·exact nomatch e
  ·injection e with e1 _
   subst e1;cases v<;>rfl
theorem zcl (prog:Program)(w:World)(i:Int)(t:Tok):(z3h prog w).is (.inl i) (.int i t)=true:=ziw i t
theorem zc7 (prog:Program)(w:World)(x:Str)(t:Tok):(z3h prog w).is (.inr x) (.str x t)=true:=zhy x t
end L2
namespace L2
open PySem PySem.Spec PyProof.Rows
inductive V where
 | non | bl (b:Bool) | int (i:Int) | str (x:Str) | byt (b:Array UInt8) | flt (b:UInt64) | ref (a:Addr) | ty (n:String)
 deriving DecidableEq
def RelV:V->Value->Prop
 | .non,u=>u=Value.none
 | .bl b,u=>u=Value.bool b
 | .int i,u=>∃t,u=Value.int i t
 | .str x,u=>∃t,u=Value.str x t
 | .byt b,u=>∃t,u=Value.bytes b t
 | .flt b,u=>∃t,u=Value.float b t
 | .ref a,u=>u=Value.ref a
 | .ty n,u=>u=Value.type n
abbrev Vals:List V->List Value->Prop:=Paired RelV
theorem Vals.length {xs:List V}{us:List Value}(r:Vals xs us):xs.length=us.length:=Paired.length r
theorem Vals.get:∀{xs:List V} {us:List Value} {i:Nat} {x:V},Vals xs us->xs[i]?=some x->∃u,us[i]?=some u/\RelV x u
 | _,_,_,_,.nil,e=>by simp at e
 | _,_,0,_,.cons r _,e=>by simp at e;subst e;exact⟨_,rfl,r⟩
 | _,_,i+1,x,.cons _ t,e=>by
  obtain⟨u,h1,h2⟩:=Vals.get (i:=i) (x:=x) t (by simpa using e)
  exact⟨u,by simpa using h1,h2⟩
theorem Vals.set {x:V}{u:Value}(r:RelV x u):∀{xs:List V} {us:List Value} (i:Nat),Vals xs us->Vals (xs.set i x) (us.set i u)
 | _,_,_,.nil=>.nil
 | _,_,0,.cons _ t=>.cons r t
 | _,_,i+1,.cons q t=>.cons q (Vals.set r i t)
theorem Vals.append:∀{xs ys:List V} {us ws:List Value},Vals xs us->Vals ys ws->Vals (xs++ys) (us++ws)
 | _,_,_,_,.nil,s=>s
 | _,_,_,_,.cons r t,s=>.cons r (Vals.append t s)
theorem Vals.take:∀{xs:List V} {us:List Value} (n:Nat),Vals xs us->Vals (xs.take n) (us.take n)
 | _,_,0,_=>.nil
 | _,_,_+1,.nil=>.nil
 | _,_,n+1,.cons r t=>.cons r (Vals.take n t)
theorem Vals.drop:∀{xs:List V} {us:List Value} (n:Nat),Vals xs us->Vals (xs.drop n) (us.drop n)
 | _,_,0,r=>r
 | _,_,_+1,.nil=>.nil
 | _,_,n+1,.cons _ t=>Vals.drop n t
theorem Vals.none_of:∀{xs:List V} {us:List Value} {i:Nat},Vals xs us->xs[i]?=none->us[i]?=none:=λ{xs us i} r e=>by
 have h1:=r.length;have h2:xs.length≤i:=y3b.mp e
 exact y3b.mpr (by omega)
def RelO:Option V->Option Value->Prop
 | some v,some u=>RelV v u
 | none,none=>True
 | _,_=>False
def KV {κ:Type}:List (κ×V)->List (κ×Value)->Prop:=Paired λ(p:κ×V) (q:κ×Value)=>p.1=q.1/\RelV p.2 q.2
def kV:Key->V
 | .inl i=>.int i
 | .inr x=>.str x
inductive HO where
 /-- a list -/
 | lst (xs:List V)
 /-- a tuple (never changes) -/
 | tup (xs:List V)
 /-- a dict whose keys are ints and texts;one whose keys are tuples of ints and texts (the empty one is both) -/
 | dK (kvs:List (Key×V)) | dT (kvs:List (List Key×V))
 /-- a set of ints: its members,its size -/
 | set (S:Int->Bool) (n:Nat)
 /-- an instance of the class at C,its dict at dx,its attributes -/
 | ins (C dx:Addr) (fs:List (Str×V))
 /-- the dict of the instance at x -/
 | own (x:Addr)
 /-- the dict of an exception -/
 | xd (fs:List (Str×V))
 /-- a bound method,f of x -/
 | met (f x:Addr)
 /-- a range object lo,lo+1,.. below hi -/
 | rng (lo hi:Int)
 /-- a thing that is known to the object (the script;a dict while a loop walks it): read,never written while it is so -/
 | frz (o:Obj) (u:HO)
 /-- a code object's table -/
 | tbl (ps:Array Value)
 /-- any other thing,by what is true of its one object (a def of one's own: SetO a S n:=HO.ext λh=>..) -/
 | ext (φ:Heap->Prop)
abbrev Hp:=Addr->Option HO
def upd (H:Hp)(a:Addr)(o:HO):Hp:=λb=>if b=a then some o else H b
theorem z01 {H:Hp}{a:Addr}{o:HO}:upd H a o a=some o:=by unfold upd;rw[if_pos rfl]
theorem z0a {H:Hp}{a b:Addr}{o:HO}(h:b≠a):upd H a o b=H b:=by unfold upd;rw[if_neg h]
theorem z77 {H:Hp}{a b:Addr}{o u:HO}(h:H a=some o)(h':H b=some u)(d:o≠u):a≠b:=by
 intro e;subst e;rw[h] at h';exact d (y11 h')
theorem z08 {H:Hp}{a b:Addr}{o:HO}(h:H a=some o)(h':H b=none):a≠b:=by
 intro e;subst e;rw[h] at h';cases h'
section
variable (P:Program)(w:World)
def ObjOk (H:Hp)(h:Heap)(a:Addr):HO->Prop
 | .lst xs=>xs.length≤sizeLine/\∃(its:List Value) (n:Nat),Vals xs its/\h.get? a=some { cls:=.type "list",data:=.seq its.toArray n }
 | .tup xs=>xs.length≤sizeLine/\∃its:List Value,Vals xs its/\IsTup h a its.toArray
 | .dK kvs=>kvs.length≤sizeLine/\(a==sysModules)=false/\∃vs,KV kvs vs/\h.DictOf (z3h P w) a vs
 | .dT kvs=>kvs.length≤sizeLine/\(a==sysModules)=false/\∃xs:List (List Key×Addr×Value),
   Paired (λ(p:List Key×V) (q:List Key×Addr×Value)=>p.1=q.1/\H q.2.1=some (.tup (p.1.map kV))/\RelV p.2 q.2.2) kvs xs /\
   ∃o es ep,h.get? a=some o/\o.ExactDict/\o.data = .dict es ep/\es.toList=xs.map (entryOfKey (tupleKind (z3h P w)))/\(xs.map (·.1)).Nodup
 | .set S n=>h.SetOf (intKind P w) a S n
 | .ins C dx fs=>H dx=some (.own a)/\fs.length≤1000/\dx≠a/\h.get? a=some (y35 C dx) /\
   ∃mA,h.Ns1 dx mA/\(∀f,RelO (fs.lookup f) (mA f))/\y6y mA (fs.map (·.1))
 | .own _=>∃o,h.get? a=some o
 | .xd fs=>∃mA,h.Ns1 a mA/\∀f,RelO (fs.lookup f) (mA f)
 | .rng lo hi=>∃t u v,h.get? a=some { cls:=.type "range",data:=.fields #[.int lo t,.int hi u,.int 1 v] }
 | .frz o u=>h.get? a=some o/\ObjOk H h a u
 | .tbl ps=>h.get? a=some { cls:=.none,data:=.fields ps }
 | .met f x=>h.get? a=some (y5c (.ref f) (.ref x))
 | .ext φ=>φ h/\(∃o,h.get? a=some o)/\∀h1 h2:Heap,φ h1->(∀o,h1.get? a=some o->h2.get? a=some o)->φ h2
def HOk (H:Hp)(h:Heap):Prop:=∀a o,H a=some o->ObjOk P w H h a o
end
section
variable {P:Program}{w:World}{H H':Hp}{h h':Heap}{a:Addr}{o:HO}
theorem ObjOk.lt (x:ObjOk P w H h a o):a<h.objs.size:=by
 cases o with
 | lst xs=>obtain⟨_,_,_,_,e⟩:=x;exact Heap.lt_size e
 | tup xs=>obtain⟨_,_,_,p⟩:=x;exact p.lt
 | dK kvs=>obtain⟨_,_,_,_,o,_,_,e,_⟩:=x;exact Heap.lt_size e
 | dT kvs=>obtain⟨_,_,_,_,o,_,_,e,_⟩:=x;exact Heap.lt_size e
 | set S n=>obtain⟨o,_,_,_,e,_⟩:=x;exact Heap.lt_size e
 | ins C dx fs=>obtain⟨_,_,_,e,_⟩:=x;exact Heap.lt_size e
 | own y=>obtain⟨_,e⟩:=x;exact Heap.lt_size e
 | xd fs=>obtain⟨_,⟨_,_,_,e,_⟩,_⟩:=x;exact Heap.lt_size e
 | rng lo hi=>obtain⟨_,_,_,e⟩:=x;exact Heap.lt_size e
 | frz ob u=>obtain⟨e,_⟩:=x;exact Heap.lt_size e
 | tbl ps=>exact Heap.lt_size (show h.get? a=some _ from x)
 | met f y=>exact Heap.lt_size (show h.get? a=some _ from x)
 | ext φ=>obtain⟨_,⟨_,e⟩,_⟩:=x;exact Heap.lt_size e
theorem Paired.mapP {α β:Type}{F G:α->β->Prop}:∀{l₁:List α} {l₂:List β},Paired F l₁ l₂->(∀a b,F a b->G a b)->Paired G l₁ l₂
 | _,_,.nil,_=>.nil
 | _,_,.cons r t,f=>.cons (f _ _ r) (Paired.mapP t f)
theorem ObjOk.stay (x:ObjOk P w H h a o)(k:∀b u,(b=a∨H b=some (.own a))->h.get? b=some u->h'.get? b=some u)
  (ho:∀b,H b=some (.own a)->H' b=some (.own a)) (ht:∀b xs,H b=some (.tup xs)->H' b=some (.tup xs)):ObjOk P w H' h' a o:=by
 induction o with
 | lst xs=>obtain⟨z,its,n,r,e⟩:=x;exact⟨z,its,n,r,k _ _ (.inl rfl) e⟩
 | tup xs=>obtain⟨z,its,r,ob,e,c⟩:=x;exact⟨z,its,r,ob,k _ _ (.inl rfl) e,c⟩
 | dK kvs=>obtain⟨z,y,vs,r,ob,es,ep,e,c⟩:=x;exact⟨z,y,vs,r,ob,es,ep,k _ _ (.inl rfl) e,c⟩
 | dT kvs =>
  obtain⟨z,y,xs,r,ob,es,ep,e,c⟩:=x;exact⟨z,y,xs,Paired.mapP r λp q z=>⟨z.1,ht _ _ z.2.1,z.2.2⟩,ob,es,ep,k _ _ (.inl rfl) e,c⟩
 | set S n=>obtain⟨ob,es,ep,t,e,c⟩:=x;exact⟨ob,es,ep,t,k _ _ (.inl rfl) e,c⟩
 | ins C dx fs =>
  obtain⟨d,z,ne,e,mA,⟨od,es,ep,e2,c⟩,r⟩:=x;exact⟨ho _ d,z,ne,k _ _ (.inl rfl) e,mA,⟨od,es,ep,k _ _ (.inr d) e2,c⟩,r⟩
 | own y=>obtain⟨ob,e⟩:=x;exact⟨ob,k _ _ (.inl rfl) e⟩
 | xd fs=>obtain⟨mA,⟨od,es,ep,e,c⟩,r⟩:=x;exact⟨mA,⟨od,es,ep,k _ _ (.inl rfl) e,c⟩,r⟩
 | rng lo hi=>obtain⟨t,u,v,e⟩:=x;exact⟨t,u,v,k _ _ (.inl rfl) e⟩
 | frz ob u ih=>obtain⟨e,q⟩:=x;exact⟨k _ _ (.inl rfl) e,ih q⟩
 | tbl ps =>
  have e:h.get? a=some { cls:=.none,data:=.fields ps }:=x;show h'.get? a=some { cls:=.none,data:=.fields ps };exact k a _ (.inl rfl) e
 | met f y =>
  have e:h.get? a=some (y5c (.ref f) (.ref y)):=x;show h'.get? a=some (y5c (.ref f) (.ref y));exact k a _ (.inl rfl) e
 | ext φ=>obtain⟨p,⟨o,e⟩,st⟩:=x;exact⟨st _ _ p λo q=>k _ _ (.inl rfl) q,⟨o,k _ _ (.inl rfl) e⟩,st⟩
theorem HOk.lt (x:HOk P w H h)(e:H a=some o):a<h.objs.size:=(x a o e).lt
theorem HOk.fresh (x:HOk P w H h)(e:h.objs.size≤a):H a=none:=by
 cases q:H a with
 | none=>rfl
 | some u=>exact absurd (y0p (x.lt q) e) (y2v _)
theorem HOk.kept (x:HOk P w H h)(k:∀b u,h.get? b=some u->h'.get? b=some u):HOk P w H h':=λa o e =>
 (x a o e).stay (λb u _ q=>k b u q) (λ_ q=>q) λ_ _ q=>q
theorem HOk.laid (x:HOk P w H h)(k:∀b u,h.get? b=some u->h'.get? b=some u)(hp:h.objs.size≤a)(new:ObjOk P w (upd H a o) h' a o):HOk P w (upd H a o) h':=λb u e=>by
 have hn:=x.fresh hp
 by_cases hb:b=a
 ·subst hb;rw[z01] at e;cases e;exact new
 ·rw[z0a hb] at e;exact(x b u e).stay (λc v _ q=>k c v q) (λc q=>by rw[z0a (z08 q hn)];exact q) λc xs q=>by rw[z0a (z08 q hn)];exact q
end
def Rd (H:Hp)(a:Addr)(u:HO):Prop:=H a=some u∨∃o,H a=some (.frz o u)
theorem Rd.ok {P:Program}{w:World}{H:Hp}{h:Heap}{a:Addr}{u:HO}(r:Rd H a u)(x:HOk P w H h):ObjOk P w H h a u:=by
 rcases r with r | ⟨o,r⟩
 ·exact x a u r
 ·obtain⟨_,q⟩:=x a _ r;exact q
def Mut:Option HO->Prop
 | some (.lst _)=>True
 | some (.dK _)=>True
 | some (.dT _)=>True
 | some (.set _ _)=>True
 | some (.ins _ _ _)=>True
 | some (.ext _)=>True
 | _=>False
section
variable {P:Program}{w:World}{H:Hp}{h h':Heap}{x e:Addr}{o':HO}
theorem HOk.write (ok:HOk P w H h)(mu:Mut (H x))(he:e=x∨H e=some (.own x))(k:∀b u,b≠e->h.get? b=some u->h'.get? b=some u)(heo:∃u,h'.get? e=some u)
  (new:ObjOk P w (upd H x o') h' x o'):HOk P w (upd H x o') h':=λb u q=>by
 have nown:∀c y,H c=some (.own y)->c≠x:=λc y r z=>by subst z;rw[r] at mu;exact mu
 have ntup:∀c xs,H c=some (.tup xs)->c≠x:=λc xs r z=>by subst z;rw[r] at mu;exact mu
 by_cases hb:b=x
 ·subst hb;rw[z01] at q;cases q;exact new
 ·rw[z0a hb] at q
  by_cases hbe:b=e
  ·have q':H b=some (.own x):=by
    rcases he with z | z
    ·exact absurd (hbe.trans z) hb
    ·rw[hbe];exact z
   rw[q] at q';cases q';obtain⟨v,hv⟩:=heo;exact⟨v,by rw[hbe];exact hv⟩
  ·refine(ok b u q).stay (λc v hc r=>k c v ?_ r) (λc r=>by rw[z0a (nown c b r)];exact r) λc xs r=>by rw[z0a (ntup c xs r)];exact r
   rcases hc with rfl | hc
   ·exact hbe
   ·rintro rfl;rcases he with z | z
    ·exact nown c b hc z
    ·rw[hc] at z;cases z;exact hb rfl
end
structure Un (fs ex:List Addr)(H H':Hp)(h h':Heap):Prop where
 keep:∀b o,h.get? b=some o->H b=none->b ∉ fs->b ∉ ex->h'.get? b=some o
 slot:∀b o,h.get? b=some o->H b=none->b∈fs->b ∉ ex->∃sl,h'.get? b=some { o with slots:=sl }
 free:∀b o,h.get? b=some o->H b=none->b ∉ ex->H' b=none
 there:∀b o,h.get? b=some o->b ∉ ex->∃o',h'.get? b=some o'
 tups:∀b xs,H b=some (.tup xs)->H' b=some (.tup xs)
 frzs:∀b o u,H b=some (.frz o u)->H' b=some (.frz o u)
 tbls:∀b ps,H b=some (.tbl ps)->∃more,H' b=some (.tbl (ps++more))
section
variable {fs fs' ex ex':List Addr}{H H1 H2:Hp}{h h1 h2 h':Heap}{a x e:Addr}{o:HO}
theorem Un.any (u:Un fs ex H H1 h h1){b:Addr}{ob:Obj}(q:h.get? b=some ob)(n:H b=none)(hx:b ∉ ex):∃sl,h1.get? b=some { ob with slots:=sl }:=by
 by_cases hb:b∈fs
 ·exact u.slot b ob q n hb hx
 ·exact⟨ob.slots,u.keep b ob q n hb hx⟩
theorem Un.kept (k:∀b u,h.get? b=some u->h'.get? b=some u):Un fs ex H H h h' :=
 ⟨λb ob q _ _ _=>k b ob q,λb ob q _ _ _=>⟨ob.slots,k b ob q⟩,λ_ _ _ n _=>n,λb ob q _=>⟨ob,k b ob q⟩,λ_ _ q=>q,λ_ _ _ q=>q,λ_ ps q=>⟨#[],by rw[q];simp⟩⟩
theorem Un.refl:Un fs ex H H h h:=Un.kept λ_ _ q=>q
theorem Un.laid (k:∀b u,h.get? b=some u->h'.get? b=some u)(hp:h.objs.size≤a)(hn:H a=none):Un fs ex H (upd H a o) h h' where
 keep:=λb u q _ _ _=>k b u q
 slot:=λb u q _ _ _=>⟨u.slots,k b u q⟩
 free:=λb u q n _=>by rw[z0a (y0t (y0p (Heap.lt_size q) hp))];exact n
 there:=λb u q _=>⟨u,k b u q⟩
 tups:=λb xs q=>by rw[z0a (z08 q hn)];exact q
 frzs:=λb u xs q=>by rw[z0a (z08 q hn)];exact q
 tbls:=λb ps q=>⟨#[],by rw[z0a (z08 q hn),q];simp⟩
theorem Un.write (mu:Mut (H x))(he:e=x∨H e=some (.own x))(k:∀b u,b≠e->h.get? b=some u->h'.get? b=some u)(heo:∃u,h'.get? e=some u):Un fs ex H (upd H x o) h h':=by
 have hx:∀b,H b=none->b≠x:=λb n z=>by subst z;rw[n] at mu;exact mu
 have hb:∀b,H b=none->b≠e:=λb n z=>by
  subst z;rcases he with r | r
  ·exact hx b n r
  ·rw[n] at r;cases r
 have hm:∀b u,H b=some u->¬Mut (some u)->b≠x:=λb u q nm z=>by subst z;rw[q] at mu;exact nm mu
 refine⟨λb u q n _ _=>k b u (hb b n) q,λb u q n _ _=>⟨u.slots,k b u (hb b n) q⟩,λb u q n _=>by rw[z0a (hx b n)];exact n,λb u q _=>?_,
  λb xs q=>by rw[z0a (hm b _ q λz=>z)];exact q,λb u xs q=>by rw[z0a (hm b _ q λz=>z)];exact q,λb ps q=>⟨#[],by rw[z0a (hm b _ q λz=>z),q];simp⟩⟩
 by_cases hbe:b=e
 ·subst hbe;exact heo
 ·exact⟨u,k b u hbe q⟩
end
def trk (h:Heap)(H:Hp):List Addr:=(y0d h.objs.size).filter λa=>(H a).isSome
def zk5 (h:Heap)(H:Hp):Heap:=PySem.W.hideAll h (trk h H)
theorem zi1 (h:Heap)(H:Hp):(zk5 h H).objs.size=h.objs.size:=PySem.W.hideAll_size _ _
theorem zkm {h:Heap}{H:Hp}{b:Addr}{o:Obj}(e:h.get? b=some o)(n:H b=none):(zk5 h H).get? b=some o :=
 PySem.W.hideAll_get _ e λhm=>by
  have q:(H b).isSome=true:=(y12.mp hm).2;rw[n] at q;simp at q
theorem zmv {h:Heap}{H:Hp}{b:Addr}{o:Obj}(e:(zk5 h H).get? b=some o):h.get? b=some o/\H b=none:=by
 have e':h.get? b=some o:=PySem.W.of_hideAll (trk h H) e;refine⟨e',?_⟩;cases q:H b with
 | none=>rfl
 | some x =>
  have hm:b∈trk h H:=y12.mpr ⟨y1j.mpr (Heap.lt_size e'),by simp[q]⟩
  have z:(zk5 h H).get? b=none:=PySem.W.hideAll_none (trk h H) hm;rw[z] at e;cases e
def zm8 (g h:Heap)(L:Addr):List (Addr×Obj):=(y0d h.objs.size).filterMap λa=>if a=L∨(g.get? a).isSome=true then none else (h.get? a).map λo=>(a,o)
def rest (g h:Heap)(L d:Addr):List (Addr×Obj):=(zm8 g h L).filter λp=>decide (p.1≠d)
end L2
namespace L2
open PySem PySem.Spec PyProof.Rows
structure Mod (K:y03)(mg:Str->Option Value)(base:Heap):Prop where
 kin:K.In base
 glob:base.Ns mainGlobals mg
 blt:∃mb,base.Ns builtinsNs mb/\∀x:Str,x ≠ "__name__"->mb x=bootBuiltins x
 nolimit:base.NoLimit
structure Cx where
 prog:Program
 w:World
 K:y03
 mg:Str->Option Value
 base:Heap
 A:Around
 N:List Str
 s₀:Shared
 H₀:Hp
 env:Env
 outer:List Env
 stack:List Env
 ex:List Addr
 fn:Str->Bool
 calm:Bool
 pn:List (Addr×Obj)
 xe:Value->Shared->Prop
def frs (l:List Env):List Addr:=l.filterMap (·.frame)
abbrev Cx.fs (X:Cx):List Addr:=frs X.outer
def Vis (sc:Scope)(x:Str):Prop:=sc.names.lookup x=some .local∨sc.names.lookup x=some .cell∨sc.names.lookup x=some .free
def Loc (sc:Scope)(x:Str):Prop:=sc.names.lookup x=some .local∨sc.names.lookup x=some .cell
def zs0 (env:Env)(h:Heap)(m:Str->Option Value)(x:Str)(u:Value):Prop :=
 (env.kindOf x=some .local/\m x=some u)∨((env.kindOf x=some .cell∨env.kindOf x=some .free)/\∃c,env.cells.lookup x=some c/\h.IsCell c (some u))
structure Cx.Ok (X:Cx):Prop where
 mod:Mod X.K X.mg X.base
 kind:X.env.scope.kind = .function
 glob:X.env.globals=mainGlobals
 blt:X.env.builtins=builtinsNs
 above:X.s₀.heap.objs.size≤X.env.locals
 inj:∀x y c,X.env.cells.lookup x=some c->X.env.cells.lookup y=some c->x=y
 has:∀x,(X.env.kindOf x=some .cell∨X.env.kindOf x=some .free)->∃c,X.env.cells.lookup x=some c
 cab:∀x c,X.fn x=true->X.env.cells.lookup x=some c->X.s₀.heap.objs.size≤c
 hd:X.calm=true->X.A.handled=none
 frames:X.A.frames=some X.stack
 stk:X.stack=X.outer∨(X.stack=X.env::X.outer/\X.env.frame=some X.env.locals)
 exf:∀b∈X.ex,b≠X.env.locals/\∀x c,X.env.cells.lookup x=some c->c≠b
 bs:∀b o,X.base.get? b=some o->X.s₀.heap.get? b=some o/\X.H₀ b=none
 bsz:X.base.objs.size≤X.s₀.heap.objs.size
 noex:∀b o,X.base.get? b=some o->b ∉ X.ex
 exfs:∀b∈X.ex,b ∉ X.fs
 funs:X.s₀.heap.FunFrames X.base X.outer
 frf:∀b∈X.fs,X.H₀ b=none
structure Inv (X:Cx)(aa:List (Addr×Obj))(σ:List (Option V))(H:Hp)(s:Shared):Prop where
 ok:X.Ok
 os:s.os=X.s₀.os
 bare:AllBare s.gens
 base:Un X.fs X.ex X.H₀ H X.s₀.heap s.heap
 loc:∃m,s.heap.Ns X.env.locals m/\∀(i:Nat) (x:Str) (v:V),X.N[i]?=some x->σ[i]?=some (some v)->Vis X.env.scope x->∃u,RelV v u/\zs0 X.env s.heap m x u
 cell:∀x c,X.env.cells.lookup x=some c->∃v,s.heap.IsCell c v
 free:H X.env.locals=none
 freeC:∀x c,X.env.cells.lookup x=some c->H c=none
 pin:∀p∈X.pn++aa,s.heap.get? p.1=some p.2/\H p.1=none/\p.1≠X.env.locals/\p.1 ∉ X.fs/\∀v,p.2.data ≠ .cell v
 hok:HOk X.prog X.w H s.heap
 len:σ.length=X.N.length
section
variable {X:Cx}{aa:List (Addr×Obj)}{σ:List (Option V)}{H H':Hp}{s:Shared}{h':Heap}
theorem Cx.Ok.nofr (ok:X.Ok){b:Addr}{o:Obj}(e:X.base.get? b=some o):b ∉ X.fs:=λhb=>by
 have:=(ok.funs.mem hb).1;rw[e] at this;cases this
theorem Inv.bs (I:Inv X aa σ H s):∀b o,X.base.get? b=some o->s.heap.get? b=some o/\H b=none:=λb o e =>
 ⟨I.base.keep b o (I.ok.bs b o e).1 (I.ok.bs b o e).2 (I.ok.nofr e) (I.ok.noex b o e),I.base.free b o (I.ok.bs b o e).1 (I.ok.bs b o e).2 (I.ok.noex b o e)⟩
theorem Inv.bk (I:Inv X aa σ H s):∀b o,X.base.get? b=some o->s.heap.get? b=some o:=λb o e=>(I.bs b o e).1
theorem Inv.mod (I:Inv X aa σ H s):Mod X.K X.mg X.base:=I.ok.mod
theorem Inv.kIn (I:Inv X aa σ H s):X.K.In s.heap:=I.ok.mod.kin.keeps I.bk
theorem Inv.lt (I:Inv X aa σ H s):X.env.locals<s.heap.objs.size:=let ⟨_,hn,_⟩:=I.loc;hn.lt
theorem Inv.sz (I:Inv X aa σ H s):X.s₀.heap.objs.size≤s.heap.objs.size:=y13 I.ok.above (y4f I.lt)
theorem Inv.nofs (I:Inv X aa σ H s){a:Addr}(h:s.heap.objs.size≤a):a ∉ X.fs:=λhb=>by
 obtain⟨_,o,ho,_⟩:=I.ok.funs.mem hb;exact absurd (y0p (Heap.lt_size ho) (y13 I.sz h)) (y2v _)
theorem Inv.cne (I:Inv X aa σ H s):∀x c,X.env.cells.lookup x=some c->c≠X.env.locals:=λx c e z=>by
 obtain⟨v,o,ho,hd⟩:=I.cell x c e;obtain⟨m,⟨o',es,ep,ho',hd',_⟩,_⟩:=I.loc;rw[z,ho'] at ho;cases ho;rw[hd'] at hd;cases hd
theorem Inv.funs (I:Inv X aa σ H s):s.heap.FunFrames X.base X.outer:=by
 have all:∀(l:List Env),(∀b∈frs l,b∈X.fs)->X.s₀.heap.FunFrames X.base l->s.heap.FunFrames X.base l:=by
  intro l
  induction l with
  | nil=>intro _ _;trivial
  | cons env r ih =>
   intro hs hl;obtain⟨hk,⟨L,o,hf,hn,ho,hd⟩,hr⟩:=hl;have hL:L∈X.fs:=hs L (by unfold frs;rw[y2t,hf];exact y0h)
   obtain⟨sl,e⟩:=I.base.slot L o ho (I.ok.frf L hL) hL λz=>I.ok.exfs L z hL;exact⟨hk,⟨L,_,hf,hn,e,hd⟩,ih (λb hb=>hs b (by unfold frs;rw[y2t,hf];exact y0b _ hb)) hr⟩
 exact all X.outer (λ_ hb=>hb) I.ok.funs
theorem Inv.stack (I:Inv X aa σ H s):s.heap.FunFrames X.base X.stack:=by
 rcases I.ok.stk with e | ⟨e,hf⟩
 ·rw[e];exact I.funs
 ·rw[e];obtain⟨m,hn,_⟩:=I.loc;refine .cons (by rw[I.ok.kind];decide) hf hn ?_ I.funs
  exact Heap.get?_none_of_le (y13 I.ok.bsz I.ok.above)
theorem Inv.stkSub (I:Inv X aa σ H s):∀b∈frs X.stack,b∈X.env.locals::X.fs:=λb hb=>by
 rcases I.ok.stk with e | ⟨e,hf⟩
 ·rw[e] at hb;exact y0b _ hb
 ·rw[e] at hb;unfold frs at hb;rw[y2t,hf] at hb;exact hb
theorem Inv.stkFree (I:Inv X aa σ H s):∀b∈frs X.stack,H b=none:=λb hb=>by
 rcases y0m.mp (I.stkSub b hb) with e | hb
 ·rw[e];exact I.free
 ·obtain⟨_,o,ho,_⟩:=I.ok.funs.mem hb;exact I.base.free b o ho (I.ok.frf b hb) λz=>I.ok.exfs b z hb
theorem Inv.step {g':Array GenState}{t':Nat}{d':Drawn}{ch:List Addr}(I:Inv X aa σ H s)
  (hch:∀b∈ch,(b∈X.ex∨X.s₀.heap.objs.size≤b)/\b≠X.env.locals/\(∀x c,X.env.cells.lookup x=some c->c≠b)/\∀p∈X.pn++aa,p.1≠b)
  (keep:∀b o,b≠X.env.locals->b ∉ X.fs->b ∉ ch->s.heap.get? b=some o->H b=none->h'.get? b=some o)
  (slot:∀b o,b≠X.env.locals->b∈X.fs->b ∉ ch->s.heap.get? b=some o->H b=none->∃sl,h'.get? b=some { o with slots:=sl }) (free:∀b o,b ∉ ch->s.heap.get? b=some o->H b=none->H' b=none)
  (there:∀b o,b ∉ ch->s.heap.get? b=some o->∃o',h'.get? b=some o')
  (tups:∀b xs,H b=some (.tup xs)->H' b=some (.tup xs)) (frzs:∀b o u,H b=some (.frz o u)->H' b=some (.frz o u)) (tbls:∀b ps,H b=some (.tbl ps)->∃more,H' b=some (.tbl (ps++more)))
  (ns:∀m,s.heap.Ns X.env.locals m->h'.Ns X.env.locals m) (hok:HOk X.prog X.w H' h') (hg:AllBare g') :
  Inv X aa σ H' { s with heap:=h',gens:=g',drawn:=d',toks:=t' }:=by
 have neL:∀b o,X.s₀.heap.get? b=some o->b≠X.env.locals:=λb o e=>y0t (y0p (Heap.lt_size e) I.ok.above);have neC:∀b o,X.s₀.heap.get? b=some o->b ∉ X.ex->b ∉ ch:=λb o e hx hb=>by
  rcases (hch b hb).1 with z | z
  ·exact hx z
  ·exact absurd (y0p (Heap.lt_size e) z) (y2v _)
 have cellK:∀x c,X.env.cells.lookup x=some c->∀v,s.heap.IsCell c v->h'.IsCell c v:=λx c e v ⟨o,ho,hd⟩=>by
  have nch:c ∉ ch:=λz=>(hch c z).2.2.1 x c e rfl
  by_cases hc:c∈X.fs
  ·obtain⟨sl,q⟩:=slot c o (I.cne x c e) hc nch ho (I.freeC x c e);exact⟨_,q,hd⟩
  ·exact⟨o,keep c o (I.cne x c e) hc nch ho (I.freeC x c e),hd⟩
 refine⟨I.ok,I.os,hg,⟨λb o e n hb hx=>?_,λb o e n hb hx=>?_,λb o e n hx=>?_,λb o e hx=>?_,λb xs e=>tups b xs (I.base.tups b xs e),λb o xs e=>frzs b o xs (I.base.frzs b o xs e),λb ps e=>?_⟩,?_,λx c e=>?_,?_,λx c e=>?_,λp hp=>?_,hok,I.len⟩
 ·exact keep b o (neL b o e) hb (neC b o e hx) (I.base.keep b o e n hb hx) (I.base.free b o e n hx)
 ·obtain⟨sl,e1⟩:=I.base.slot b o e n hb hx;obtain⟨sl',e2⟩:=slot b _ (neL b o e) hb (neC b o e hx) e1 (I.base.free b o e n hx);exact⟨sl',e2⟩
 ·obtain⟨o',e1⟩:=I.base.there b o e hx;exact free b o' (neC b o e hx) e1 (I.base.free b o e n hx)
 ·obtain⟨o',e1⟩:=I.base.there b o e hx;exact there b o' (neC b o e hx) e1
 ·obtain⟨m1,e1⟩:=I.base.tbls b ps e;obtain⟨m2,e2⟩:=tbls b _ e1;exact⟨m1++m2,by rw[e2,Array.append_assoc]⟩
 ·obtain⟨m,hn,hl⟩:=I.loc;refine⟨m,ns m hn,λi x v e1 e2 e3=>?_⟩;obtain⟨u,r,l⟩:=hl i x v e1 e2 e3;refine⟨u,r,?_⟩;rcases l with l | ⟨k,c,e,z⟩
  ·exact .inl l
  ·exact .inr ⟨k,c,e,cellK x c e _ z⟩
 ·obtain⟨v,z⟩:=I.cell x c e;exact⟨v,cellK x c e v z⟩
 ·obtain⟨m,⟨o,_,_,ho,_⟩,_⟩:=I.loc;exact free _ o (λz=>(hch _ z).2.1 rfl) ho I.free
 ·obtain⟨v,o,ho,hd⟩:=I.cell x c e;exact free c o (λz=>(hch c z).2.2.1 x c e rfl) ho (I.freeC x c e)
 ·obtain⟨e,n,ne,nf,d⟩:=I.pin p hp;have nch:p.1 ∉ ch:=λz=>(hch p.1 z).2.2.2 p hp rfl;exact⟨keep p.1 p.2 ne nf nch e n,free p.1 p.2 nch e n,ne,nf,d⟩
theorem Inv.un {t':Nat}(I:Inv X aa σ H s)(u:Un X.fs [] H H' s.heap h')(hok:HOk X.prog X.w H' h'):Inv X aa σ H' { s with heap:=h',toks:=t' }:=by
 obtain⟨m,⟨o,es,ep,ho,r⟩,_⟩:=id I.loc;obtain⟨sl,hL⟩:=u.any ho I.free (by simp)
 exact I.step (g':=s.gens) (d':=s.drawn) (ch:=[]) (λ_ z=>nomatch z) (λb o _ hb _ e n=>u.keep b o e n hb (by simp)) (λb o _ hb _ e n=>u.slot b o e n hb (by simp)) (λb o _ e n=>u.free b o e n (by simp)) (λb o _ e=>u.there b o e (by simp)) u.tups u.frzs u.tbls (λm' hm=>by
  obtain⟨o',es',ep',ho',r'⟩:=hm;rw[ho] at ho';cases ho';exact⟨_,es',ep',hL,r'⟩) hok I.bare
theorem Inv.call {g':Array GenState}{t':Nat}{d':Drawn}{ch:List Addr}(I:Inv X aa σ H s)(u:Un (frs X.stack) ch H H' s.heap h')(hok:HOk X.prog X.w H' h')(hg:AllBare g')
  (hch:∀b∈ch,(b∈X.ex∨X.s₀.heap.objs.size≤b)/\b≠X.env.locals/\(∀x c,X.env.cells.lookup x=some c->c≠b)/\∀p∈X.pn++aa,p.1≠b) :
  Inv X aa σ H' { s with heap:=h',gens:=g',drawn:=d',toks:=t' }:=by
 obtain⟨m,⟨o,es,ep,ho,r⟩,_⟩:=id I.loc;obtain⟨sl,hL⟩:=u.any ho I.free λz=>(hch _ z).2.1 rfl;exact I.step (ch:=ch) hch (λb o hL hb hc e n=>u.keep b o e n (λz=>(y0m.mp (I.stkSub b z)).elim hL hb) hc) (λb o _ _ hc e n=>u.any e n hc) (λb o hc e n=>u.free b o e n hc) (λb o hc e=>u.there b o e hc) u.tups u.frzs u.tbls (λm' hm=>by
  obtain⟨o',es',ep',ho',r'⟩:=hm;rw[ho] at ho';cases ho';exact⟨_,es',ep',hL,r'⟩) hok hg
theorem Inv.turned {t':Nat}{it:Addr}(I:Inv X aa σ H s)(k:∀b o,b≠it->s.heap.get? b=some o->h'.get? b=some o)(hn:H it=none)(hL:it≠X.env.locals)
  (h1:it∈X.ex∨X.s₀.heap.objs.size≤it) (h2:∀x c,X.env.cells.lookup x=some c->c≠it) (h3:∀p∈X.pn++aa,p.1≠it):Inv X aa σ H { s with heap:=h',toks:=t' }:=by
 have nit:∀b u,H b=some u->b≠it:=λb u e z=>by rw[z,hn] at e;cases e
 refine I.step (g':=s.gens) (d':=s.drawn) (ch:=[it]) (λb hb=>?_) (λb o _ _ hc e _=>k b o (λz=>hc (by simp[z])) e) (λb o _ _ hc e _=>⟨o.slots,k b o (λz=>hc (by simp[z])) e⟩) (λ_ _ _ _ n=>n)
  (λb o hc e=>⟨o,k b o (λz=>hc (by simp[z])) e⟩) (λ_ _ e=>e) (λ_ _ _ e=>e) (λb ps e=>⟨#[],by rw[e];simp⟩) (λm hm=>?_) (λb u e=>?_) I.bare
 ·have e:b=it:=by simpa using hb
  subst e;exact⟨h1,hL,h2,h3⟩
 ·obtain⟨o,es,ep,ho,r⟩:=hm;exact⟨o,es,ep,k _ o (Ne.symm hL) ho,r⟩
 ·refine(I.hok b u e).stay (λc v hc q=>k c v ?_ q) (λ_ q=>q) λ_ _ q=>q;rcases hc with z | z
  ·rw[z];exact nit b u e
  ·exact nit c _ z
theorem Inv.tok (I:Inv X aa σ H s)(t:Nat):Inv X aa σ H { s with toks:=t }:=I.un (h':=s.heap) (t':=t) Un.refl I.hok
theorem Inv.kept {t':Nat}(I:Inv X aa σ H s)(k:∀b u,s.heap.get? b=some u->h'.get? b=some u):Inv X aa σ H { s with heap:=h',toks:=t' }:=I.un (Un.kept k) (I.hok.kept k)
theorem Inv.laid {a:Addr}{o:HO}{t':Nat}(I:Inv X aa σ H s)(k:∀b u,s.heap.get? b=some u->h'.get? b=some u)(hp:s.heap.objs.size≤a)(new:ObjOk X.prog X.w (upd H a o) h' a o) :
  Inv X aa σ (upd H a o) { s with heap:=h',toks:=t' }:=I.un (Un.laid k hp (I.hok.fresh hp)) (I.hok.laid k hp new)
theorem Inv.write {x e:Addr}{o:HO}{t':Nat}(I:Inv X aa σ H s)(mu:Mut (H x))(he:e=x∨H e=some (.own x))(k:∀b u,b≠e->s.heap.get? b=some u->h'.get? b=some u)(heo:∃u,h'.get? e=some u)
  (new:ObjOk X.prog X.w (upd H x o) h' x o):Inv X aa σ (upd H x o) { s with heap:=h',toks:=t' }:=I.un (Un.write mu he k heo) (I.hok.write mu he k heo new)
theorem Inv.weak {σ':List (Option V)}(I:Inv X aa σ H s)(hl:σ'.length = σ.length)(w:∀(i:Nat) v,σ'[i]?=some (some v)->σ[i]?=some (some v)):Inv X aa σ' H s :=
 ⟨I.ok,I.os,I.bare,I.base,let ⟨m,hn,hl'⟩:=I.loc;⟨m,hn,λi x v e1 e2 e3=>hl' i x v e1 (w i v e2) e3⟩,I.cell,I.free,I.freeC,I.pin,I.hok,hl.trans I.len⟩
theorem Inv.pins_of {pins':List (Addr×Obj)}(I:Inv X aa σ H s)(h:∀p∈pins',s.heap.get? p.1=some p.2/\H p.1=none/\p.1≠X.env.locals/\p.1 ∉ X.fs/\∀v,p.2.data ≠ .cell v):Inv X pins' σ H s :=
 ⟨I.ok,I.os,I.bare,I.base,I.loc,I.cell,I.free,I.freeC,λp hp=>(y0z.mp hp).elim (λz=>I.pin p (y3r _ z)) (h p),I.hok,I.len⟩
theorem zeh {N:List Str}(hN:N.Nodup){i j:Nat}{x:Str}(a:N[i]?=some x)(b:N[j]?=some x):i=j:=by
 obtain⟨h1,e1⟩:=y00.mp a;obtain⟨h2,e2⟩:=y00.mp b;exact(List.getElem_inj hN).mp (e1.trans e2.symm)
theorem zh4 {M:Model}{A:Around}{E:Value->Shared->Prop}{i:Nat}{x:Str}{v:V}{u:Value}{Q:Unit->Shared->Prop}(I:Inv X aa σ H s)(hN:X.N.Nodup)(hi:X.N[i]?=some x)(hx:Loc X.env.scope x)(r:RelV v u)
  (h:∀s',Inv X aa (σ.set i (some v)) H s'->(∃a,Heap.SameBut a s.heap s'.heap/\(a=X.env.locals∨X.env.cells.lookup x=some a))->Q () s') (hf:X.fn x=true∨X.env.scope.names.lookup x=some .local:=by first | exact .inl rfl | exact .inr rfl | assumption):wpAny M A (storeName X.env x u) Q E s:=by
 obtain⟨m,hn,hl⟩:=id I.loc;have hcls:(X.env.scope.kind == .class||(X.env.scope.kind == .module&&X.env.locals != X.env.globals))=false:=by rw[I.ok.kind];rfl
 have hiσ:i < σ.length:=by rw[I.len];exact(y00.mp hi).1
 have cne:=I.cne;have tracked:∀{a:Addr} {h':Heap},(∃o,s.heap.get? a=some o/\H a=none)->Heap.SameBut a s.heap h'->HOk X.prog X.w H h':=λ{a h'} ha hs b ob e=>by
  obtain⟨_,_,hfree⟩:=ha;refine(I.hok b ob e).stay (λc w' hc q=>(hs.2 c ?_).trans q) (λ_ q=>q) λ_ _ q=>q;rintro rfl;rcases hc with rfl | hc
  ·rw[hfree] at e;cases e
  ·rw[hfree] at hc;cases hc
 rcases hx with hk | hk
 ·refine wpAny_storeName_local hk hn (λh' hn' hs=>?_) hcls;obtain⟨oL,_,_,hoL,_⟩:=id hn;refine h _ ⟨I.ok,I.os,I.bare,⟨λb o e n hb hx=>?_,λb o e n hb hx=>?_,I.base.free,λb o e hx=>?_,I.base.tups,I.base.frzs,I.base.tbls⟩,⟨_,hn',λj y v' e1 e2 e3=>?_⟩,λy c e=>?_,I.free,I.freeC,λp hp=>?_,tracked ⟨oL,hoL,I.free⟩ hs,by simpa using I.len⟩ ⟨_,hs,.inl rfl⟩
  ·exact(hs.2 b (y0t (y0p (Heap.lt_size e) I.ok.above))).trans (I.base.keep b o e n hb hx)
  ·obtain⟨sl,e1⟩:=I.base.slot b o e n hb hx;exact⟨sl,(hs.2 b (y0t (y0p (Heap.lt_size e) I.ok.above))).trans e1⟩
  ·obtain⟨o',e1⟩:=I.base.there b o e hx;exact⟨o',(hs.2 b (y0t (y0p (Heap.lt_size e) I.ok.above))).trans e1⟩
  ·by_cases hj:j=i
   ·subst hj;rw[hi] at e1;cases e1;rw[y0q hiσ] at e2;cases e2;exact⟨u,r,.inl ⟨hk,by simp⟩⟩
   ·rw[y10 (Ne.symm hj)] at e2;obtain⟨u',r',q⟩:=hl j y v' e1 e2 e3;refine⟨u',r',?_⟩;rcases q with ⟨k,e⟩ | ⟨k,c,e,z⟩
    ·refine .inl ⟨k,?_⟩;have:y≠x:=λe=>hj (zeh hN e1 (e▸hi));simp[this,e]
    ·exact .inr ⟨k,c,e,z.sameBut hs (cne y c e)⟩
  ·obtain⟨w',z⟩:=I.cell y c e;exact⟨w',z.sameBut hs (cne y c e)⟩
  ·obtain⟨e,n,ne,nf,d⟩:=I.pin p hp;exact⟨(hs.2 p.1 ne).trans e,n,ne,nf,d⟩
 ·have hfn:X.fn x=true:=by
   rcases hf with z | z
   ·exact z
   ·rw[z] at hk;cases hk
  obtain⟨c,hc⟩:=I.ok.has x (.inl hk);obtain⟨w',z⟩:=I.cell x c hc;refine wpAny_storeName_cell I.ok.kind hk hc z (λh' hc' hs=>?_);obtain⟨oc,hoc,hocd⟩:=id z;refine h { s with heap:=h' } ⟨I.ok,I.os,I.bare,⟨λb o e n hb hx=>?_,λb o e n hb hx=>?_,I.base.free,λb o e hx=>?_,I.base.tups,I.base.frzs,I.base.tbls⟩,⟨m,hn.sameBut hs (Ne.symm (cne x c hc)),λj y v' e1 e2 e3=>?_⟩,λy c' e=>?_,I.free,I.freeC,λp hp=>?_,tracked ⟨oc,hoc,I.freeC x c hc⟩ hs,by simpa using I.len⟩ ⟨c,hs,.inr hc⟩
  ·exact(hs.2 b (y0t (y0p (Heap.lt_size e) (I.ok.cab x c hfn hc)))).trans (I.base.keep b o e n hb hx)
  ·obtain⟨sl,e1⟩:=I.base.slot b o e n hb hx;exact⟨sl,(hs.2 b (y0t (y0p (Heap.lt_size e) (I.ok.cab x c hfn hc)))).trans e1⟩
  ·obtain⟨o',e1⟩:=I.base.there b o e hx;exact⟨o',(hs.2 b (y0t (y0p (Heap.lt_size e) (I.ok.cab x c hfn hc)))).trans e1⟩
  ·by_cases hj:j=i
   ·subst hj;rw[hi] at e1;cases e1;rw[y0q hiσ] at e2;cases e2;exact⟨u,r,.inr ⟨.inl hk,c,hc,hc'⟩⟩
   ·rw[y10 (Ne.symm hj)] at e2;obtain⟨u',r',q⟩:=hl j y v' e1 e2 e3;refine⟨u',r',?_⟩;rcases q with q | ⟨k,c',e,z'⟩
    ·exact .inl q
    ·refine .inr ⟨k,c',e,z'.sameBut hs ?_⟩;rintro rfl;exact hj (zeh hN e1 (I.ok.inj _ _ _ e hc▸hi))
  ·by_cases hcc:c'=c
   ·subst hcc;exact⟨_,hc'⟩
   ·obtain⟨w2,z2⟩:=I.cell y c' e;exact⟨w2,z2.sameBut hs hcc⟩
  ·obtain⟨e,n,ne,nf,d⟩:=I.pin p hp;refine⟨(hs.2 p.1 ?_).trans e,n,ne,nf,d⟩;intro q;rw[q,hoc] at e;have q':oc=p.2:=y11 e;exact d w' (by rw[←q'];exact hocd)
theorem z6b {M:Model}{A:Around}{E:Value->Shared->Prop}{i:Nat}{x:Str}{v:V}{u:Value}{Q:Unit->Shared->Prop}(I:Inv X aa σ H s)(hN:X.N.Nodup)(hi:X.N[i]?=some x)(hx:Loc X.env.scope x)(r:RelV v u)
  (h:∀s',Inv X aa (σ.set i (some v)) H s'->Q () s') (hf:X.fn x=true∨X.env.scope.names.lookup x=some .local:=by first | exact .inl rfl | exact .inr rfl | assumption):wpAny M A (storeName X.env x u) Q E s :=
 zh4 I hN hi hx r (λs' I' _=>h s' I') hf
theorem Inv.call' {s':Shared}{ch:List Addr}(I:Inv X aa σ H s)(ho:s'.os=s.os)(u:Un (frs X.stack) ch H H' s.heap s'.heap)(hok:HOk X.prog X.w H' s'.heap)(hg:AllBare s'.gens)
  (hch:∀b∈ch,(b∈X.ex∨X.s₀.heap.objs.size≤b)/\b≠X.env.locals/\(∀x c,X.env.cells.lookup x=some c->c≠b)/\∀p∈X.pn++aa,p.1≠b):Inv X aa σ H' s':=by
 obtain⟨h',g',d',t',o'⟩:=s';have e:o'=s.os:=ho;subst e;exact I.call (g':=g') (t':=t') (d':=d') u hok hg hch
end
abbrev XK:=Value->Option Addr->Hp->Prop
abbrev St:=List (Option V)
abbrev VK:=V->Hp->Prop
abbrev TE:=St->Hp->VK->Prop
abbrev TT:=St->Hp->(Bool->Hp->Prop)->Prop
abbrev TA:=St->Hp->(List V->Hp->Prop)->Prop
structure Ends where
 nx:St->Hp->Prop
 rt:VK
 bk:St->Hp->Prop:=λ_ _=>False
 ct:St->Hp->Prop:=λ_ _=>False
abbrev TS:=Ends->St->Hp->Prop
def EP (X:Cx)(aa:List (Addr×Obj))(σ:St)(Q:VK)(u:Value)(s':Shared):Prop:=∃v H',Inv X aa σ H' s'/\RelV v u/\Q v H'
def TP (X:Cx)(aa:List (Addr×Obj))(σ:St)(Q:Bool->Hp->Prop)(b:Bool)(s':Shared):Prop:=∃H',Inv X aa σ H' s'/\Q b H'
def AP (X:Cx)(aa:List (Addr×Obj))(σ:St)(Q:List V->Hp->Prop)(us:List Value)(s':Shared):Prop:=∃vs H',Inv X aa σ H' s'/\Vals vs us/\Q vs H'
def SP (X:Cx)(aa:List (Addr×Obj))(D:Ends)(f:Flow)(s':Shared):Prop :=
 match f with
 | .next=>∃ σ' H',Inv X aa σ' H' s'/\D.nx σ' H'
 | .brk=>∃ σ' H',Inv X aa σ' H' s'/\D.bk σ' H'
 | .cont=>∃ σ' H',Inv X aa σ' H' s'/\D.ct σ' H'
 | .ret u=>∃v σ' H',Inv X aa σ' H' s'/\RelV v u/\D.rt v H'
def PE (X:Cx)(e:Expr)(t:TE):Prop :=
 ∀(aa:List (Addr×Obj)) (s:Shared) (σ:St) (H:Hp) (Q:VK),Inv X aa σ H s->t σ H Q->wpAny (model X.prog X.w) X.A (eval e X.env) (EP X aa σ Q) X.xe s
def PT (X:Cx)(e:Expr)(t:TT):Prop :=
 ∀(aa:List (Addr×Obj)) (s:Shared) (σ:St) (H:Hp) (Q:Bool->Hp->Prop),Inv X aa σ H s->t σ H Q->wpAny (model X.prog X.w) X.A (isTrue e X.env (eval e X.env)) (TP X aa σ Q) X.xe s
def PW (X:Cx)(e:Expr)(t:TT):Prop :=
 ∀(whole:Sem Value) (aa:List (Addr×Obj)) (s:Shared) (σ:St) (H:Hp) (Q:Bool->Hp->Prop),Inv X aa σ H s->t σ H Q->wpAny (model X.prog X.w) X.A (isTrue e X.env whole) (TP X aa σ Q) X.xe s
theorem PW.pt {X:Cx}{e:Expr}{t:TT}(h:PW X e t):PT X e t:=h _
def PA (X:Cx)(es:List Expr)(t:TA):Prop :=
 ∀(pos:Pos) (aa:List (Addr×Obj)) (s:Shared) (σ:St) (H:Hp) (Q:List V->Hp->Prop),Inv X aa σ H s->t σ H Q->wpAny (model X.prog X.w) X.A (spliced (backTo pos (starEach es X.env))) (AP X aa σ Q) X.xe s
def PS (X:Cx)(st:Stmt)(t:TS):Prop :=
 ∀(aa:List (Addr×Obj)) (s:Shared) (σ:St) (H:Hp) (D:Ends),Inv X aa σ H s->t D σ H->wpAny (model X.prog X.w) X.A (exec st X.env) (SP X aa D) X.xe s
def PSs (X:Cx)(st:List Stmt)(t:TS):Prop :=
 ∀(aa:List (Addr×Obj)) (s:Shared) (σ:St) (H:Hp) (D:Ends),Inv X aa σ H s->t D σ H->wpAny (model X.prog X.w) X.A (execs st X.env) (SP X aa D) X.xe s
theorem thn {α:Type}{t:Sem α}{Q Q':α->Shared->Prop}{M:Model}{A:Around}{E:Value->Shared->Prop}{s:Shared}(h:wpAny M A t Q E s)(hQ:∀a s,Q a s->Q' a s):wpAny M A t Q' E s:=wpAny_mono h hQ λ_ _ x=>x
end L2
namespace L2
open PySem PySem.Spec PyProof.Rows
section
variable {X:Cx}
def zsf (i:Nat):TE:=fun σ H Q=>∃v,σ[i]?=some (some v)/\Q v H
def tC (v:V):TE:=λ_ H Q=>Q v H
theorem zof {i:Nat}{x:Str}{pos:Pos}(hN:X.N[i]?=some x)(hv:Vis X.env.scope x)(hd:(x==("__debug__":Str))=false:=by decide)(hcd:(x==("__classdict__":Str))=false:=by decide):PE X (.Name x pos) (zsf i):=by
 intro aa s σ H Q I h;obtain⟨v,e,h⟩:=h;obtain⟨m,hn,hl⟩:=I.loc;obtain⟨u,r,l⟩:=hl i x v hN e hv;have fin:EP X aa σ Q u s:=⟨v,H,I,r,h⟩;rcases l with ⟨hk,hm⟩ | ⟨hk,c,hc,aR⟩
 ·exact wpAny_Name (wpAny_loadName_local I.ok.kind hk hn hm fin) hd
 ·rcases hk with hk | hk
  ·exact wpAny_Name (wpAny_loadName_cell I.ok.kind hk hc aR fin) hd
  ·exact wpAny_Name (wpAny_loadName_free I.ok.kind hk hc aR fin hcd) hd
theorem z05 {i j pos}:PE X (.Constant (.int i) j pos) (tC (.int i)):=λ_ _ _ H _ I h=>wpAny_Constant_int ⟨.int i,H,I.tok _,⟨_,rfl⟩,h⟩
theorem zcm {b j pos}:PE X (.Constant (.bool b) j pos) (tC (.bl b)):=λ_ _ _ H _ I h=>Constant_bool ⟨.bl b,H,I,rfl,h⟩
theorem zdg {j pos}:PE X (.Constant .none j pos) (tC .non):=λ_ _ _ H _ I h=>Constant_none ⟨.non,H,I,rfl,h⟩
def Gl (X:Cx)(x:Str):Prop:=X.env.kindOf x=some .globalImplicit
theorem zg0 {E:Value->Shared->Prop}{aa:List (Addr×Obj)}{s:Shared}{σ:St}{H:Hp}{x:Str}{u:Value}{pos:Pos}{Q:Value->Shared->Prop}(I:Inv X aa σ H s)(hg:Gl X x)(hm:X.mg x=some u)(h:Q u s)
  (hd:(x==("__debug__":Str))=false:=by decide):wpAny (model X.prog X.w) X.A (eval (.Name x pos) X.env) Q E s :=
 Calls.Name_function_global I.ok.kind hg (Calls.loadGlobal_global (by rw[I.ok.glob];exact I.mod.glob.keeps I.bk) hm h) hd
theorem z6f {E:Value->Shared->Prop}{aa:List (Addr×Obj)}{s:Shared}{σ:St}{H:Hp}{x:Str}{u:Value}{pos:Pos}{Q:Value->Shared->Prop}(I:Inv X aa σ H s)(hg:Gl X x)(hm:X.mg x=none)(hv:bootBuiltins x=some u)(h:Q u s)
  (hn:x ≠ "__name__":=by decide) (hd:(x==("__debug__":Str))=false:=by decide):wpAny (model X.prog X.w) X.A (eval (.Name x pos) X.env) Q E s:=by
 obtain⟨mb,h1,h2⟩:=I.mod.blt;exact Calls.Name_function_global I.ok.kind hg (Calls.loadGlobal_builtin (by rw[I.ok.glob];exact I.mod.glob.keeps I.bk) hm (by rw[I.ok.blt];exact h1.keeps I.bk) ((h2 x hn).trans hv) h) hd
theorem zlv {x:Str}{v:V}{u:Value}{pos:Pos}(hg:Gl X x)(hm:X.mg x=none)(hv:bootBuiltins x=some u)(r:RelV v u)(hn:x ≠ "__name__":=by decide)(hd:(x==("__debug__":Str))=false:=by decide):PE X (.Name x pos) (tC v) :=
 λ_ _ _ H _ I h=>z6f I hg hm hv ⟨v,H,I,r,h⟩ hn hd
variable {a b:Expr}{ta tb:TE}{pos:Pos}
variable {tA tB':TT}{rest:List Expr}
def zqw (t u:TT):TT:=fun σ H Q=>t σ H λc H1=>if c=true then u σ H1 Q else Q false H1
def tOr (t u:TT):TT:=fun σ H Q=>t σ H λc H1=>if c=true then Q true H1 else u σ H1 Q
def zr7 (t:TT):TT:=fun σ H Q=>t σ H λc H1=>Q (!c) H1
theorem z5l (ha:PT X a tA):PW X (.BoolOp .And [a] pos) tA:=by
 intro wh aa s σ H Q I h;refine isTrue_and (thn (ha aa s σ H Q I h) λc s1 e=>?_);cases c with
 | true=>exact isTrue_and_nil e
 | false=>exact e
theorem z8o (ha:PT X a tA):PW X (.BoolOp .Or [a] pos) tA:=by
 intro wh aa s σ H Q I h;refine isTrue_or (thn (ha aa s σ H Q I h) λc s1 e=>?_);cases c with
 | false=>exact isTrue_or_nil e
 | true=>exact e
theorem z8p (ha:PT X a tA)(hb:PW X (.BoolOp .And (b::rest) pos) tB'):PW X (.BoolOp .And (a::b::rest) pos) (zqw tA tB'):=by
 intro wh aa s σ H Q I h;refine isTrue_and (thn (ha aa s σ H _ I h) λc s1 ⟨H1,I1,q1⟩=>?_);cases c with
 | true=>exact hb wh aa s1 σ H1 Q I1 q1
 | false=>exact⟨H1,I1,q1⟩
theorem z80 (ha:PT X a tA)(hb:PW X (.BoolOp .Or (b::rest) pos) tB'):PW X (.BoolOp .Or (a::b::rest) pos) (tOr tA tB'):=by
 intro wh aa s σ H Q I h;refine isTrue_or (thn (ha aa s σ H _ I h) λc s1 ⟨H1,I1,q1⟩=>?_);cases c with
 | true=>exact⟨H1,I1,q1⟩
 | false=>exact hb wh aa s1 σ H1 Q I1 q1
theorem z46 (ha:PT X a tA):PT X (.UnaryOp .Not a pos) (zr7 tA):=by
 intro aa s σ H Q I h;exact isTrue_not (ha aa s σ H (λc H1=>Q (!c) H1) I h)
theorem z81 {op}{t:TE}(h:PE X a t):PE X (.BoolOp op [a] pos) t:=λaa s σ H Q I hw=>BoolOp_one (h aa s σ H Q I hw)
def tIf (t:TT)(ta tb:TE):TE:=fun σ H Q=>t σ H λc H1=>if c=true then ta σ H1 Q else tb σ H1 Q
theorem zae {c:Expr}(hc:PT X c tA)(ha:PE X a ta)(hb:PE X b tb):PE X (.IfExp c a b pos) (tIf tA ta tb):=by
 intro aa s σ H Q I h;refine wpAny_IfExp (thn (hc aa s σ H _ I h) λd s1 ⟨H1,I1,q1⟩=>?_);cases d with
 | true=>exact ha aa s1 σ H1 Q I1 q1
 | false=>exact hb aa s1 σ H1 Q I1 q1
end
end L2
namespace L2
open PySem PySem.Spec PyProof.Rows
def SqL (K:y03)(H:Hp)(a:Addr)(xs:List V):Prop :=
 Rd H a (.lst xs) ∨
  ∃(o:Obj) (its:Array Value) (n:Nat),K.lookup a=some o/\o.cls = .type "list"/\o.dict=none/\o.data = .seq its n/\its.size≤sizeLine/\Vals xs its.toList
def SqT (K:y03)(H:Hp)(a:Addr)(xs:List V):Prop :=
 Rd H a (.tup xs) ∨
  ∃(o:Obj) (its:Array Value) (n:Nat),K.lookup a=some o/\o.cls = .type "tuple"/\o.data = .seq its n/\its.size≤sizeLine/\Vals xs its.toList
def zrv:Value->Option V
 | .none=>some .non
 | .bool b=>some (.bl b)
 | .int i _=>some (.int i)
 | .str x _=>some (.str x)
 | .bytes b _=>some (.byt b)
 | .float b _=>some (.flt b)
 | .ref a=>some (.ref a)
 | .type n=>some (.ty n)
 | _=>none
theorem RelV.abs {x:V}{u:Value}(r:RelV x u):zrv u=some x:=by
 cases x with
 | non=>cases r;rfl
 | bl _=>cases r;rfl
 | int _=>obtain⟨t,rfl⟩:=r;rfl
 | str _=>obtain⟨t,rfl⟩:=r;rfl
 | byt _=>obtain⟨t,rfl⟩:=r;rfl
 | flt _=>obtain⟨t,rfl⟩:=r;rfl
 | ref _=>cases r;rfl
 | ty _=>cases r;rfl
theorem RelV.inj {x y:V}{u:Value}(r:RelV x u)(q:RelV y u):x=y:=y11 (r.abs.symm.trans q.abs)
theorem Vals.inj:∀{xs ys:List V} {us:List Value},Vals xs us->Vals ys us->xs=ys
 | _,_,_,.nil,.nil=>rfl
 | _,_,_,.cons r t,.cons r' t'=>by rw[r.inj r',Vals.inj t t']
section
variable {X:Cx}{aa:List (Addr×Obj)}{σ:St}{H:Hp}{s:Shared}{a:Addr}{xs ys:List V}
theorem SqL.of {K:y03}(h:H a=some (.lst xs)):SqL K H a xs:=.inl (.inl h)
theorem SqT.of {K:y03}(h:H a=some (.tup xs)):SqT K H a xs:=.inl (.inl h)
theorem Inv.list (I:Inv X aa σ H s)(h:SqL X.K H a xs):∃its:List Value,Vals xs its/\PlainL s.heap a its.toArray/\xs.length≤sizeLine:=by
 rcases h with h | ⟨o,its,n,hk,hc,hd,hs,hz,r⟩
 ·obtain⟨z,its,n,r,e⟩:=h.ok I.hok;exact⟨its,r,⟨_,n,e,rfl,rfl,rfl⟩,z⟩
 ·refine⟨its.toList,r,⟨o,n,I.kIn a o hk,hc,hd,by simpa using hs⟩,?_⟩
  have e:=r.length;simp only[y67] at e;omega
theorem Inv.tuple (I:Inv X aa σ H s)(h:SqT X.K H a xs):∃its:List Value,Vals xs its/\IsTup s.heap a its.toArray/\xs.length≤sizeLine:=by
 rcases h with h | ⟨o,its,n,hk,hc,hs,hz,r⟩
 ·obtain⟨z,its,r,p⟩:=h.ok I.hok;exact⟨its,r,p,z⟩
 ·refine⟨its.toList,r,⟨o,I.kIn a o hk,hc,n,by simpa using hs⟩,?_⟩
  have e:=r.length;simp only[y67] at e;omega
theorem Inv.list_inj (I:Inv X aa σ H s)(h:SqL X.K H a xs)(h':SqL X.K H a ys):xs=ys:=by
 obtain⟨its,r,⟨o,n,e,_,_,d⟩,_⟩:=I.list h;obtain⟨its',r',⟨o',n',e',_,_,d'⟩,_⟩:=I.list h';rw[e] at e';cases e';rw[d] at d';injection d' with d1 _
 have:its=its':=by simpa using congrArg Array.toList d1
 subst this;exact r.inj r'
theorem Inv.tuple_inj (I:Inv X aa σ H s)(h:SqT X.K H a xs)(h':SqT X.K H a ys):xs=ys:=by
 obtain⟨its,r,⟨o,e,_,n,d⟩,_⟩:=I.tuple h;obtain⟨its',r',⟨o',e',_,n',d'⟩,_⟩:=I.tuple h';rw[e] at e';cases e';rw[d] at d';injection d' with d1 _
 have:its=its':=by simpa using congrArg Array.toList d1
 subst this;exact r.inj r'
end
abbrev Cx.wish (X:Cx)(E:Value->Shared->Prop):Cx:={ X with xe:=E }
abbrev Cx.nox (X:Cx):Cx:=X.wish λ_ _=>False
theorem Cx.Ok.wish {X:Cx}(ok:X.Ok)(E:Value->Shared->Prop):(X.wish E).Ok :=
 ⟨ok.mod,ok.kind,ok.glob,ok.blt,ok.above,ok.inj,ok.has,ok.cab,ok.hd,ok.frames,ok.stk,ok.exf,ok.bs,ok.bsz,ok.noex,ok.exfs,ok.funs,ok.frf⟩
theorem Cx.Ok.unwish {X:Cx}{E:Value->Shared->Prop}(ok:(X.wish E).Ok):X.Ok :=
 ⟨ok.mod,ok.kind,ok.glob,ok.blt,ok.above,ok.inj,ok.has,ok.cab,ok.hd,ok.frames,ok.stk,ok.exf,ok.bs,ok.bsz,ok.noex,ok.exfs,ok.funs,ok.frf⟩
section
variable {X:Cx}{aa:List (Addr×Obj)}{σ:St}{H:Hp}{s:Shared}{E:Value->Shared->Prop}
theorem Inv.wish (I:Inv X aa σ H s)(E:Value->Shared->Prop):Inv (X.wish E) aa σ H s:=⟨I.ok.wish E,I.os,I.bare,I.base,I.loc,I.cell,I.free,I.freeC,I.pin,I.hok,I.len⟩
theorem Inv.unwish (I:Inv (X.wish E) aa σ H s):Inv X aa σ H s:=⟨I.ok.unwish,I.os,I.bare,I.base,I.loc,I.cell,I.free,I.freeC,I.pin,I.hok,I.len⟩
theorem SP.unwish {D:Ends}{f:Flow}{s':Shared}(h:SP (X.wish E) aa D f s'):SP X aa D f s':=by
 cases f with
 | next=>obtain⟨σ',H',I,q⟩:=h;exact⟨σ',H',I.unwish,q⟩
 | brk=>obtain⟨σ',H',I,q⟩:=h;exact⟨σ',H',I.unwish,q⟩
 | cont=>obtain⟨σ',H',I,q⟩:=h;exact⟨σ',H',I.unwish,q⟩
 | ret u=>obtain⟨v,σ',H',I,r,q⟩:=h;exact⟨v,σ',H',I.unwish,r,q⟩
theorem PSs.nox {st:List Stmt}{t:TS}(h:PSs X.nox st t):PSs X st t:=λaa s σ H D I hw =>
 wpAny_mono (h aa s σ H D (I.wish _) hw) (λ_ _ q=>q.unwish) λ_ _ z=>False.elim z
end
section
variable {X:Cx}{st:Stmt}{rest:List Stmt}{t u:TS}{e:Expr}{te:TE}{pos:Pos}
def zm9:TS:=λD σ H=>D.nx σ H
def zri (t u:TS):TS:=λD σ H=>t { D with nx:=u D } σ H
theorem z1h:PSs X [] zm9:=λ_ _ σ H _ I h=>wpAny_execs_nil ⟨σ,H,I,h⟩
theorem z02 (h1:PS X st t)(h2:PSs X rest u):PSs X (st::rest) (zri t u):=by
 intro aa s σ H D I h;refine wpAny_execs_cons (thn (h1 aa s σ H { D with nx:=u D } I h) λf s1 q=>?_)
 cases f with
 | next =>
  obtain⟨σ',H',I',q⟩:=q;exact h2 aa s1 σ' H' D I' q
 | ret v=>exact q
 | brk=>exact q
 | cont=>exact q
theorem z07 (h1:PS X st t):PSs X [st] t:=by
 intro aa s σ H D I h;refine wpAny_execs_cons (thn (h1 aa s σ H D I h) λf s1 q=>?_);cases f with
 | next=>exact wpAny_execs_nil q
 | ret v=>exact q
 | brk=>exact q
 | cont=>exact q
theorem Inv.quiet {aa:List (Addr×Obj)}{σ:St}{H:Hp}{s:Shared}(I:Inv X aa σ H s):interactive X.env=false:=by simp[interactive,I.ok.kind]
def zmw (te:TE):TS:=λD σ H=>te σ H λ_ H1=>D.nx σ H1
theorem z22 (he:PE X e te)(hs:swapsWith e none pos.line X.env=pure false:=by rfl):PS X (.Expr e pos) (zmw te):=by
 intro aa s σ H D I h;exact wpAny_Expr_any (thn (he aa s σ H _ I h) λv s1 ⟨x,H1,I1,r1,q1⟩=>⟨σ,H1,I1,q1⟩) I.quiet hs
def zq6 (te:TE):TS:=λD σ H=>te σ H D.rt
theorem z0n (he:PE X e te):PS X (.Return (some e) pos) (zq6 te):=by
 intro aa s σ H D I h;exact wpAny_Return_some (thn (he aa s σ H _ I h) λv s1 ⟨x,H1,I1,r1,q1⟩=>⟨x,σ,H1,I1,r1,q1⟩)
def zqv (c:TT)(t u:TS):TS:=λD σ H=>c σ H λb H1=>if b=true then t D σ H1 else u D σ H1
theorem z2x {c:Expr}{a b:List Stmt}{tc:TT}(hc:PT X c tc)(ha:PSs X a t)(hb:PSs X b u):PS X (.If c a b pos) (zqv tc t u):=by
 intro aa s σ H D I h;refine wpAny_If (thn (hc aa s σ H _ I h) λd s1 ⟨H1,I1,q1⟩=>?_);cases d with
 | true=>exact ha aa s1 σ H1 D I1 q1
 | false=>exact hb aa s1 σ H1 D I1 q1
end
abbrev TG:=V->St->Hp->(St->Hp->Prop)->Prop
abbrev TGs:=List V->St->Hp->(St->Hp->Prop)->Prop
def PG (X:Cx)(bS:Expr)(t:TG):Prop :=
 ∀(aa:List (Addr×Obj)) (s:Shared) (σ:St) (H:Hp) (v:V) (u:Value) (Q:St->Hp->Prop),Inv X aa σ H s->RelV v u->t v σ H Q ->
  wpAny (model X.prog X.w) X.A (assign bS X.env u) (λ_ s'=>∃ σ' H',Inv X aa σ' H' s'/\Q σ' H') X.xe s
def PGs (X:Cx)(ts:List Expr)(t:TGs):Prop :=
 ∀(aa:List (Addr×Obj)) (s:Shared) (σ:St) (H:Hp) (vs:List V) (us:List Value) (Q:St->Hp->Prop),Inv X aa σ H s->Vals vs us->t vs σ H Q ->
  wpAny (model X.prog X.w) X.A (assignInOrder ((assignEach ts X.env).map (·.2)) us) (λ_ s'=>∃ σ' H',Inv X aa σ' H' s'/\Q σ' H') X.xe s
abbrev zoc:=V->V->V->Hp->(Hp->Prop)->Prop
def zpt (X:Cx)(t:zoc):Prop :=
 ∀(aa:List (Addr×Obj)) (s:Shared) (σ:St) (H:Hp) (o i v:V) (ov iv u:Value) (Q:Hp->Prop),Inv X aa σ H s->RelV o ov->RelV i iv->RelV v u->t o i v H Q ->
  wpAny (model X.prog X.w) X.A (setItem ov iv u) (λ_ s'=>∃H',Inv X aa σ H' s'/\Q H') X.xe s
abbrev TIp:=V->V->Hp->VK->Prop
def PIp (X:Cx)(op:Operator)(t:TIp):Prop :=
 ∀(aa:List (Addr×Obj)) (s:Shared) (σ:St) (H:Hp) (x y:V) (v u:Value) (Q:VK),Inv X aa σ H s->RelV x v->RelV y u->t x y H Q ->
  wpAny (model X.prog X.w) X.A (inplaceOp op v u) (EP X aa σ Q) X.xe s
section
variable {X:Cx}{pos:Pos}
def z41 (i:Nat):TG:=λv σ H Q=>Q (σ.set i (some v)) H
theorem znh {i:Nat}{x:Str}(hN:X.N.Nodup)(hi:X.N[i]?=some x)(hx:Loc X.env.scope x)(hf:X.fn x=true∨X.env.scope.names.lookup x=some .local:=by first | exact .inl rfl | exact .inr rfl | assumption):PG X (.Name x pos) (z41 i):=by
 intro aa s σ H v u Q I r h;exact wpAny_assign_Name (z6b I hN hi hx r (λs' I'=>⟨_,H,I',h⟩) hf)
def zru:TGs:=λvs σ H Q=>vs = []/\Q σ H
def zqs (t:TG)(u:TGs):TGs:=λvs σ H Q=>∃v r,vs=v::r/\t v σ H fun σ' H'=>u r σ' H' Q
theorem zhf:PGs X [] zru:=by
 intro aa s σ H vs us Q I r h;obtain⟨e,h⟩:=h;subst e;cases r;exact assignInOrder_nil ⟨σ,H,I,h⟩
theorem z63 {e:Expr}{es:List Expr}{t:TG}{u:TGs}(h1:PG X e t)(h2:PGs X es u)
  (hs:(assignEach (e::es) X.env).map (·.2)=assign e X.env::(assignEach es X.env).map (·.2):=by rfl):PGs X (e::es) (zqs t u):=by
 intro aa s σ H vs us Q I r h;obtain⟨v,vr,e1,h⟩:=h;subst e1;cases r with
 | cons r rr =>
  rw[hs];refine assignInOrder_cons (thn (h1 aa s σ H _ _ _ I r h) λ_ s1 ⟨σ1,H1,I1,q1⟩=>?_);exact h2 aa s1 σ1 H1 _ _ Q I1 rr q1
def zse (K:y03)(n:Nat)(t:TGs):TG:=λv σ H Q=>∃a xs,v = .ref a/\SqT K H a xs/\xs.length=n/\t xs σ H Q
theorem zl8 {es:List Expr}{k:Nat}{t:TGs}{n:Nat}(hc:X.calm=true)(h:PGs X es t)
  (hn:(assignEach es X.env).length=n:=by rfl) (hst:(assignEach es X.env).findIdx? (·.1)=none:=by rfl):PG X (.Tuple es k pos) (zse X.K n t):=by
 intro aa s σ H v u Q I r hw;obtain⟨a,xs,e1,hq,hl,hw⟩:=hw;subst e1;cases r;obtain⟨its,rv,ht,hz⟩:=I.tuple hq;refine assign_Tuple_tuple (I.ok.hd hc) ht (by simp[hn,←hl,rv.length]) hst λh' hx=>?_
 have I1:Inv X aa σ H { s with heap:=h' }:=I.kept (t':=s.toks) λb o e=>hx b o (y0t (Heap.lt_size e)) e
 exact h aa _ σ H xs _ Q I1 (by simpa using rv) hw
def zq2 (to ti:TE)(t:zoc):TG:=λv σ H Q=>to σ H λo H1=>ti σ H1 λi H2=>t o i v H2 λH3=>Q σ H3
theorem zc2 {o i:Expr}{to ti:TE}{t:zoc}(ho:PE X o to)(hi:PE X i ti)(hs:zpt X t)
  (ha:∀v,assign (.Subscript o i pos) X.env v=(do
   let ov ←holding [v] (eval o X.env)
   let iv ←holding [v,ov] (eval i X.env)
   standAt pos
   holding [v,ov,iv] (setItem ov iv v)
   release [v,ov,iv] []):=by intro _;rfl):PG X (.Subscript o i pos) (zq2 to ti t):=by
 intro aa s σ H v u Q I r h;rw[ha];refine wpAny_bind (wpAny_holding (thn (ho aa s σ H _ I h) λov s1 ⟨x,H1,I1,r1,q1⟩=>?_));refine wpAny_bind (wpAny_holding (thn (hi aa s1 σ H1 _ I1 q1) λiv s2 ⟨y,H2,I2,r2,q2⟩=>?_));refine wpAny_bind (wpAny_standAt (wpAny_bind (wpAny_holding (thn (hs aa s2 σ H2 x y v ov iv u _ I2 r1 r2 r q2) λ_ s3 ⟨H3,I3,q3⟩=>?_))));exact wpAny_release ⟨σ,H3,I3,q3⟩
def zkz (te:TE)(g:TG):TS:=λD σ H=>te σ H λx H1=>g x σ H1 D.nx
theorem z9j {tg e:Expr}{te:TE}{g:TG}(he:PE X e te)(hg:PG X tg g)(hs:swapsWithSole [tg] e pos.line X.env=pure false:=by rfl)(hw:swappedStores [tg] e X.env=pure none:=by rfl)
  (h1:(assignEach [tg] X.env).map (·.2) = [assign tg X.env]:=by rfl):PS X (.Assign [tg] e pos) (zkz te g):=by
 intro aa s σ H D I h;refine wpAny_Assign_stores (thn (he aa s σ H _ I h) λv s1 ⟨x,H1,I1,r1,q1⟩=>?_) hs hw;rw[h1];exact thn (hg aa s1 σ H1 x v _ I1 r1 q1) λ_ s2 q=>q
theorem zop {i:Nat}{x:Str}{e:Expr}{te:TE}{bU:Pos}(hN:X.N.Nodup)(hi:X.N[i]?=some x)(hx:Loc X.env.scope x)(he:PE X e te)(hs:swapsWith e (some (.Name x bU)) pos.line X.env=pure false:=by rfl)(hf:X.fn x=true∨X.env.scope.names.lookup x=some .local:=by first | exact .inl rfl | exact .inr rfl | assumption) :
  PS X (.Assign [.Name x bU] e pos) (zkz te (z41 i)):=by
 intro aa s σ H D I h;refine wpAny_Assign_Name (thn (he aa s σ H _ I h) λv s1 ⟨y,H1,I1,r1,q1⟩=>?_) hs;exact z6b I1 hN hi hx r1 (λs2 I2=>⟨_,H1,I2,q1⟩) hf
def zs9 (i j:Nat)(ta:TA):TS:=λD σ H=>ta σ H λvs H1=>∃v w,vs = [v,w]/\D.nx ((σ.set i (some v)).set j (some w)) H1
theorem zol {i j:Nat}{x y:Str}{a b:Expr}{ta:TA}{px py pt:Pos}{kt k2 pt2}(hc:X.calm=true)(hN:X.N.Nodup)(hi:X.N[i]?=some x)(hj:X.N[j]?=some y)(hij:i≠j)
  (hx:X.env.scope.names.lookup x=some .local) (hy:X.env.scope.names.lookup y=some .local) (ha:PA X [a,b] ta)
  (hw:swappedStores [.Tuple [.Name x px,.Name y py] kt pt] (.Tuple [a,b] k2 pt2) X.env=pure (some [x,y]))
  (hs:swapsWithSole [.Tuple [.Name x px,.Name y py] kt pt] (.Tuple [a,b] k2 pt2) pos.line X.env=pure false:=by rfl) :
  PS X (.Assign [.Tuple [.Name x px,.Name y py] kt pt] (.Tuple [a,b] k2 pt2) pos) (zs9 i j ta):=by
 intro aa s σ H D I h;rw[exec_Assign_arm];refine wpAny_bind (wpAny_standAt ?_);rw[hs];refine wpAny_bind (wpAny_pure ?_);rw[if_neg (by decide)]
 refine wpAny_bind (Tuple_ (thn (ha _ aa s σ H _ I h) λus s1 ⟨vs,H1,I1,r1,q1⟩=>?_));obtain⟨v,w,e1,q1⟩:=q1;subst e1;obtain⟨u1,u2,rfl,rv,rw'⟩:∃u1 u2,us = [u1,u2]/\RelV v u1/\RelV w u2:=by
  cases r1 with
  | cons p q =>
   cases q with
   | cons p' q' =>
    cases q';exact⟨_,_,rfl,p,p'⟩
 refine wpAny_newObj_type ?_ (by show 2≤sizeLine;decide)
 have I2:Inv X aa σ H1 { s1 with heap:=s1.heap.push { cls:=.type "tuple",data:=.seq [u1,u2].toArray } }:=I1.kept (t':=s1.toks) λb o e=>Heap.get?_push_of_some _ e
 rw[hw];refine wpAny_bind (wpAny_pure ?_);show wpAny (model X.prog X.w) X.A (do rule "assign.swapped-stores";let items ←unpackItems (.ref s1.heap.objs.size) 2 none;assignInOrder [λv=>bindName X.env y v,λv=>bindName X.env x v] items.reverse;pure Flow.next) _ _ _
 refine wpAny_bind (wpAny_rule (wpAny_bind (unpackItems_tuple (items:=#[u1,u2]) (I.ok.hd hc) (IsTup.new s1.heap _) λh' hx'=>?_)));have I3:=I2.kept (h':=h') (t':=s1.toks) λb o e=>hx' b o (y0t (Heap.lt_size e)) e;show wpAny _ _ (assignInOrder [λv=>bindName X.env y v,λv=>bindName X.env x v] [u2,u1] >>= λ_=>pure Flow.next) _ _ _
 refine wpAny_bind (assignInOrder_cons (wpAny_bindName (z6b I3 hN hj (.inl hy) rw' (λs2 I4=>?_) (.inr hy))));refine assignInOrder_cons (wpAny_bindName (z6b I4 hN hi (.inl hx) rv (λs3 I5=>assignInOrder_nil (wpAny_pure ?_)) (.inr hx)));rw[List.set_comm _ _ (Ne.symm hij)] at I5;exact⟨_,H1,I5,q1⟩
def znm (to ti te:TE)(tget:V->V->Hp->VK->Prop)(tip:TIp)(tset:zoc):TS:=λD σ H=>to σ H λo H1=>ti σ H1 λi H2=>tget o i H2 λx H3=>te σ H3 λy H4=>tip x y H4 λz H5=>tset o i z H5 λH6=>D.nx σ H6
def zre (X:Cx)(t:V->V->Hp->VK->Prop):Prop :=
 ∀(aa:List (Addr×Obj)) (s:Shared) (σ:St) (H:Hp) (o i:V) (ov iv:Value) (Q:VK),Inv X aa σ H s->RelV o ov->RelV i iv->t o i H Q ->
  wpAny (model X.prog X.w) X.A (getItem ov iv) (EP X aa σ Q) X.xe s
theorem z5t {o i e:Expr}{to ti te:TE}{tget:V->V->Hp->VK->Prop}{tip:TIp}{tset:zoc}{op:Operator}{tpos:Pos}(ho:PE X o to)(hi:PE X i ti)(hg:zre X tget)(he:PE X e te)(hp:PIp X op tip)(hs:zpt X tset)
  (ha:∀ov iv new,augStore i ov iv new=(do holding [new,ov,iv] (setItem ov iv new);release [new,ov,iv] [];pure .next):=by intros;rfl):PS X (.AugAssign (.Subscript o i tpos) op e pos) (znm to ti te tget tip tset):=by
 intro aa s σ H D I h;refine wpAny_AugAssign_SubscriptAny (thn (ho aa s σ H _ I h) λov s1 ⟨x1,H1,I1,r1,q1⟩=>?_) ha;refine thn (hi aa s1 σ H1 _ I1 q1) λiv s2 ⟨x2,H2,I2,r2,q2⟩=>?_;refine thn (hg aa s2 σ H2 x1 x2 ov iv _ I2 r1 r2 q2) λold s3 ⟨x3,H3,I3,r3,q3⟩=>?_;refine thn (he aa s3 σ H3 _ I3 q3) λv s4 ⟨x4,H4,I4,r4,q4⟩=>?_;refine thn (hp aa s4 σ H4 x3 x4 old v _ I4 r3 r4 q4) λnew s5 ⟨x5,H5,I5,r5,q5⟩=>?_;exact thn (hs aa s5 σ H5 x1 x2 x5 ov iv new _ I5 r1 r2 r5 q5) λ_ s6 ⟨H6,I6,q6⟩=>⟨σ,H6,I6,q6⟩
def ipI (f:Int->Int->Int):TIp:=λx y H Q=>∃i j,x = .int i/\y = .int j/\Q (.int (f i j)) H
theorem zph:PIp X .Add (ipI λi j=>i+j):=by
 intro aa s σ H x y v u Q I r1 r2 h;obtain⟨i,j,e1,e2,q⟩:=h;subst e1;subst e2;obtain⟨t,rfl⟩:=r1;obtain⟨t',rfl⟩:=r2;exact iadd_int ⟨.int _,H,I.tok _,⟨_,rfl⟩,q⟩
theorem znu:PIp X .Sub (ipI λi j=>i - j):=by
 intro aa s σ H x y v u Q I r1 r2 h;obtain⟨i,j,e1,e2,q⟩:=h;subst e1;subst e2;obtain⟨t,rfl⟩:=r1;obtain⟨t',rfl⟩:=r2;exact isub_int ⟨.int _,H,I.tok _,⟨_,rfl⟩,q⟩
end
section
variable {X:Cx}{pos:Pos}
end
structure It where
 go:Nat->Hp->Prop
 yld:Nat->Hp->V->Hp->Prop
 stop:Nat->Hp->Prop
def zhj (X:Cx)(aa:List (Addr×Obj))(H:Hp)(b:Addr):Prop :=
 H b=none/\b≠X.env.locals/\b ∉ X.fs/\(b∈X.ex∨X.s₀.heap.objs.size≤b)/\(∀x c,X.env.cells.lookup x=some c->c≠b)/\∀p∈X.pn++aa,p.1≠b
theorem Inv.fpOk {X:Cx}{aa:List (Addr×Obj)}{σ:St}{H H':Hp}{s:Shared}{b:Addr}(I:Inv X aa σ H s)(hb:s.heap.objs.size≤b)(hn:H' b=none):zhj X aa H' b:=by
 refine⟨hn,y3i (y0p I.lt hb),I.nofs hb,.inr (y13 I.sz hb),λx c e z=>?_,λp hp z=>?_⟩
 ·obtain⟨v,q⟩:=I.cell x c e;exact absurd (y0p q.lt (by rw[z];exact hb)) (y2v _)
 ·exact absurd (y0p (Heap.lt_size (I.pin p hp).1) (by rw[z];exact hb)) (y2v _)
structure Turn (P:Program)(w:World)(K:y03)(tg:Expr)(J:It)(fp:List Addr)(it:Addr)(tn:Nat->Heap->Prop):Prop where
 mem:it∈fp
 obj:∀i h,tn i h->∀b∈fp,∃o,h.get? b=some o/\∀v,o.data ≠ .cell v
 keep:∀i h h',tn i h->(∀b∈fp,∀o,h.get? b=some o->h'.get? b=some o)->tn i h'
 item:∀(X:Cx),X.prog=P->X.w=w->X.K=K->X.calm=true->∀(i:Nat) (aa:List (Addr×Obj)) (s:Shared) (σ:St) (H:Hp) (E:Value->Shared->Prop),Inv X aa σ H s->(∀b∈fp,zhj X aa H b)->tn i s.heap->J.go i H ->
  wpAny (model P w) X.A (pyNext (.ref it)) (λr s1=>∃u,r=some u /\
   wpAny (model P w) X.A (letOwnedTupleGo tg (.ref it) u) (λ_ s2=>∃x H',Inv X aa σ H' s2/\RelV x u/\J.yld i H x H'/\tn (i+1) s2.heap/\∀b∈fp,H' b=none) E s1) E s
 done:∀(X:Cx),X.prog=P->X.w=w->X.K=K->X.calm=true->∀(i:Nat) (aa:List (Addr×Obj)) (s:Shared) (σ:St) (H:Hp) (E:Value->Shared->Prop),Inv X aa σ H s->(∀b∈fp,zhj X aa H b)->tn i s.heap->J.stop i H ->
  wpAny (model P w) X.A (pyNext (.ref it)) (λr s1=>r=none/\Inv X aa σ H s1) E s
 self:∀(A:Around) (i:Nat) (s:Shared) (Q:Value->Shared->Prop) (E:Value->Shared->Prop),tn i s.heap->Q (.ref it) s->wpAny (model P w) A (pyIter (.ref it)) Q E s
abbrev TI:=St->Hp->(It->Hp->Prop)->Prop
def PIE (X:Cx)(aa:List (Addr×Obj))(σ:St)(tg:Expr)(R:It->Hp->Prop)(itv:Value)(s2:Shared):Prop :=
 ∃(it:Addr) (fp:List Addr) (tn:Nat->Heap->Prop) (J:It) (H':Hp),itv = .ref it/\Inv X aa σ H' s2/\Turn X.prog X.w X.K tg J fp it tn/\tn 0 s2.heap/\(∀b∈fp,zhj X aa H' b)/\R J H'
def PI (X:Cx)(tg iter:Expr)(wi:TI):Prop :=
 ∀(aa:List (Addr×Obj)) (s:Shared) (σ:St) (H:Hp) (R:It->Hp->Prop),Inv X aa σ H s->wi σ H R ->
  wpAny (model X.prog X.w) X.A (eval iter X.env) (λv s1=>wpAny (model X.prog X.w) X.A (pyIter v) (PIE X aa σ tg R) X.xe s1) X.xe s
theorem zm3 {M:Model}{A:Around}{E:Value->Shared->Prop}{s:Shared}{tg:Expr}{it:Addr}{u:Value}{o:Obj}{n:String}{vs:Array Value}{Q:Unit->Shared->Prop}(ho:s.heap.get? it=some o)(hc:o.cls = .type n)(hd:o.data = .fields vs)
  (hn:["enumerate","zip","dict_itemiterator","dict_reverseitemiterator","odict_iterator","itertools.zip_longest","itertools.pairwise"].contains n=false) (hQ:Q () s):wpAny M A (letOwnedTupleGo tg (.ref it) u) Q E s:=by
 unfold letOwnedTupleGo;cases tg<;>first
  | exact wpAny_pure hQ
  | (cases u<;>first
    | exact wpAny_pure hQ
    | (refine wpAny_bind (wpAny_load ho ?_)
       rw[hc,hd];show wpAny M A (if (["enumerate","zip","dict_itemiterator","dict_reverseitemiterator","odict_iterator","itertools.zip_longest","itertools.pairwise"].contains n&&vs[0]?==some (rawInt _))=true then _ else _) Q E s
       rw[if_neg (by intro h;rw[hn,y66] at h;cases h)]
       exact wpAny_pure hQ))
def Itl (K:y03)(a:Addr):It :=
 ⟨λi H=>∃xs x,SqL K H a xs/\xs[i]?=some x,λi H x H'=>H'=H/\∀xs,SqL K H a xs->xs[i]?=some x,λi H=>∃xs,SqL K H a xs/\xs.length≤i⟩
def Itt (K:y03)(a:Addr):It :=
 ⟨λi H=>∃xs x,SqT K H a xs/\xs[i]?=some x,λi H x H'=>H'=H/\∀xs,SqT K H a xs->xs[i]?=some x,λi H=>∃xs,SqT K H a xs/\xs.length≤i⟩
def Itr (lo:Int)(n:Nat):It:=⟨λi _=>i<n,λi H x H'=>H'=H/\x = .int (lo+i),λi _=>n≤i⟩
theorem zh1 {P:Program}{w:World}{K:y03}{tg:Expr}(a it:Addr):Turn P w K tg (Itl K a) [it] it (λi h=>h.IsListIter it a i) where
 mem:=by simp
 obj:=λi h st b hb=>by
  have e:b=it:=by simpa using hb
  subst e;obtain⟨o,e,c,d⟩:=st;exact⟨o,e,λv z=>by rw[d] at z;cases z⟩
 keep:=λi h h' st k=>st.at λo e=>k it (by simp) o e
 item:=by
  intro X hP hw hK hc i aa s σ H E I hf st hg;subst hP hw hK;obtain⟨xs,x,hq,hx⟩:=hg;obtain⟨its,rv,p,hz⟩:=I.list hq;obtain⟨u,hu,ru⟩:=rv.get hx;obtain⟨f0,f1,f2,f3,f4,f5⟩:=hf it (by simp)
  refine wpAny_pyNext_list_item st p.isList (x:=u) (by simpa using hu) λh' st' sb=>?_
  have I1:Inv X aa σ H { s with heap:=h' }:=I.turned (t':=s.toks) (λb o hb e=>(sb.2 b hb).trans e) f0 f1 f3 f4 f5
  obtain⟨o,e,c,d⟩:=id st';exact⟨u,rfl,zm3 (s:={ s with heap:=h' }) e c d (by decide) ⟨x,H,I1,ru,⟨rfl,λys hy=>by rw[I.list_inj hy hq];exact hx⟩,st',λb hb=>(hf b hb).1⟩⟩
 done:=by
  intro X hP hw hK hc i aa s σ H E I hf st hg;subst hP hw hK;obtain⟨xs,hq,hx⟩:=hg;obtain⟨its,rv,p,hz⟩:=I.list hq;obtain⟨f0,f1,f2,f3,f4,f5⟩:=hf it (by simp)
  have hl:=rv.length;exact wpAny_pyNext_list_end (I.ok.hd hc) st p.isList (by simp;omega) λh' eb=>⟨rfl,I.turned (t':=s.toks) (λb o hb e=>eb b o hb e) f0 f1 f3 f4 f5⟩
 self:=λ_ _ _ _ _ st h=>wpAny_pyIter_listiter st h
theorem zf8 {P:Program}{w:World}{K:y03}{tg:Expr}(a it:Addr):Turn P w K tg (Itt K a) [it] it (λi h=>h.IsTupleIter it a i) where
 mem:=by simp
 obj:=λi h st b hb=>by
  have e:b=it:=by simpa using hb
  subst e;obtain⟨o,e,c,d⟩:=st;exact⟨o,e,λv z=>by rw[d] at z;cases z⟩
 keep:=λi h h' st k=>st.at λo e=>k it (by simp) o e
 item:=by
  intro X hP hw hK hc i aa s σ H E I hf st hg;subst hP hw hK;obtain⟨xs,x,hq,hx⟩:=hg;obtain⟨its,rv,p,hz⟩:=I.tuple hq;obtain⟨u,hu,ru⟩:=rv.get hx;obtain⟨f0,f1,f2,f3,f4,f5⟩:=hf it (by simp)
  refine wpAny_pyNext_tuple_item st (show s.heap.IsTuple a its.toArray from p) (x:=u) (by simpa using hu) λh' st' sb=>?_
  have I1:Inv X aa σ H { s with heap:=h' }:=I.turned (t':=s.toks) (λb o hb e=>(sb.2 b hb).trans e) f0 f1 f3 f4 f5
  obtain⟨o,e,c,d⟩:=id st';exact⟨u,rfl,zm3 (s:={ s with heap:=h' }) e c d (by decide) ⟨x,H,I1,ru,⟨rfl,λys hy=>by rw[I.tuple_inj hy hq];exact hx⟩,st',λb hb=>(hf b hb).1⟩⟩
 done:=by
  intro X hP hw hK hc i aa s σ H E I hf st hg;subst hP hw hK;obtain⟨xs,hq,hx⟩:=hg;obtain⟨its,rv,p,hz⟩:=I.tuple hq;obtain⟨f0,f1,f2,f3,f4,f5⟩:=hf it (by simp)
  have hl:=rv.length;exact wpAny_pyNext_tuple_end (I.ok.hd hc) st (show s.heap.IsTuple a its.toArray from p) (by simp;omega) λh' eb=>⟨rfl,I.turned (t':=s.toks) (λb o hb e=>eb b o hb e) f0 f1 f3 f4 f5⟩
 self:=λ_ _ _ _ _ st h=>wpAny_pyIter_tupleiter st h
theorem zfa {P:Program}{w:World}{K:y03}{tg:Expr}(it:Addr)(lo:Int)(n:Nat):Turn P w K tg (Itr lo n) [it] it (λi h=>IsRangeIter h it (lo+(i:Nat)*1) ((n:Int) - (i:Nat)) 1) where
 mem:=by simp
 obj:=λi h st b hb=>by
  have e:b=it:=by simpa using hb
  subst e;exact⟨_,st,λv z=>by
   have z':Data.fields _=Data.cell v:=z;cases z'⟩
 keep:=λi h h' st k=>k it (by simp) _ st
 item:=by
  intro X hP hw hK hc i aa s σ H E I hf st hg;subst hP hw hK;obtain⟨f0,f1,f2,f3,f4,f5⟩:=hf it (by simp)
  have W:=Walks.range (prog:=X.prog) (w:=X.w) (I.ok.hd hc) it lo 1 n;refine W.item i s _ _ hg st λv h' tk hv st' kk=>?_;obtain⟨t,rfl⟩:=hv;have I1:Inv X aa σ H { s with heap:=h',toks:=tk }:=I.turned (λb o hb e=>kk b o (by simpa using hb) e) f0 f1 f3 f4 f5
  refine⟨_,rfl,zm3 (s:={ s with heap:=h',toks:=tk }) (n:="range_iterator") st' rfl rfl (by decide) ⟨.int (lo+i),H,I1,⟨t,?_⟩,⟨rfl,rfl⟩,st',λb hb=>(hf b hb).1⟩⟩
  rw[y4r]
 done:=by
  intro X hP hw hK hc i aa s σ H E I hf st hg;subst hP hw hK;obtain⟨f0,f1,f2,f3,f4,f5⟩:=hf it (by simp)
  exact wpAny_pyNext_range_end (I.ok.hd hc) st (by have:n≤i:=hg;omega) λh' eb=>⟨rfl,I.turned (t':=s.toks) (λb o hb e=>eb b o hb e) f0 f1 f3 f4 f5⟩
 self:=λ_ _ _ _ _ st h=>wpAny_pyIter_rangeiter st h
end L2
namespace L2
open PySem PySem.Spec PyProof.Rows
section
variable {X:Cx}{tg:Expr}
theorem zk9 {aa:List (Addr×Obj)}{σ:St}{H:Hp}{s:Shared}{R:It->Hp->Prop}{E:Value->Shared->Prop}{lo hi:Int}{t u v:Tok}{tk:Nat}(I:Inv X aa σ H s)(h1:-(2^62)≤lo)(h2:lo<2^62)(h3:-(2^62)≤hi)(h4:hi<2^62)
  (q:R (Itr lo (hi - lo).toNat) H):wpAny (model X.prog X.w) X.A (pyIter (.ref s.heap.objs.size)) (PIE X aa σ tg R) E { s with heap:=s.heap.push { cls:=.type "range",data:=.fields #[.int lo t,.int hi u,.int 1 v] },toks:=tk }:=by
 refine wpAny_pyIter_range (IsRange.new ..) (small_one h1 h2 h3 h4) ?_;have I1:Inv X aa σ H { s with heap:=s.heap.push { cls:=.type "range",data:=.fields #[.int lo t,.int hi u,.int 1 v] },toks:=tk }:=I.kept λb o e=>Heap.get?_push_of_some _ e
 refine⟨(s.heap.push { cls:=.type "range",data:=.fields #[.int lo t,.int hi u,.int 1 v] }).objs.size,[(s.heap.push { cls:=.type "range",data:=.fields #[.int lo t,.int hi u,.int 1 v] }).objs.size],_,_,H,rfl,
  I1.kept (t':=tk) λb o e=>Heap.get?_push_of_some _ e,zfa _ lo (hi - lo).toNat,?_,λb hb=>?_,q⟩
 ·have e1:lo+((0:Nat):Int)*1=lo:=by simp
  have e2:(((hi - lo).toNat:Nat):Int) - ((0:Nat):Int)=Builtin.Range.rangeSize lo hi 1:=by rw[rangeSize_one];split<;>omega
  show IsRangeIter _ _ (lo+((0:Nat):Int)*1) ((((hi - lo).toNat:Nat):Int) - ((0:Nat):Int)) 1;rw[e1,e2];exact Heap.get?_push_size _ rfl
 ·have e:b=(s.heap.push { cls:=.type "range",data:=.fields #[.int lo t,.int hi u,.int 1 v] }).objs.size:=by simpa using hb
  subst e;exact I1.fpOk (y09 _) (I1.hok.fresh (y09 _))
def zs4 (wi:TI)(g:TG)(tb:TS):TS:=λD σ H=>wi σ H λJ H1=>∃W:Nat->Nat->St->Hp->Prop,(∃m,W 0 m σ H1)/\∀i m σ H,W i m σ H ->
 (J.stop i H/\D.nx σ H)∨(J.go i H/\∃N:St->Hp->Prop,(∀ σ' H',N σ' H'->∃m',m'<m/\W (i+1) m' σ' H')/\∀x H',J.yld i H x H'->g x σ H' fun σ2 H2=>tb { D with nx:=N,ct:=N,bk:=D.nx } σ2 H2)
def zbo (fp:List Addr)(h:Heap):List (Addr×Obj):=fp.filterMap λb=>(h.get? b).map λo=>(b,o)
theorem z78 {fp:List Addr}{h:Heap}{b:Addr}{o:Obj}(hb:b∈fp)(e:h.get? b=some o):(b,o)∈zbo fp h:=y54.mpr ⟨b,hb,by rw[e];rfl⟩
theorem zfy {fp:List Addr}{h:Heap}{p:Addr×Obj}(hp:p∈zbo fp h):p.1∈fp/\h.get? p.1=some p.2:=by
 obtain⟨b,hb,e⟩:=y54.mp hp;cases q:h.get? b with
 | none=>rw[q] at e;cases e
 | some o =>
  rw[q] at e;have e':(b,o)=p:=y11 e;subst e';exact⟨hb,q⟩
theorem Inv.pinned {aa:List (Addr×Obj)}{σ:St}{H:Hp}{s:Shared}{fp:List Addr}(I:Inv X aa σ H s)(hf:∀b∈fp,zhj X aa H b)(ho:∀b∈fp,∃o,s.heap.get? b=some o/\∀v,o.data ≠ .cell v):Inv X (aa++zbo fp s.heap) σ H s :=
 I.pins_of λp hp=>(y0z.mp hp).elim (λz=>I.pin p (y14 _ z)) λz=>by
  obtain⟨hb,e⟩:=zfy z;obtain⟨f0,f1,f2,_⟩:=hf p.1 hb;obtain⟨o,e',d⟩:=ho p.1 hb;rw[e] at e';cases e';exact⟨e,f0,f1,f2,d⟩
theorem Inv.unpinned {aa pl:List (Addr×Obj)}{σ:St}{H:Hp}{s:Shared}(I:Inv X (aa++pl) σ H s):Inv X aa σ H s:=I.pins_of λp hp=>I.pin p (y14 _ (y3r _ hp))
theorem zp0 {iter:Expr}{body:List Stmt}{wi:TI}{g:TG}{tb:TS}{pos:Pos}(hp:PassesOwn (model X.prog X.w) X.A X.env X.xe)(hc:X.calm=true)(hi:PI X tg iter wi)(hg:PG X tg g)(hb:PSs X body tb)
  (hs:∀x,foldedSetIterable iter X.env x=pure x:=by intro _;rfl):PS X (.For tg iter body [] pos) (zs4 wi g tb):=by
 intro aa s σ H D I h;refine wpAny_For (thn (hi aa s σ H _ I h) λv s1 h1=>thn h1 λitv s2 h2=>?_) hs;obtain⟨it,fp,tn,J,H2,e,I2,T,st2,f2,W,⟨m0,w0⟩,turn⟩:=h2;subst e;have stat:∀{H':Hp},(∀b∈fp,H' b=none)->∀b∈fp,zhj X aa H' b:=λhn b hb=>⟨hn b hb,(f2 b hb).2⟩;refine codeAny_forLoop_any (λn s'=>∃i σ' H',Inv X aa σ' H' s'/\tn i s'.heap/\(∀b∈fp,H' b=none)/\W i n σ' H') ?_ m0 ⟨0,σ,H2,I2,st2,λb hb=>(f2 b hb).1,w0⟩;rintro n s3 ⟨i,σ3,H3,I3,st3,fr3,w3⟩;rcases turn i n σ3 H3 w3 with ⟨stop,qn⟩ | ⟨go,N,hN,step⟩
 ·refine wpAny_passesOwn hp (thn (T.done X rfl rfl rfl hc i aa s3 σ3 H3 X.xe I3 (stat fr3) st3 stop) λr s4 ⟨hr,I4⟩=>?_);subst hr;exact wpAny_execs_nil ⟨σ3,H3,I4,qn⟩
 ·refine wpAny_passesOwn hp (thn (T.item X rfl rfl rfl hc i aa s3 σ3 H3 X.xe I3 (stat fr3) st3 go) λr s4 ⟨u,hr,h4⟩=>?_);subst hr;refine wpAny_passesOwn hp (thn h4 λ_ s5 ⟨x,H5,I5,r5,y5,st5,fr5⟩=>?_);have I5':=I5.pinned (stat fr5) (T.obj _ _ st5);refine wpAny_passesOwn hp (thn (hg _ s5 σ3 H5 x u _ I5' r5 (step x H5 y5)) λ_ s6 ⟨σ6,H6,I6,q6⟩=>?_);refine wpAny_passesOwn hp (thn (hb _ s6 σ6 H6 _ I6 q6) λf s7 q7=>?_);have again:∀{σ7:St} {H7:Hp},Inv X (aa++zbo fp s5.heap) σ7 H7 s7->N σ7 H7->∃m,m<n/\∃i σ' H',Inv X aa σ' H' s7/\tn i s7.heap/\(∀b∈fp,H' b=none)/\W i m σ' H':=λ{σ7 H7} I7 n7=>by
   obtain⟨m',hm,w7⟩:=hN σ7 H7 n7;refine⟨m',hm,i+1,σ7,H7,I7.unpinned,T.keep _ _ _ st5 λb hb o e=>(I7.pin (b,o) (y14 _ (y14 _ (z78 hb e)))).1,λb hb=>?_,w7⟩;obtain⟨o,e,d⟩:=T.obj _ _ st5 b hb;exact(I7.pin (b,o) (y14 _ (y14 _ (z78 hb e)))).2.1
  cases f with
  | next=>obtain⟨σ7,H7,I7,n7⟩:=q7;exact again I7 n7
  | cont=>obtain⟨σ7,H7,I7,n7⟩:=q7;exact again I7 n7
  | brk=>obtain⟨σ7,H7,I7,q7⟩:=q7;exact⟨σ7,H7,I7.unpinned,q7⟩
  | ret v=>obtain⟨x7,σ7,H7,I7,r7,q7⟩:=q7;exact⟨x7,σ7,H7,I7.unpinned,r7,q7⟩
end
theorem zk8 {K:y03}{a:Addr}{xs:List V}{g:TG}{tb:TS}{D:Ends}{σ:St}{H:Hp}(Pv:Nat->St->Hp->Prop)(h0:Pv 0 σ H)(hl:∀i σ H,i≤xs.length->Pv i σ H->SqL K H a xs)
  (hs:∀i x σ H,xs[i]?=some x->Pv i σ H->g x σ H fun σ2 H2=>tb { D with nx:=Pv (i+1),ct:=Pv (i+1),bk:=D.nx } σ2 H2) (hd:∀ σ H,Pv xs.length σ H->D.nx σ H) :
  ∃W:Nat->Nat->St->Hp->Prop,(∃m,W 0 m σ H)/\∀i m σ H,W i m σ H ->
   ((Itl K a).stop i H/\D.nx σ H)∨((Itl K a).go i H/\∃N:St->Hp->Prop,(∀ σ' H',N σ' H'->∃m',m'<m/\W (i+1) m' σ' H')/\∀x H',(Itl K a).yld i H x H'->g x σ H' fun σ2 H2=>tb { D with nx:=N,ct:=N,bk:=D.nx } σ2 H2):=by
 refine⟨λi m σ H=>m=xs.length - i/\i≤xs.length/\Pv i σ H,⟨xs.length,by simp,y2d _,h0⟩,?_⟩
 rintro i m σ H ⟨rfl,hi,p⟩;have q:=hl i σ H hi p
 by_cases hlt:i<xs.length
 ·refine .inr ⟨⟨xs,xs[i],q,by simp[hlt]⟩,Pv (i+1),fun σ' H' p'=>⟨xs.length - (i+1),by omega,rfl,hlt,p'⟩,λx H' y=>?_⟩
  obtain⟨e,y⟩:=y;subst e;exact hs i x σ _ (y xs q) p
 ·have e:i=xs.length:=by omega
  subst e;exact .inl ⟨⟨xs,q,y09 _⟩,hd σ H p⟩
theorem zm7 {K:y03}{a:Addr}{xs:List V}{g:TG}{tb:TS}{D:Ends}{σ:St}{H:Hp}(Pv:Nat->St->Hp->Prop)(h0:Pv 0 σ H)(hl:∀i σ H,i≤xs.length->Pv i σ H->SqT K H a xs)
  (hs:∀i x σ H,xs[i]?=some x->Pv i σ H->g x σ H fun σ2 H2=>tb { D with nx:=Pv (i+1),ct:=Pv (i+1),bk:=D.nx } σ2 H2) (hd:∀ σ H,Pv xs.length σ H->D.nx σ H) :
  ∃W:Nat->Nat->St->Hp->Prop,(∃m,W 0 m σ H)/\∀i m σ H,W i m σ H ->
   ((Itt K a).stop i H/\D.nx σ H)∨((Itt K a).go i H/\∃N:St->Hp->Prop,(∀ σ' H',N σ' H'->∃m',m'<m/\W (i+1) m' σ' H')/\∀x H',(Itt K a).yld i H x H'->g x σ H' fun σ2 H2=>tb { D with nx:=N,ct:=N,bk:=D.nx } σ2 H2):=by
 refine⟨λi m σ H=>m=xs.length - i/\i≤xs.length/\Pv i σ H,⟨xs.length,by simp,y2d _,h0⟩,?_⟩
 rintro i m σ H ⟨rfl,hi,p⟩;have q:=hl i σ H hi p
 by_cases hlt:i<xs.length
 ·refine .inr ⟨⟨xs,xs[i],q,by simp[hlt]⟩,Pv (i+1),fun σ' H' p'=>⟨xs.length - (i+1),by omega,rfl,hlt,p'⟩,λx H' y=>?_⟩
  obtain⟨e,y⟩:=y;subst e;exact hs i x σ _ (y xs q) p
 ·have e:i=xs.length:=by omega
  subst e;exact .inl ⟨⟨xs,q,y09 _⟩,hd σ H p⟩
theorem zgu {lo:Int}{n:Nat}{g:TG}{tb:TS}{D:Ends}{σ:St}{H:Hp}(Pv:Nat->St->Hp->Prop)(h0:Pv 0 σ H)
  (hs:∀i σ H,i<n->Pv i σ H->g (.int (lo+i)) σ H fun σ2 H2=>tb { D with nx:=Pv (i+1),ct:=Pv (i+1),bk:=D.nx } σ2 H2) (hd:∀ σ H,Pv n σ H->D.nx σ H) :
  ∃W:Nat->Nat->St->Hp->Prop,(∃m,W 0 m σ H)/\∀i m σ H,W i m σ H ->
   ((Itr lo n).stop i H/\D.nx σ H)∨((Itr lo n).go i H/\∃N:St->Hp->Prop,(∀ σ' H',N σ' H'->∃m',m'<m/\W (i+1) m' σ' H')/\∀x H',(Itr lo n).yld i H x H'->g x σ H' fun σ2 H2=>tb { D with nx:=N,ct:=N,bk:=D.nx } σ2 H2):=by
 refine⟨λi m σ H=>m=n - i/\i≤n/\Pv i σ H,⟨n,by simp,y2d _,h0⟩,?_⟩
 rintro i m σ H ⟨rfl,hi,p⟩
 by_cases hlt:i<n
 ·refine .inr ⟨hlt,Pv (i+1),fun σ' H' p'=>⟨n - (i+1),by omega,rfl,hlt,p'⟩,λx H' y=>?_⟩
  obtain⟨e,y⟩:=y;subst e y;exact hs i σ _ hlt p
 ·have e:i=n:=by omega
  subst e;exact .inl ⟨y09 _,hd σ H p⟩
end L2
namespace L2
open PySem PySem.Spec PyProof.Rows
abbrev R2:=V->V->Hp->VK->Prop
def OpR (X:Cx)(f:Value->Value->Sem Value)(r:R2):Prop :=
 ∀(aa:List (Addr×Obj)) (s:Shared) (σ:St) (H:Hp) (x y:V) (v u:Value) (Q:VK),Inv X aa σ H s->RelV x v->RelV y u->r x y H Q ->
  wpAny (model X.prog X.w) X.A (f v u) (EP X aa σ Q) X.xe s
def UnR (X:Cx)(f:Value->Sem Value)(r:V->Hp->VK->Prop):Prop :=
 ∀(aa:List (Addr×Obj)) (s:Shared) (σ:St) (H:Hp) (x:V) (v:Value) (Q:VK),Inv X aa σ H s->RelV x v->r x H Q ->
  wpAny (model X.prog X.w) X.A (f v) (EP X aa σ Q) X.xe s
def z4l (X:Cx)(f:Value)(r:List V->Hp->VK->Prop):Prop :=
 ∀(aa:List (Addr×Obj)) (s:Shared) (σ:St) (H:Hp) (xs:List V) (us:List Value) (Q:VK),Inv X aa σ H s->Vals xs us->r xs H Q ->
  wpAny (model X.prog X.w) X.A (call f us) (EP X aa σ Q) X.xe s
def tOp (r:R2)(ta tb:TE):TE:=fun σ H Q=>ta σ H λx H1=>tb σ H1 λy H2=>r x y H2 Q
def tUn (r:V->Hp->VK->Prop)(ta:TE):TE:=fun σ H Q=>ta σ H λx H1=>r x H1 Q
def rI (C:Int->Int->Prop)(g:Int->Int->V):R2:=λx y H Q=>∃i j,x = .int i/\y = .int j/\C i j/\Q (g i j) H
def rI0 (g:Int->Int->V):R2:=λx y H Q=>∃i j,x = .int i/\y = .int j/\Q (g i j) H
def rU (g:Int->V):V->Hp->VK->Prop:=λx H Q=>∃i,x = .int i/\Q (g i) H
section
variable {X:Cx}{a b c:Expr}{ta tb tc:TE}{pos:Pos}
theorem zr2 (ha:PE X a ta)(hb:PE X b tb){aa:List (Addr×Obj)}{s:Shared}{σ:St}{H:Hp}{R:V->V->Hp->Prop}(I:Inv X aa σ H s)
  (h:ta σ H λx H1=>tb σ H1 λy H2=>R x y H2) {Q:Value->Shared->Prop} {f:Value->Value->Sem Value}
  (hf:∀v u s2 x y H2,Inv X aa σ H2 s2->RelV x v->RelV y u->R x y H2->wpAny (model X.prog X.w) X.A (f v u) Q X.xe s2) :
  wpAny (model X.prog X.w) X.A (eval a X.env) (λv s₁=>wpAny (model X.prog X.w) X.A (eval b X.env) (λu s₂=>wpAny (model X.prog X.w) X.A (f v u) Q X.xe s₂) X.xe s₁) X.xe s:=by
 refine thn (ha aa s σ H _ I h) λv s1 ⟨x,H1,I1,r1,q1⟩=>?_;refine thn (hb aa s1 σ H1 _ I1 q1) λu s2 ⟨y,H2,I2,r2,q2⟩=>?_;exact hf v u s2 x y H2 I2 r1 r2 q2
theorem z0m {op:Operator}{r:R2}(ho:OpR X (binaryOp op) r)(ha:PE X a ta)(hb:PE X b tb):PE X (.BinOp a op b pos) (tOp r ta tb):=by
 intro aa s σ H Q I h;exact wpAny_BinOp (zr2 ha hb I h λv u s2 x y H2 I2 rx ry q=>ho aa s2 σ H2 x y v u Q I2 rx ry q)
theorem zcw {op:UnaryOp}{r:V->Hp->VK->Prop}(ho:UnR X (unaryOp op) r)(ha:PE X a ta):PE X (.UnaryOp op a pos) (tUn r ta):=by
 intro aa s σ H Q I h;exact UnaryOp_ (thn (ha aa s σ H _ I h) λv s1 ⟨x,H1,I1,r1,q1⟩=>ho aa s1 σ H1 x v Q I1 r1 q1)
theorem opI {f:Value->Value->Sem Value}{C:Int->Int->Prop}{g:Int->Int->Int}
  (rule:∀(i j:Int) (t u:Tok) (s:Shared) (Q:Value->Shared->Prop) (E:Value->Shared->Prop),C i j->Q (.int (g i j) s.toks) { s with toks:=s.toks+1 }->wpAny (model X.prog X.w) X.A (f (.int i t) (.int j u)) Q E s) :
  OpR X f (rI C λi j=>.int (g i j)):=by
 intro aa s σ H x y v u Q I rx ry h;obtain⟨i,j,rfl,rfl,hc,q⟩:=h;obtain⟨t,rfl⟩:=rx;obtain⟨t',rfl⟩:=ry;exact rule i j t t' s _ _ hc ⟨.int (g i j),H,I.tok _,⟨_,rfl⟩,q⟩
theorem zrr {f:Value->Value->Sem Value}{g:Int->Int->Int}
  (rule:∀(i j:Int) (t u:Tok) (s:Shared) (Q:Value->Shared->Prop) (E:Value->Shared->Prop),Q (.int (g i j) s.toks) { s with toks:=s.toks+1 }->wpAny (model X.prog X.w) X.A (f (.int i t) (.int j u)) Q E s) :
  OpR X f (rI0 λi j=>.int (g i j)):=by
 intro aa s σ H x y v u Q I rx ry h;obtain⟨i,j,rfl,rfl,q⟩:=h;obtain⟨t,rfl⟩:=rx;obtain⟨t',rfl⟩:=ry;exact rule i j t t' s _ _ ⟨.int (g i j),H,I.tok _,⟨_,rfl⟩,q⟩
theorem zrc {f:Value->Value->Sem Value}{g:Int->Int->Bool}
  (rule:∀(i j:Int) (t u:Tok) (s:Shared) (Q:Value->Shared->Prop) (E:Value->Shared->Prop),Q (.bool (g i j)) s->wpAny (model X.prog X.w) X.A (f (.int i t) (.int j u)) Q E s) :
  OpR X f (rI0 λi j=>.bl (g i j)):=by
 intro aa s σ H x y v u Q I rx ry h;obtain⟨i,j,rfl,rfl,q⟩:=h;obtain⟨t,rfl⟩:=rx;obtain⟨t',rfl⟩:=ry;exact rule i j t t' s _ _ ⟨.bl (g i j),H,I,rfl,q⟩
theorem zoa:OpR X (binaryOp .Add) (rI0 λi j=>.int (i+j)):=zrr λ_ _ _ _ _ _ _ q=>add_int q
theorem zow:OpR X (binaryOp .Sub) (rI0 λi j=>.int (i - j)):=zrr λ_ _ _ _ _ _ _ q=>sub_int q
theorem zov:OpR X (binaryOp .Mod) (rI (λ_ j=>0<j) λi j=>.int (i % j)):=opI λi j _ _ _ _ _ hc q=>by
 have h1:(0:Int)<j:=hc;exact mod_int' (by omega) (by rw[Int.fmod_eq_emod_of_nonneg i (by omega)];exact q)
theorem unI {f:Value->Sem Value}{g:Int->Int}
  (rule:∀(i:Int) (t:Tok) (s:Shared) (Q:Value->Shared->Prop) (E:Value->Shared->Prop),Q (.int (g i) s.toks) { s with toks:=s.toks+1 }->wpAny (model X.prog X.w) X.A (f (.int i t)) Q E s) :
  UnR X f (rU λi=>.int (g i)):=by
 intro aa s σ H x v Q I rx h;obtain⟨i,rfl,q⟩:=h;obtain⟨t,rfl⟩:=rx;exact rule i t s _ _ ⟨.int (g i),H,I.tok _,⟨_,rfl⟩,q⟩
theorem zp5:UnR X (unaryOp .USub) (rU λi=>.int (-i)):=unI λ_ _ _ _ _ q=>neg_int q
end
def zpv:V->V->Bool
 | .non,.non=>true | .non,.int _=>true | .int _,.non=>true | .non,.bl _=>true | .bl _,.non=>true | .non,.str _=>true | .str _,.non=>true
 | .int _,.int _=>true | .bl _,.bl _=>true | .str _,.str _=>true | .byt _,.byt _=>true
 | .int _,.str _=>true | .str _,.int _=>true | .bl _,.str _=>true | .str _,.bl _=>true
 | _,_=>false
def rEq:R2:=λx y H Q=>zpv x y=true/\Q (.bl (decide (x=y))) H
def rNe:R2:=λx y H Q=>zpv x y=true/\Q (.bl (!decide (x=y))) H
theorem zgs {i j:Int}:decide (V.int i=V.int j)=(i==j):=by
 rw[y2o];simp
theorem zl4 {i j:Bool}:decide (V.bl i=V.bl j)=(i==j):=by
 rw[y2o];simp
theorem zim {i j:Str}:decide (V.str i=V.str j)=(i==j):=by
 rw[y2o];simp
theorem zhr {i j:Array UInt8}:decide (V.byt i=V.byt j)=(i.toList==j.toList):=by
 rw[y2o];cases i;cases j;simp
section
variable {X:Cx}{a b c:Expr}{ta tb tc:TE}{pos:Pos}
theorem z1j {aa:List (Addr×Obj)}{σ:St}{H:Hp}{s:Shared}{Q:VK}{k k':Bool}(I:Inv X aa σ H s)(q:Q (.bl k) H)(e:k=k'):EP X aa σ Q (.bool k') s:=by
 subst e;exact⟨.bl k,H,I,rfl,q⟩
theorem zkn:OpR X (compareOp .Eq) rEq:=by
 intro aa s σ H x y v u Q I rx ry h;obtain⟨hs,q⟩:=h;cases x with
 | non =>
  cases rx;cases y with
  | non=>cases ry;exact PySem.EqNone.eq_none_none (z1j I q (by simp))
  | bl j=>cases ry;exact PySem.EqNone.eq_none_bool (z1j I q (by simp))
  | int j=>obtain⟨t',rfl⟩:=ry;exact PySem.EqNone.eq_none_int (z1j I q (by simp))
  | str j=>obtain⟨t',rfl⟩:=ry;exact PySem.EqNone.eq_none_str (z1j I q (by simp))
  | _=>exact absurd (show false=true from hs) y15
 | bl i =>
  cases rx;cases y with
  | non=>cases ry;exact PySem.EqNone.eq_bool_none (z1j I q (by simp))
  | bl j=>cases ry;exact eq_bool (z1j I q zl4)
  | str j=>obtain⟨t',rfl⟩:=ry;exact PySem.EqMixed.eq_bool_str (z1j I q (by simp))
  | _=>exact absurd (show false=true from hs) y15
 | int i =>
  obtain⟨t,rfl⟩:=rx;cases y with
  | non=>cases ry;exact PySem.EqNone.eq_int_none (z1j I q (by simp))
  | int j=>obtain⟨t',rfl⟩:=ry;exact eq_int (z1j I q zgs)
  | str j=>obtain⟨t',rfl⟩:=ry;exact PySem.EqMixed.eq_int_str (z1j I q (by simp))
  | _=>exact absurd (show false=true from hs) y15
 | str i =>
  obtain⟨t,rfl⟩:=rx;cases y with
  | non=>cases ry;exact PySem.EqNone.eq_str_none (z1j I q (by simp))
  | bl j=>cases ry;exact PySem.EqMixed.eq_str_bool (z1j I q (by simp))
  | int j=>obtain⟨t',rfl⟩:=ry;exact PySem.EqMixed.eq_str_int (z1j I q (by simp))
  | str j=>obtain⟨t',rfl⟩:=ry;exact eq_str (z1j I q zim)
  | _=>exact absurd (show false=true from hs) y15
 | byt i =>
  obtain⟨t,rfl⟩:=rx;cases y with
  | byt j=>obtain⟨t',rfl⟩:=ry;exact PySem.W.eq_bytes (z1j I q zhr)
  | _=>exact absurd (show false=true from hs) y15
 | _=>cases y<;>exact absurd (show false=true from hs) y15
theorem zjw:OpR X (compareOp .NotEq) rNe:=by
 intro aa s σ H x y v u Q I rx ry h;obtain⟨hs,q⟩:=h;cases x with
 | non =>
  cases rx;cases y with
  | non=>cases ry;exact PySem.EqNone.ne_none_none (z1j I q (by simp))
  | bl j=>cases ry;exact PySem.EqNone.ne_none_bool (z1j I q (by simp))
  | int j=>obtain⟨t',rfl⟩:=ry;exact PySem.EqNone.ne_none_int (z1j I q (by simp))
  | str j=>obtain⟨t',rfl⟩:=ry;exact PySem.EqNone.ne_none_str (z1j I q (by simp))
  | _=>exact absurd (show false=true from hs) y15
 | bl i =>
  cases rx;cases y with
  | non=>cases ry;exact PySem.EqNone.ne_bool_none (z1j I q (by simp))
  | bl j=>cases ry;exact ne_bool (z1j I q (congrArg not zl4))
  | str j=>obtain⟨t',rfl⟩:=ry;exact PySem.EqMixed.ne_bool_str (z1j I q (by simp))
  | _=>exact absurd (show false=true from hs) y15
 | int i =>
  obtain⟨t,rfl⟩:=rx;cases y with
  | non=>cases ry;exact PySem.EqNone.ne_int_none (z1j I q (by simp))
  | int j=>obtain⟨t',rfl⟩:=ry;exact ne_int (z1j I q (congrArg not zgs))
  | str j=>obtain⟨t',rfl⟩:=ry;exact PySem.EqMixed.ne_int_str (z1j I q (by simp))
  | _=>exact absurd (show false=true from hs) y15
 | str i =>
  obtain⟨t,rfl⟩:=rx;cases y with
  | non=>cases ry;exact PySem.EqNone.ne_str_none (z1j I q (by simp))
  | bl j=>cases ry;exact PySem.EqMixed.ne_str_bool (z1j I q (by simp))
  | int j=>obtain⟨t',rfl⟩:=ry;exact PySem.EqMixed.ne_str_int (z1j I q (by simp))
  | str j=>obtain⟨t',rfl⟩:=ry;exact ne_str (z1j I q (congrArg not zim))
  | _=>exact absurd (show false=true from hs) y15
 | byt i =>
  obtain⟨t,rfl⟩:=rx;cases y with
  | byt j=>obtain⟨t',rfl⟩:=ry;exact PySem.W.ne_bytes (z1j I q (congrArg not zhr))
  | _=>exact absurd (show false=true from hs) y15
 | _=>cases y<;>exact absurd (show false=true from hs) y15
theorem zrb:OpR X (compareOp .Lt) (rI0 λi j=>.bl (decide (i<j))):=zrc λ_ _ _ _ _ _ _ q=>lt_int q
theorem zqa:OpR X (compareOp .Gt) (rI0 λi j=>.bl (decide (j<i))):=zrc λ_ _ _ _ _ _ _ q=>gt_int q
theorem zq5:OpR X (compareOp .GtE) (rI0 λi j=>.bl (decide (j≤i))):=zrc λ_ _ _ _ _ _ _ q=>ge_int q
theorem zon:OpR X (compareOp .Is) (λx y H Q=>y = .non/\Q (.bl (decide (x = .non))) H):=by
 intro aa s σ H x y v u Q I rx ry h;obtain⟨rfl,q⟩:=h;cases ry;refine is_none_gen (z1j I q ?_);cases x<;>first
  | (cases rx;rfl)
  | (obtain⟨t,rfl⟩:=rx;rfl)
theorem zno:OpR X (compareOp .IsNot) (λx y H Q=>y = .non/\Q (.bl (!decide (x = .non))) H):=by
 intro aa s σ H x y v u Q I rx ry h;obtain⟨rfl,q⟩:=h;cases ry;refine isnot_none_gen (z1j I q ?_);cases x<;>first
  | (cases rx;rfl)
  | (obtain⟨t,rfl⟩:=rx;rfl)
theorem z0o (b:Expr){op:CmpOp}(h:op ≠ .In:=by decide)(h2:op ≠ .NotIn:=by decide):behindInMarks op b=false:=by
 have e1:(op==CmpOp.In)=false:=by cases op<;>first | rfl | exact absurd rfl h
 have e2:(op==CmpOp.NotIn)=false:=by cases op<;>first | rfl | exact absurd rfl h2
 cases b<;>simp[behindInMarks,e1,e2]
theorem z3k {op:CmpOp}{r:R2}(ho:OpR X (compareOp op) r)(ha:PE X a ta)(hb:PE X b tb)(hm:behindInMarks op b=false):PE X (.Compare a [op] [b] pos) (tOp r ta tb):=by
 intro aa s σ H Q I h;exact wpAny_Compare1 (zr2 ha hb I h λv u s2 x y H2 I2 rx ry q=>ho aa s2 σ H2 x y v u Q I2 rx ry q) hm
theorem zbp:(sizeLine:Nat)<2^63:=by rw[sizeLine_eq];decide
theorem zez:OpR X (binaryOp .Add) (λx y H Q=>∃i j,x = .str i/\y = .str j/\i.length+j.length≤sizeLine/\Q (.str (i++j)) H):=by
 intro aa s σ H x y v u Q I rx ry h;obtain⟨i,j,rfl,rfl,hz,q⟩:=h;obtain⟨t,rfl⟩:=rx;obtain⟨t',rfl⟩:=ry;exact add_str (λt' tk=>⟨.str (i++j),H,I.tok _,⟨_,rfl⟩,q⟩) hz
theorem z6t {x:V}{us:List Value}(r:Vals [x] us):∃u,us = [u]/\RelV x u:=by
 cases r with
 | cons r1 r2=>cases r2;exact⟨_,rfl,r1⟩
theorem zlt {x y:V}{us:List Value}(r:Vals [x,y] us):∃u w',us = [u,w']/\RelV x u/\RelV y w':=by
 cases r with
 | cons r1 r2 =>
  cases r2 with
  | cons r3 r4=>cases r4;exact⟨_,_,rfl,r1,r3⟩
theorem zkj:z4l X (.builtin "abs") (λxs H Q=>∃i,xs = [.int i]/\Q (.int (if i<0 then -i else i)) H):=by
 intro aa s σ H xs us Q I r h;obtain⟨i,rfl,q⟩:=h;obtain⟨u,rfl,t,rfl⟩:=z6t r;exact call_abs_int λu tk=>⟨.int (if i<0 then -i else i),H,I.tok _,⟨_,rfl⟩,q⟩
theorem zhw (hc:X.calm=true):z4l X (.builtin "min") (λxs H Q=>∃i j,xs = [.int i,.int j]/\Q (.int (if j<i then j else i)) H):=by
 intro aa s σ H xs us Q I r h;obtain⟨i,j,rfl,q⟩:=h;obtain⟨u,w',rfl,⟨t,rfl⟩,⟨t',rfl⟩⟩:=zlt r;refine min_two_ints (I.ok.hd hc) λh' tk k=>⟨_,H,I.kept k,?_,q⟩
 by_cases hj:j<i
 ·rw[if_pos hj,if_pos hj];exact⟨_,rfl⟩
 ·rw[if_neg hj,if_neg hj];exact⟨_,rfl⟩
end
end L2
namespace L2
open PySem PySem.Spec PyProof.Rows
structure ObjM (h:Heap)(x dx C:Addr)(mA:Str->Option Value):Prop where
 obj:h.get? x=some (y35 C dx)
 ns:h.Ns1 dx mA
 ne:dx≠x
theorem zi8 {h:Heap}{dx:Addr}{mA:Str->Option Value}(n:h.Ns1 dx mA):∃od,h.get? dx=some od/\∀name,y59 name od=some (mA name):=by
 obtain⟨o,es,ep,ho,hd,hk,_,hm⟩:=n;refine⟨o,ho,λname=>?_⟩;have e:=hm name;unfold nsFind findBy at e;rw[←Array.find?_toList] at e;unfold y59;rw[hd];dsimp only
 split
 ·rename_i y q;rw[q] at e;exact congrArg some e
 ·rename_i q;rw[q] at e;have a:es.toList.any (·.refKey)=false:=by
   rw[y6n];intro y hy;obtain⟨z,t,hkey⟩:=hk y (Array.mem_toList_iff.mp hy);simp[DictEntry.refKey,hkey]
  have a':¬es.toList.any (·.refKey)=true:=by rw[a];exact y15
  rw[if_neg a'];exact congrArg some e
theorem ObjM.look {h:Heap}{x dx C:Addr}{mA:Str->Option Value}(I:ObjM h x dx C mA):∃od,PySem.W.InstAt h x (y35 C dx) C (some od)/\∀name,y59 name od=some (mA name) :=
 let ⟨od,ho,hl⟩:=zi8 I.ns
 ⟨od,⟨I.obj,rfl,rfl,ho⟩,hl⟩
section
variable {prog:Program}{w:World}{A:Around}{E:Value->Shared->Prop}{s:Shared}{K:y03}{x dx C f:Addr}{mA:Str->Option Value}{name:Str}{v:Value}
theorem zn0 {expr:Bool}{Q:Value->Shared->Prop}(X:K.In s.heap)(I:ObjM s.heap x dx C mA)(hg:y3v K C name=true)(hh:y49 K C=true)
  (ha:y0y K (.ref C) name=some none) (hv:mA name=some v) (hv':y72 v=true) (h:Q v { s with toks:=s.toks+1 }) :
  wpAny (model prog w) A (getAttr (.ref x) name expr) Q E s:=by
 obtain⟨od,J,hl⟩:=I.look;exact PySem.W.get_value X J (y4s hg).1 (PySem.W.findObj_own hh ha rfl (by rw[hl,hv])) hv' h
theorem zkd {pl:Sem Bool}{Q:Value×List Value->Shared->Prop}(X:K.In s.heap)(I:ObjM s.heap x dx C mA)(hg:y3v K C name=true)
  (hf:y0y K (.ref C) name=some (some (.ref f))) (ht:y22 K (.ref f)=true) (hv:mA name=none) (h:Q (.ref f,[.ref x]) s) :
  wpAny (model prog w) A (getMethod (.ref x) name pl) Q E s:=by
 obtain⟨od,J,hl⟩:=I.look;exact PySem.W.method_fn X J (y4s hg).1 (y4s hg).2 hf (beq_iff_eq.mp ht) (by show(y59 name od).map (·.isSome)=some false;rw[hl,hv];rfl) h
theorem zmq {ns:List Str}{Q:Unit->Shared->Prop}(X:K.In s.heap)(I:ObjM s.heap x dx C mA)
  (hs:y0y K (.ref C) "__setattr__"=some (some (.builtin "object.__setattr__"))) (hp:y5d K C=true) (ht:y5t K C name=some none) (hh:y49 K C=true)
  (hw:y6y mA ns) (hsz:ns.length≤sizeLine)
  (h:∀h',ObjM h' x dx C (λy=>if y=name then some v else mA y)->Heap.SameBut dx s.heap h'->Q () { s with heap:=h',toks:=s.toks+2 }) :
  wpAny (model prog w) A (setAttr (.ref x) name v) Q E s:=by
 obtain⟨od,J,hl⟩:=I.look;refine PySem.W.set_plain X J hs (PySem.W.osa_open (s:={ s with toks:=s.toks+1 }) (r:=none) X J hp ht λb=>?_)
 obtain⟨cd,hc,hd'⟩:=PySem.W.any_some hh;have hx:s.heap.get? x=some ⟨.ref C,some dx,.plain,#[]⟩:=I.obj;refine wpAny_bind (wpAny_pure (wpAny_bind (wpAny_bind (wpAny_loadPart hx (wpAny_bind (PySem.W.Looks.here (s:={ s with toks:=s.toks+1 }) (PySem.W.looks_clsIn X hc) ?_))))))
 rw[hd'];refine wpAny_pure (a:=some dx) (wpAny_bind (wpAny_pure (wpAny_bind ?_)));refine wpAny_nsSet1 (s:={ s with toks:=s.toks+1 }) I.ns λh' hn2 hs2=>?_
 obtain⟨oD,esD,epD,hoD,hdD,hcD⟩:=hn2.count (PySem.Within.cons name v hw);refine wpAny_bind (wpAny_lookBehind hoD (by rw[hdD];exact pastItsLine_dict (y13 hcD (by rw[y1f];omega))) ?_)
 exact wpAny_pure (h _ ⟨(hs2.2 _ (Ne.symm I.ne)).trans I.obj,hn2,I.ne⟩ hs2)
theorem zjj {R:Result->Shared->Prop}{vs:List Value}{kw:List (Str×Value)}(X:K.In s.heap)(hm:y4t K C=true)
  (hi:y0y K (.ref C) "__init__"=some (some (.ref f))) (hf:PySem.W.typeIn K (.ref f)=some (.type "function"))
  (h:codeAny (model prog w) (A.under (.builtin "type.__call__" ⟨.ref C::vs,kw⟩)) (.call (.ref f) ⟨.ref (s.heap.objs.size+1)::vs,kw⟩) (PySem.W.InitBack (s.heap.objs.size+1) R)
   { s with heap:=(s.heap.push y2n).push (y35 C s.heap.objs.size) }) :
  codeAny (model prog w) A (.call (.ref C) ⟨vs,kw⟩) R s:=by
 obtain⟨hh,g,d,t,os⟩:=s;exact PySem.W.make_core (PySem.W.makes_of X hm) (PySem.W.looks_findIn X hi) (λself=>PySem.W.bind_fn X self hf) (.inl rfl) h
end
def z8u (f:Str)(v:V):List (Str×V)->List (Str×V)
 | []=>[(f,v)]
 | (g,x)::r=>if g=f then (g,v)::r else (g,x)::z8u f v r
theorem z5p (f g:Str)(v:V):∀fs:List (Str×V),(z8u f v fs).lookup g=if g=f then some v else fs.lookup g
 | []=>by
  show y4a g [(f,v)]=_
  by_cases h:g=f
  ·have hb:(g==f)=true:=beq_iff_eq.mpr h;simp only[y4a,hb,if_pos h]
  ·have hb:(g==f)=false:=beq_eq_false_iff_ne.mpr h;simp only[y4a,hb,if_neg h]
 | (k,x)::r=>by
  have ih:=z5p f g v r;rw[show z8u f v ((k,x)::r)=(if k=f then (k,v)::r else (k,x)::z8u f v r) from rfl]
  by_cases hk:k=f
  ·rw[if_pos hk]
   by_cases h:g=k
   ·have hb:(g==k)=true:=beq_iff_eq.mpr h;simp only[y4a,hb,if_pos (h.trans hk)]
   ·have hb:(g==k)=false:=beq_eq_false_iff_ne.mpr h;simp only[y4a,hb,if_neg (λe:g=f=>h (e.trans hk.symm))]
  ·rw[if_neg hk]
   by_cases h:g=k
   ·have hb:(g==k)=true:=beq_iff_eq.mpr h;simp only[y4a,hb,if_neg (λe:g=f=>hk (h.symm.trans e))]
   ·have hb:(g==k)=false:=beq_eq_false_iff_ne.mpr h;simp only[y4a,hb];exact ih
theorem z95 (f:Str)(v:V):∀fs:List (Str×V),f∈(z8u f v fs).map (·.1)/\∀g,g∈fs.map (·.1)->g∈(z8u f v fs).map (·.1)
 | []=>⟨by simp[z8u],λg h=>by simp at h⟩
 | (k,x)::r=>by
  obtain⟨i1,i2⟩:=z95 f v r;rw[show z8u f v ((k,x)::r)=(if k=f then (k,v)::r else (k,x)::z8u f v r) from rfl]
  by_cases hk:k=f
  ·rw[if_pos hk];subst hk;exact⟨by simp,λg h=>by simpa using h⟩
  ·rw[if_neg hk];refine⟨?_,λg h=>?_⟩
   ·rw[y0n];exact y0b _ i1
   ·rw[y0n] at h ⊢
    rcases y0m.mp h with e | e
    ·exact y0m.mpr (.inl e)
    ·exact y0b _ (i2 g e)
theorem z5o (f:Str)(v:V):∀fs:List (Str×V),(z8u f v fs).length≤fs.length+1
 | []=>by simp[z8u]
 | (k,x)::r=>by
  have ih:=z5o f v r;rw[show z8u f v ((k,x)::r)=(if k=f then (k,v)::r else (k,x)::z8u f v r) from rfl]
  by_cases hk:k=f
  ·rw[if_pos hk,y1f,y1f];omega
  ·rw[if_neg hk,y1f,y1f];omega
theorem RelO.some_of {v:V}{o:Option Value}(r:RelO (some v) o):∃u,o=some u/\RelV v u:=by
 cases o with
 | none=>exact(show False from r).elim
 | some u=>exact⟨u,rfl,r⟩
theorem RelO.none_of {o:Option Value}(r:RelO none o):o=none:=by
 cases o with
 | none=>rfl
 | some u=>exact(show False from r).elim
theorem zg7 {v:V}{u:Value}(r:RelV v u):y72 u=true:=by
 cases v with
 | non=>cases (show u=Value.none from r);rfl
 | bl b=>cases (show u=Value.bool b from r);rfl
 | int i=>obtain⟨t,e⟩:=(show ∃t,u=Value.int i t from r);cases e;rfl
 | str x=>obtain⟨t,e⟩:=(show ∃t,u=Value.str x t from r);cases e;rfl
 | byt b=>obtain⟨t,e⟩:=(show ∃t,u=Value.bytes b t from r);cases e;rfl
 | flt b=>obtain⟨t,e⟩:=(show ∃t,u=Value.float b t from r);cases e;rfl
 | ref a=>cases (show u=Value.ref a from r);rfl
 | ty n=>cases (show u=Value.type n from r);rfl
section
variable {P:Program}{w:World}{H H':Hp}{h h':Heap}{a C dx:Addr}{fs fs':List (Str×V)}
theorem zad (hok:HOk P w H h)(e:H a=some (.ins C dx fs)):∃mA,ObjM h a dx C mA/\(∀f,RelO (fs.lookup f) (mA f))/\y6y mA (fs.map (·.1))/\fs.length≤1000/\H dx=some (.own a):=by
 obtain⟨d,z,ne,ob,mA,n,r,q⟩:=(show ObjOk P w H h a (.ins C dx fs) from hok a _ e)
 exact⟨mA,⟨ob,n,ne⟩,r,q,z,d⟩
end
structure Cls (K:y03)(C:Addr):Prop where
 pg:y3v K C Str.empty=true
 hd:y49 K C=true
 po:y5d K C=true
 sa:y0y K (.ref C) "__setattr__"=some (some (.builtin "object.__setattr__"))
theorem Cls.get {K:y03}{C:Addr}(c:Cls K C)(f:Str):y3v K C f=true:=c.pg
def NoAttr (K:y03)(C:Addr)(f:Str):Prop:=y0y K (.ref C) f=some none
theorem NoAttr.taker {K:y03}{C:Addr}{f:Str}(n:NoAttr K C f):y5t K C f=some none:=by
 unfold y5t;rw[show y0y K (.ref C) f=some none from n]
 rfl
structure Con (K:y03)(C:Addr)(f:Str)(v:V)(u:Value):Prop where
 at_:y0y K (.ref C) f=some (some u)
 rel:RelV v u
 get:y6o K u "__get__"=some none
 cp:PySem.W.copiedNames.contains f=false
structure Meth (K:y03)(C:Addr)(m:Str)(f:Addr):Prop where
 at_:y0y K (.ref C) m=some (some (.ref f))
 fn:y22 K (.ref f)=true
 kp:y0g K (.ref f)=true
section
variable {X:Cx}{aa:List (Addr×Obj)}{σ:St}{H:Hp}{s:Shared}{a C dx:Addr}{fs:List (Str×V)}{f:Str}{v:V}{A:Around}{E:Value->Shared->Prop}
theorem zf3 {b:Bool}{Q:Value->Shared->Prop}(I:Inv X aa σ H s)(e:H a=some (.ins C dx fs))(c:Cls X.K C)(n:NoAttr X.K C f)(l:fs.lookup f=some v)
  (h:∀u s',Inv X aa σ H s'->RelV v u->Q u s'):wpAny (model X.prog X.w) A (getAttr (.ref a) f b) Q E s:=by
 obtain⟨mA,O,r,_,_,_⟩:=zad I.hok e;obtain⟨u,hu,ru⟩:=RelO.some_of (v:=v) (o:=mA f) (by rw[←l];exact r f)
 exact zn0 I.kIn O (c.get f) c.hd n hu (zg7 ru) (h u _ (I.tok _) ru)
theorem z9e {m:Str}{g:Addr}{pl:Sem Bool}{Q:Value×List Value->Shared->Prop}(I:Inv X aa σ H s)(e:H a=some (.ins C dx fs))(c:Cls X.K C)(k:Meth X.K C m g)(l:fs.lookup m=none)
  (h:Q (.ref g,[.ref a]) s):wpAny (model X.prog X.w) A (getMethod (.ref a) m pl) Q E s:=by
 obtain⟨mA,O,r,_,_,_⟩:=zad I.hok e;have hn:mA m=none:=RelO.none_of (by rw[←l];exact r m)
 exact zkd I.kIn O (c.get m) k.at_ k.fn hn h
theorem zff {y:V}{u:Value}{Q:Unit->Shared->Prop}(I:Inv X aa σ H s)(e:H a=some (.ins C dx fs))(c:Cls X.K C)(n:NoAttr X.K C f)(hl:fs.length<1000)(ry:RelV y u)
  (h:∀s',Inv X aa σ (upd H a (.ins C dx (z8u f y fs))) s'->Q () s'):wpAny (model X.prog X.w) A (setAttr (.ref a) f u) Q E s:=by
 obtain⟨mA,O,r,wi,_,ho⟩:=zad I.hok e;have hz:(fs.map (·.1)).length≤sizeLine:=by rw[y04,sizeLine_eq];omega
 refine zmq I.kIn O c.sa c.po n.taker c.hd wi hz λh' O' sb=>h _ ?_;have hd:∃o,h'.get? dx=some o:=let ⟨o,_,_,e',_⟩:=O'.ns;⟨o,e'⟩
 refine I.write (x:=a) (e:=dx) (by rw[e];exact True.intro) (.inr ho) (λb q hb z=>(sb.2 b hb).trans z) hd ?_
 refine⟨by rw[z0a O.ne];exact ho,?_,O.ne,O'.obj,_,O'.ns,λg=>?_,λg hg=>?_⟩
 ·have:=z5o f y fs;omega
 ·show RelO ((z8u f y fs).lookup g) (if g=f then some u else mA g)
  rw[z5p]
  by_cases q:g=f
  ·rw[if_pos q,if_pos q];exact ry
  ·rw[if_neg q,if_neg q];exact r g
 ·by_cases q:g=f
  ·rw[q];exact(z95 f y fs).1
  ·refine(z95 f y fs).2 g (wi g λz=>hg ?_);show(if g=f then some u else mA g)=none
   rw[if_neg q];exact z
theorem Inv.made (I:Inv X aa σ H s):Inv X aa σ (upd (upd H s.heap.objs.size (.own (s.heap.objs.size+1))) (s.heap.objs.size+1) (.ins C s.heap.objs.size []))
  { s with heap:=(s.heap.push y2n).push (y35 C s.heap.objs.size) }:=by
 have e1:(s.heap.push y2n).get? s.heap.objs.size=some y2n:=Heap.get?_push_size s.heap rfl;have e2:((s.heap.push y2n).push (y35 C s.heap.objs.size)).get? (s.heap.objs.size+1)=some (y35 C s.heap.objs.size):=by
  have:=Heap.get?_push_size (s.heap.push y2n) (o:=y35 C s.heap.objs.size) rfl
  rwa [Heap.size_push] at this
 have e3:(s.heap.push y2n).Ns s.heap.objs.size (λ_=>none):=⟨y2n,#[],_,e1,rfl,(λe he=>absurd he (by simp)),λ_=>rfl⟩
 have I1:=I.laid (a:=s.heap.objs.size) (o:=.own (s.heap.objs.size+1)) (h':=s.heap.push y2n) (t':=s.toks) (λb u q=>Heap.get?_push_of_some _ q) (y09 _) ⟨_,e1⟩;refine I1.laid (a:=s.heap.objs.size+1) (o:=.ins C s.heap.objs.size []) (t':=s.toks) (λb u q=>Heap.get?_push_of_some _ q) (y6z (Heap.size_push _ _)) ?_;have ne:s.heap.objs.size≠s.heap.objs.size+1:=y0t (y38 _)
 refine⟨by rw[z0a ne,z01],y2d _,ne,e2,λ_=>none,(Heap.Ns1.of_empty e3).at λo q=>Heap.get?_push_of_some _ q,λ_=>True.intro,λy hy=>absurd rfl hy⟩
theorem zmh {prog:Program}{w:World}{env:Env}{e:Expr}{f:Str}{pos:Pos}{s:Shared}{Q:Value->Shared->Prop}(hb:attributeBase e f env (eval e env)=eval e env)
  (h:wpAny (model prog w) A (eval e env) (λo s₁=>wpAny (model prog w) A (getAttr o f true) Q E s₁) E s):wpAny (model prog w) A (eval (.Attribute e f pos) env) Q E s :=
 Attribute_any_ h (by rw[arm_eval_Attribute,hb])
end
def zry (K:y03)(ta:TE)(f:Str):TE:=fun σ H Q=>ta σ H λx H1=>∃a C dx fs v,x = .ref a/\H1 a=some (.ins C dx fs)/\Cls K C/\NoAttr K C f/\fs.lookup f=some v/\Q v H1
def zrz (K:y03)(ta tv:TE)(f:Str):TS:=λD σ H=>tv σ H λy H1=>ta σ H1 λx H2=>∃a C dx fs,x = .ref a/\H2 a=some (.ins C dx fs)/\Cls K C/\NoAttr K C f/\fs.length<1000 /\
 D.nx σ (upd H2 a (.ins C dx (z8u f y fs)))
section
variable {X:Cx}{o e value:Expr}{f:Str}{pos bU tpos:Pos}{ta tv:TE}
theorem zo4 (he:PE X e ta)(hb:attributeBase e f X.env (eval e X.env)=eval e X.env):PE X (.Attribute e f pos) (zry X.K ta f):=by
 intro aa s σ H Q I h;refine zmh hb (thn (he aa s σ H _ I h) λu s1 ⟨x,H1,I1,rx,a,C,dx,fs,v,ex,ea,c,n,l,q⟩=>?_);subst ex;obtain rfl:u=Value.ref a:=rx;exact zf3 I1 ea c n l λu' s2 I2 ru=>⟨v,H1,I2,ru,q⟩
theorem zo2 (ha:PE X o ta)(hv:PE X value tv)(hs:swapsWith value (some (.Attribute o f bU)) pos.line X.env=pure false):PS X (.Assign [.Attribute o f bU] value pos) (zrz X.K ta tv f):=by
 intro aa s σ H D I h;refine plainObj_wpAny_Assign_Attribute (thn (hv aa s σ H _ I h) λu s1 ⟨y,H1,I1,ry,q⟩=>thn (ha aa s1 σ H1 _ I1 q) λov s2 ⟨x,H2,I2,rx,a,C,dx,fs,ex,ea,c,n,l,q2⟩=>?_) hs;subst ex;obtain rfl:ov=Value.ref a:=rx;exact zff I2 ea c n l ry λs3 I3=>⟨σ,_,I3,q2⟩
end
section
variable {X:Cx}{aa:List (Addr×Obj)}{σ:St}{H:Hp}{s:Shared}{A:Around}{E:Value->Shared->Prop}{Q:Value->Shared->Prop}{c:Value}{b:Bool}
inductive TyOf (K:y03) (H:Hp):V->Value->Prop where
 | non:TyOf K H .non (.type "NoneType")
 | bl (x:Bool):TyOf K H (.bl x) (.type "bool")
 | int (i:Int):TyOf K H (.int i) (.type "int")
 | str (x:Str):TyOf K H (.str x) (.type "str")
 | flt (x:UInt64):TyOf K H (.flt x) (.type "float")
 | lst {a:Addr} {xs:List V} (e:H a=some (.lst xs)):TyOf K H (.ref a) (.type "list")
 | frz {a:Addr} {o:Obj} {xs:List V} (e:H a=some (.frz o (.lst xs))):TyOf K H (.ref a) (.type "list")
 | tup {a:Addr} {xs:List V} (e:H a=some (.tup xs)):TyOf K H (.ref a) (.type "tuple")
 | dK {a:Addr} {kvs:List (Key×V)} (e:H a=some (.dK kvs)):TyOf K H (.ref a) (.type "dict")
 | dT {a:Addr} {kvs:List (List Key×V)} (e:H a=some (.dT kvs)):TyOf K H (.ref a) (.type "dict")
 | ins {a C dx:Addr} {fs:List (Str×V)} (e:H a=some (.ins C dx fs)) (cl:Cls K C) (ha:y0y K (.ref C) "__class__"=some (some (.builtin "object.__class__")))
   (hn:y6o K (.builtin "object.__class__") "__get__"=some (some (.builtin "getset_descriptor.__get__"))) (htk:PySem.W.takesIn K (.builtin "object.__class__")=some true)
   (hm:PySem.W.mroIn K C (.type "object")=some true):TyOf K H (.ref a) (.ref C)
theorem zgz {x:V}{u t:Value}(I:Inv X aa σ H s)(rx:RelV x u)(ty:TyOf X.K H x t)(e:y7f X.K t c=some b)(h:∀tk,Q (.bool b) { s with toks:=tk }) :
  wpAny (model X.prog X.w) A (call (.builtin "isinstance") [u,c]) Q E s:=by
 cases ty with
 | non=>cases (show u=Value.none from rx);exact y2h PySem.W.kitx_none I.kIn True.intro e (λz=>nomatch z) h
 | bl y=>cases (show u=Value.bool y from rx);exact y2h PySem.W.kitx_bool I.kIn True.intro e (λz=>nomatch z) h
 | int i=>obtain⟨t,q⟩:=(show ∃t,u=Value.int i t from rx);cases q;exact y2h PySem.W.kitx_int I.kIn True.intro e (λz=>nomatch z) h
 | str y=>obtain⟨t,q⟩:=(show ∃t,u=Value.str y t from rx);cases q;exact y2h PySem.W.kitx_str I.kIn True.intro e (λz=>nomatch z) h
 | flt y=>obtain⟨t,q⟩:=(show ∃t,u=Value.float y t from rx);cases q;exact y2h PySem.W.kitx_float I.kIn True.intro e (λz=>nomatch z) h
 | @lst a xs ea =>
  cases (show u=Value.ref a from rx)
  obtain⟨_,_,n,_,h1⟩:=(show ObjOk X.prog X.w H s.heap a (.lst xs) from I.hok a _ ea)
  exact y2h y6p I.kIn ⟨_,h1,rfl⟩ e (λz=>nomatch z) h
 | @frz a ob xs ea =>
  cases (show u=Value.ref a from rx)
  obtain⟨_,_,_,n,_,h1⟩:=(show ObjOk X.prog X.w H s.heap a (.frz ob (.lst xs)) from I.hok a _ ea)
  exact y2h y6p I.kIn ⟨_,h1,rfl⟩ e (λz=>nomatch z) h
 | @tup a xs ea =>
  cases (show u=Value.ref a from rx)
  obtain⟨_,_,_,p⟩:=(show ObjOk X.prog X.w H s.heap a (.tup xs) from I.hok a _ ea)
  obtain⟨o,h1,h2,_⟩:=p;exact y2h PySem.W.kitx_tuple I.kIn ⟨o,h1,h2⟩ e (λz=>nomatch z) h
 | @dK a kvs ea =>
  cases (show u=Value.ref a from rx)
  obtain⟨_,_,vs,_,p⟩:=(show ObjOk X.prog X.w H s.heap a (.dK kvs) from I.hok a _ ea)
  obtain⟨o,es,ep,h1,h2,_⟩:=p;exact y2h y6q I.kIn ⟨o,h1,h2.1⟩ e (λz=>nomatch z) h
 | @dT a kvs ea =>
  cases (show u=Value.ref a from rx)
  obtain⟨_,_,xs,_,o,es,ep,h1,h2,_⟩:=(show ObjOk X.prog X.w H s.heap a (.dT kvs) from I.hok a _ ea)
  exact y2h y6q I.kIn ⟨o,h1,h2.1⟩ e (λz=>nomatch z) h
 | @ins a C dx fs ea cl ha hn htk hm =>
  cases (show u=Value.ref a from rx)
  obtain⟨mA,O,_⟩:=zad I.hok ea;obtain⟨od,J,_⟩:=O.look;exact y2h (PySem.W.kitx_own (cl.get _) cl.hd ha hn htk hm) I.kIn J e (λz=>nomatch z) h
end
end L2
namespace L2
open PySem PySem.Spec PyProof.Rows
structure Room (k:Nat)(A:Around):Prop where
 hd:A.handled=none
 dp:A.depth+3*k+5<recursionLimit
 un:A.units+16*k+200<cLine
theorem Room.mono {j k:Nat}{A:Around}(r:Room k A)(h:j≤k):Room j A:=⟨r.hd,by have:=r.dp;omega,by have:=r.un;omega⟩
theorem Room.deeper {k:Nat}{A:Around}(r:Room (k+1) A)(env:Env):Room k (A.deeper env) :=
 ⟨r.hd,by have:=r.dp;show A.depth+1+3*k+5<_;omega,by have:=r.un;show A.units+3+16*k+200<_;omega⟩
theorem zfp {A:Around}{C:Addr}{us:List Value}{kw:List (Str×Value)}:(A.under (.builtin "type.__call__" ⟨.ref C::us,kw⟩)).depth=A.depth+1:=by
 first | rfl | simp[Around.under,Code.weight,Code.isCreation,Code.isGuard,Code.isCaller,Code.frames,Code.isFrame,guardIds]
theorem zfk {A:Around}{C:Addr}{us:List Value}{kw:List (Str×Value)}:(A.under (.builtin "type.__call__" ⟨.ref C::us,kw⟩)).units=A.units+1:=by
 first | rfl | simp[Around.under,Code.cUnits,Code.frames,Code.isFrame]
theorem Room.make {k:Nat}{A:Around}(r:Room (k+1) A)(C:Addr)(us:List Value)(kw:List (Str×Value)):Room k (A.under (.builtin "type.__call__" ⟨.ref C::us,kw⟩)) :=
 ⟨r.hd,by have:=r.dp;rw[zfp];omega,by have:=r.un;rw[zfk];omega⟩
theorem Room.depth {k:Nat}{A:Around}(r:Room k A):A.depth<recursionLimit:=by have:=r.dp;omega
def zj2:TA:=λ_ H Q=>Q [] H
def zaj (ta:TE)(tr:TA):TA:=fun σ H Q=>ta σ H λx H1=>tr σ H1 λxs H2=>Q (x::xs) H2
section
variable {X:Cx}{e:Expr}{es:List Expr}{te:TE}{t:TA}{pos:Pos}
theorem z03:PA X [] zj2:=λ_ _ _ _ H Q I h=>Calls.spliced_nil ⟨[],H,I,.nil,h⟩
theorem z00 (ha:PE X e te)(hr:PA X es t)(hs:starEach (e::es) X.env=(false,eval e X.env)::starEach es X.env:=by rfl):PA X (e::es) (zaj te t):=by
 intro pos aa s σ H Q I h;rw[hs];show wpAny _ _ (spliced ((false,eval e X.env)::backTo pos (starEach es X.env))) _ _ s;refine Calls.spliced_cons (thn (ha aa s σ H _ I h) λu s1 ⟨x,H1,I1,r1,q1⟩=>?_);exact thn (hr pos aa s1 σ H1 _ I1 q1) λus s2 ⟨xs,H2,I2,r2,q2⟩=>⟨x::xs,H2,I2,.cons r1 r2,q2⟩
def zqn (t:TA):TE:=fun σ H Q=>t σ H λxs H1=>xs.length≤sizeLine/\∀p,H1 p=none->Q (.ref p) (upd H1 p (.tup xs))
def zq3 (t:TA):TE:=fun σ H Q=>t σ H λxs H1=>xs.length≤sizeLine/\∀p,H1 p=none->Q (.ref p) (upd H1 p (.lst xs))
theorem z2s {x1}(h:PA X es t):PE X (.Tuple es x1 pos) (zqn t):=by
 intro aa s σ H Q I hq;refine wpAny_Tuple_spliced (thn (h pos aa s σ H _ I hq) λus s1 ⟨xs,H1,I1,r,z,q⟩=>⟨by rw[←r.length];exact z,?_⟩)
 have hf:H1 s1.heap.objs.size=none:=I1.hok.fresh (y09 _);refine⟨.ref s1.heap.objs.size,upd H1 s1.heap.objs.size (.tup xs),I1.laid (t':=s1.toks) (λb u e=>Heap.get?_push_of_some _ e) (y09 _) ?_,rfl,q _ hf⟩;exact⟨z,us,r,⟨_,Heap.get?_push_size _ rfl,rfl,_,rfl⟩⟩
theorem z1p (h:PA X es t):PE X (.List es pos) (zq3 t):=by
 intro aa s σ H Q I hq;refine wpAny_List_spliced (thn (h pos aa s σ H _ I hq) λus s1 ⟨xs,H1,I1,r,z,q⟩=>⟨by rw[←r.length];exact z,?_⟩)
 have hf:H1 s1.heap.objs.size=none:=I1.hok.fresh (y09 _);refine⟨.ref s1.heap.objs.size,upd H1 s1.heap.objs.size (.lst xs),I1.laid (t':=s1.toks) (λb u e=>Heap.get?_push_of_some _ e) (y09 _) ?_,rfl,q _ hf⟩;exact⟨z,us,0,r,Heap.get?_push_size _ rfl⟩
end
abbrev Sp:=List V->Hp->VK->XK->Prop
abbrev CXT:=List Env->Hp->Shared->XK->Value->Shared->Prop
structure Env0 (P:Program)(w:World)(K:y03)(mg:Str->Option Value)(base:Heap)(A:Around)(outer:List Env)(s:Shared)(H:Hp):Prop where
 frames:A.frames=some outer
 mod:Mod K mg base
 bs:∀b o,base.get? b=some o->s.heap.get? b=some o/\H b=none
 bsz:base.objs.size≤s.heap.objs.size
 funs:s.heap.FunFrames base outer
 frf:∀b∈frs outer,H b=none
 hok:HOk P w H s.heap
 bare:AllBare s.gens
def CE (outer:List Env)(P:Program)(w:World)(H:Hp)(s:Shared)(Q:VK)(u:Value)(s':Shared):Prop :=
 ∃v H',s'.os=s.os/\AllBare s'.gens/\Un (frs outer) [] H H' s.heap s'.heap/\HOk P w H' s'.heap/\RelV v u/\Q v H'
def CR (CX:CXT)(outer:List Env)(P:Program)(w:World)(H:Hp)(s:Shared)(Q:VK)(E:XK)(r:Result)(s':Shared):Prop :=
 match r with
 | .ok (.ret u)=>CE outer P w H s Q u s'
 | .ok _=>False
 | .error e=>CX outer H s E e s'
structure FnOk (P:Program)(w:World)(K:y03)(mg:Str->Option Value)(base:Heap)(CX:CXT)(k:Nat)(f:Addr)(fd:FuncData)(ps:List Str)(sp:Sp):Prop where
 len:∀vs H Q E,sp vs H Q E->vs.length=ps.length
 run:∀(A:Around) (outer:List Env) (s:Shared) (H:Hp) (args:Args) (us:List Value) (vs:List V) (Q:VK) (E:XK),Room k A->Env0 P w K mg base A outer s H->BindsTo s fd args (ps.zip us)->Vals vs us->sp vs H Q E ->
  codeAny (model P w) A (.call (.ref f) args) (CR CX outer P w H s Q E) s
theorem Env0.make {P:Program}{w:World}{K:y03}{mg:Str->Option Value}{base:Heap}{A:Around}{outer:List Env}{s:Shared}{H:Hp}(e:Env0 P w K mg base A outer s H)(C:Addr)(us:List Value)(kw:List (Str×Value)) :
  Env0 P w K mg base (A.under (.builtin "type.__call__" ⟨.ref C::us,kw⟩)) outer s H:=⟨by first | exact e.frames | (simpa [Around.under,Code.envs,Code.isFrame,pushEnvs] using e.frames),e.mod,e.bs,e.bsz,e.funs,e.frf,e.hok,e.bare⟩
section
variable {X:Cx}{aa:List (Addr×Obj)}{σ:St}{H:Hp}{s s':Shared}
theorem Inv.env0 (I:Inv X aa σ H s):Env0 X.prog X.w X.K X.mg X.base X.A X.stack s H :=
 ⟨I.ok.frames,I.ok.mod,I.bs,y13 I.ok.bsz I.sz,I.stack,I.stkFree,I.hok,I.bare⟩
theorem Inv.after {Q:VK}{u:Value}(I:Inv X aa σ H s)(h:CE X.stack X.prog X.w H s Q u s'):EP X aa σ Q u s':=by
 obtain⟨v,H',os,bare,un,hok,r,q⟩:=h;obtain⟨hh,g,d,t,os'⟩:=s';obtain rfl:os'=s.os:=os;exact⟨v,H',I.call (h':=hh) (g':=g) (d':=d) (t':=t) (ch:=[]) un hok bare (λb z=>absurd z (by simp)),r,q⟩
end
def zog (C:Addr)(m:Str)(sp:Sp)(dvs:List V)(E:XK)(ta:TE)(t:TA):TE:=fun σ H Q=>ta σ H λx H1=>∃a dx fs,x = .ref a/\H1 a=some (.ins C dx fs)/\fs.lookup m=none /\
 t σ H1 λvs H2=>sp (x::(vs++dvs)) H2 Q E
def zqj (C:Addr)(sp:Sp)(dvs:List V)(E:XK)(t:TA):TE:=fun σ H Q=>t σ H λvs H1=>∀x dx,H1 x=none->H1 dx=none->dx≠x ->
 sp (.ref x::(vs++dvs)) (upd (upd H1 dx (.own x)) x (.ins C dx [])) (λv H2=>v = .non/\Q (.ref x) H2) E
def Binds (K:y03)(fd:FuncData)(ps:List Str)(ds:List Value):Prop :=
 ∀(s:Shared) (us:List Value),K.In s.heap->(us++ds).length=ps.length->BindsTo s fd ⟨us,[]⟩ (ps.zip (us++ds))
theorem Binds.all {K:y03}{fd:FuncData}{ps:List Str}(h:∀us:List Value,us.length=ps.length->bindArgs fd ⟨us,[]⟩=pure (ps.zip us)):Binds K fd ps []:=λs us _ hl=>by
 rw[y2i] at hl ⊢
 exact .of_eq (h us hl)
def z9d (CX:CXT)(X:Cx)(E:XK):Prop:=∀(aa:List (Addr×Obj)) (σ:St) (H:Hp) (s:Shared) (e:Value) (s':Shared),Inv X aa σ H s->CX X.stack H s E e s'->X.xe e s'
section
variable {X:Cx}{CX:CXT}{k:Nat}{f C:Addr}{fd:FuncData}{ps:List Str}{sp:Sp}{dvs:List V}{ds:List Value}{E:XK}{x m:Str}{p pos aK:Pos}{e o:Expr}{es:List Expr}{ta:TE}{t:TA}
theorem zin {aa:List (Addr×Obj)}{σ:St}{H:Hp}{s:Shared}{Q:VK}{us:List Value}{vs:List V}(F:FnOk X.prog X.w X.K X.mg X.base CX k f fd ps sp)(hr:Room k X.A)(hb:Binds X.K fd ps ds)(hd:Vals dvs ds)(hx:z9d CX X E)
  (I:Inv X aa σ H s) (r:Vals vs us) (h:sp (vs++dvs) H Q E):wpAny (model X.prog X.w) X.A (call (.ref f) us) (EP X aa σ Q) X.xe s:=by
 have r2:Vals (vs++dvs) (us++ds):=r.append hd;have hl:(us++ds).length=ps.length:=by rw[←r2.length];exact F.len _ _ _ _ h
 refine wpAny_call (codeAny_mono (F.run X.A X.stack s H ⟨us,[]⟩ (us++ds) (vs++dvs) Q E hr I.env0 (hb s us I.kIn hl) r2 h) λr s' hq=>?_);cases r with
 | error e=>exact hx aa σ H s e s' I hq
 | ok fl =>
  cases fl with
  | ret u=>exact I.after hq
  | next=>exact False.elim hq
  | brk=>exact False.elim hq
  | cont=>exact False.elim hq
theorem zng {pl:Sem Bool}(he:PE X o ta)(c:Cls X.K C)(hm:Meth X.K C m f)(F:FnOk X.prog X.w X.K X.mg X.base CX k f fd ps sp)(hr:Room k X.A)(hb:Binds X.K fd ps ds)(hd:Vals dvs ds)(hx:z9d CX X E)(ha:PA X (e::es) t)
  (hst:starEach (e::es) X.env=(false,eval e X.env)::starEach es X.env:=by rfl) (hpl:(backTo pos (starEach es X.env)).any (·.1)=false:=by rfl)
  (ht:eval (.Call (.Attribute o m aK) (e::es) [] pos) X.env=(do
   let ov ←eval o X.env
   standAt aK.atName
   let (f,first) ←holding [ov] (getMethod ov m pl)
   callWith pos f first (backTo pos (starEach (e::es) X.env)) (backToKw pos (keywordEach [] X.env))):=by rfl) :
  PE X (.Call (.Attribute o m aK) (e::es) [] pos) (zog C m sp dvs E ta t):=by
 intro aa s σ H Q I h;refine y5u (pl:=pl) (thn (he aa s σ H _ I h) λu s1 ⟨x,H1,I1,rx,a,dx,fs,ex,ea,l,q⟩=>?_) ht;subst ex;obtain rfl:u=Value.ref a:=rx;refine z9e I1 ea c hm l ?_;refine y55 (first:=[.ref a]) (h₀:=X.base) I.ok.mod.kin hm.kp (thn (ha pos aa s1 σ H1 _ I1 q) λus s2 ⟨vs,H2,I2,r,q2⟩=>⟨I2.kIn,?_⟩) hst hpl
 exact zin (us:=.ref a::us) (vs:=.ref a::vs) F hr hb hd hx I2 (.cons rfl r) q2
theorem zjs {pl:Sem Bool}(he:PE X o ta)(c:Cls X.K C)(hm:Meth X.K C m f)(F:FnOk X.prog X.w X.K X.mg X.base CX k f fd ps sp)(hr:Room k X.A)(hb:Binds X.K fd ps ds)(hd:Vals dvs ds)(hx:z9d CX X E)
  (ht:eval (.Call (.Attribute o m aK) [] [] pos) X.env=(do
   let ov ←eval o X.env
   standAt aK.atName
   let (f,first) ←holding [ov] (getMethod ov m pl)
   callWith pos f first (backTo pos (starEach [] X.env)) (backToKw pos (keywordEach [] X.env))):=by rfl) :
  PE X (.Call (.Attribute o m aK) [] [] pos) (zog C m sp dvs E ta zj2):=by
 intro aa s σ H Q I h;refine y5u (pl:=pl) (thn (he aa s σ H _ I h) λu s1 ⟨x,H1,I1,rx,a,dx,fs,ex,ea,l,q⟩=>?_) ht;subst ex;obtain rfl:u=Value.ref a:=rx;refine z9e I1 ea c hm l ?_;exact PySem.W.callWith_K0 (first:=[.ref a]) I1.kIn hm.kp (zin (us:=[.ref a]) (vs:=[.ref a]) F hr hb hd hx I1 (.cons rfl .nil) q)
structure Mk (K:y03)(C f:Addr):Prop where
 makes:y4t K C=true
 init:y0y K (.ref C) "__init__"=some (some (.ref f))
 fn:y22 K (.ref f)=true
 kp:y0g K (.ref C)=true
theorem zkp {aa:List (Addr×Obj)}{σ:St}{H:Hp}{s:Shared}{Q:VK}{us:List Value}{vs:List V}(M:Mk X.K C f)(F:FnOk X.prog X.w X.K X.mg X.base CX k f fd ps sp)(hr:Room (k+1) X.A)(hb:Binds X.K fd ps ds)(hd:Vals dvs ds)
  (hx:z9d CX X E) (I:Inv X aa σ H s) (r:Vals vs us)
  (h:∀x dx,H x=none->H dx=none->dx≠x->sp (.ref x::(vs++dvs)) (upd (upd H dx (.own x)) x (.ins C dx [])) (λv H2=>v = .non/\Q (.ref x) H2) E) :
  wpAny (model X.prog X.w) X.A (call (.ref C) us) (EP X aa σ Q) X.xe s:=by
 have hq:=h (s.heap.objs.size+1) s.heap.objs.size (I.hok.fresh (y5m _)) (I.hok.fresh (y09 _)) (y0t (y38 _));have I2:=Inv.made (C:=C) I
 have r2:Vals (V.ref (s.heap.objs.size+1)::(vs++dvs)) (Value.ref (s.heap.objs.size+1)::(us++ds)):=.cons rfl (r.append hd);have hl:(Value.ref (s.heap.objs.size+1)::us++ds).length=ps.length:=by
  have e:=r2.length;rw[F.len _ _ _ _ hq] at e;exact e.symm
 refine wpAny_call (zjj (f:=f) I.kIn M.makes M.init (beq_iff_eq.mp M.fn) (codeAny_mono (F.run _ X.stack _ _ ⟨Value.ref (s.heap.objs.size+1)::us,[]⟩ (Value.ref (s.heap.objs.size+1)::(us++ds)) _ _ E (hr.make C us [])
  (I2.env0.make C us []) (hb _ (Value.ref (s.heap.objs.size+1)::us) I2.kIn hl) r2 hq) λr s' hq'=>?_))
 cases r with
 | error e=>exact hx aa σ _ _ e s' I2 hq'
 | ok fl =>
  cases fl with
  | ret u =>
   obtain⟨v,H',I3,rv,ev,q3⟩:=I2.after hq';subst ev;exact⟨rv,⟨V.ref (s.heap.objs.size+1),H',I3,rfl,q3⟩⟩
  | next=>exact False.elim hq'
  | brk=>exact False.elim hq'
  | cont=>exact False.elim hq'
theorem zn7 (M:Mk X.K C f)(F:FnOk X.prog X.w X.K X.mg X.base CX k f fd ps sp)(hr:Room (k+1) X.A)(hg:Gl X x)(hm:X.mg x=some (.ref C))(hb:Binds X.K fd ps ds)(hd:Vals dvs ds)(hx:z9d CX X E)
  (ha:PA X (e::es) t) (hdb:(x==("__debug__":Str))=false:=by decide) (he:starEach (e::es) X.env=(false,eval e X.env)::starEach es X.env:=by rfl) (hpl:(backTo pos (starEach es X.env)).any (·.1)=false:=by rfl) :
  PE X (.Call (.Name x p) (e::es) [] pos) (zqj C sp dvs E t):=by
 intro aa s σ H Q I h;refine wpAny_Call_Name_kw (zg0 I hg hm ?_ hdb);refine y55 (h₀:=X.base) I.ok.mod.kin M.kp (thn (ha pos aa s σ H _ I h) λus s1 ⟨vs,H1,I1,r,q⟩=>⟨I1.kIn,?_⟩) he hpl;exact zkp M F hr hb hd hx I1 r q
end
def PK (X:Cx)(kws:List Keyword)(t:TA):Prop :=
 ∀(pos:Pos) (aa:List (Addr×Obj)) (s:Shared) (σ:St) (H:Hp) (Q:List V->Hp->Prop),Inv X aa σ H s->t σ H Q->wpAny (model X.prog X.w) X.A (evalAll ((backToKw pos (keywordEach kws X.env)).map (·.2))) (AP X aa σ Q) X.xe s
section
variable {X:Cx}{CX:CXT}{k:Nat}{f C:Addr}{fd:FuncData}{ps ks:List Str}{sp:Sp}{E:XK}{x m:Str}{p pos aK kpos:Pos}{e o:Expr}{es:List Expr}{kws:List Keyword}{te ta:TE}{t tk:TA}{nm:Option Str}
theorem zo1:PK X [] zj2:=λ_ _ _ _ H Q I h=>wpAny_evalAll_nil ⟨[],H,I,.nil,h⟩
theorem zmb (ha:PE X e te)(hr:PK X kws t):PK X (⟨nm,e,kpos⟩::kws) (zaj te t):=by
 intro pos aa s σ H Q I h;show wpAny _ _ (evalAll ((do let v ←eval e X.env;standAt pos;pure v)::(backToKw pos (keywordEach kws X.env)).map (·.2))) _ _ s
 refine wpAny_evalAll_cons (wpAny_bind (thn (ha aa s σ H _ I h) λu s1 ⟨x,H1,I1,r1,q1⟩=>wpAny_bind (wpAny_standAt (wpAny_pure ?_))));exact thn (hr pos aa s1 σ H1 _ I1 q1) λus s2 ⟨xs,H2,I2,r2,q2⟩=>⟨x::xs,H2,I2,.cons r1 r2,q2⟩
structure KBinds (K:y03)(fd:FuncData)(ps ks:List Str)(g:List Value->List Value->List Value)(gV:List V->List V->List V):Prop where
 to:∀(s:Shared) (us ws:List Value),K.In s.heap->(g us ws).length=ps.length->BindsTo s fd ⟨us,ks.zip ws⟩ (ps.zip (g us ws))
 rel:∀{vs:List V} {us:List Value} {zs:List V} {ws:List Value},Vals vs us->Vals zs ws->Vals (gV vs zs) (g us ws)
variable {g:List Value->List Value->List Value}{gV:List V->List V->List V}
end
structure FnScope (N P:List Str)(sc:Scope):Prop where
 kind:sc.kind = .function
 co:sc.isCoroutine=false
 gen:sc.isGenerator=false
 nd:N.Nodup
 pre:N.take P.length=P
 par:∀x∈P,sc.names.lookup x=some .local∨sc.names.lookup x=some .cell
 nofree:∀y∈sc.names,y.2 ≠ .free
theorem zar {kindOf:Str->Option NameKind}{x:Str}:∀{binds:List (Str×Value)} {m:Str->Option Value},(∀v,(x,v) ∉ binds)->bindL kindOf binds m x=m x
 | [],_,_=>rfl
 | (n,v)::r,m,h=>by
  unfold bindL;rw[zar λw hw=>h w (y0b _ hw)]
  split
  ·have:x≠n:=by rintro rfl;exact h v y0h
   simp[this]
  ·rfl
theorem zax {kindOf:Str->Option NameKind}{x:Str}:∀{binds:List (Str×Value)} {m:Str->Option Value},(∀v,(x,v) ∉ binds)->bindC kindOf binds m x=m x
 | [],_,_=>rfl
 | (n,v)::r,m,h=>by
  unfold bindC;rw[zax λw hw=>h w (y0b _ hw)]
  split
  ·rfl
  ·have:x≠n:=by rintro rfl;exact h v y0h
   simp[this]
theorem zam {kindOf:Str->Option NameKind}{x:Str}{v:Value}:∀{P:List Str} {vs:List Value} {i:Nat} {m:Str->Option Value},P.Nodup->P[i]?=some x->vs[i]?=some v->kindOf x=some .local ->
  bindL kindOf (P.zip vs) m x=some v
 | [],_,_,_,_,h,_,_=>by simp at h
 | _::_,[],_,_,_,_,h,_=>by simp at h
 | p::P,w::vs,0,m,nd,h1,h2,hk=>by
  simp at h1 h2;subst h1;subst h2;show bindL kindOf ((p,w)::P.zip vs) m p=_;unfold bindL;rw[zar λv hv=>(y3d.mp nd).1 (y16 hv).1,if_pos hk];simp
 | p::P,w::vs,i+1,m,nd,h1,h2,hk=>by
  show bindL kindOf ((p,w)::P.zip vs) m x=_;unfold bindL;exact zam (i:=i) (y3d.mp nd).2 (by simpa using h1) (by simpa using h2) hk
theorem zc1 {kindOf:Str->Option NameKind}{x:Str}{v:Value}:∀{P:List Str} {vs:List Value} {i:Nat} {m:Str->Option Value},P.Nodup->P[i]?=some x->vs[i]?=some v->kindOf x≠some .local ->
  bindC kindOf (P.zip vs) m x=some v
 | [],_,_,_,_,h,_,_=>by simp at h
 | _::_,[],_,_,_,_,h,_=>by simp at h
 | p::P,w::vs,0,m,nd,h1,h2,hk=>by
  simp at h1 h2;subst h1;subst h2;show bindC kindOf ((p,w)::P.zip vs) m p=_;unfold bindC;rw[zax λv hv=>(y3d.mp nd).1 (y16 hv).1,if_neg hk];simp
 | p::P,w::vs,i+1,m,nd,h1,h2,hk=>by
  show bindC kindOf ((p,w)::P.zip vs) m x=_;unfold bindC;exact zc1 (i:=i) (y3d.mp nd).2 (by simpa using h1) (by simpa using h2) hk
def start (N:List Str)(vs:List V):St:=vs.map some++y08 (N.length - vs.length) none
def zj0 (CX:CXT)(P:Program)(w:World)(K:y03)(mg:Str->Option Value)(base:Heap)(N:List Str)(aJ:Str)(scope:Scope)(f:Addr)(cd:Value)(A:Around)(outer:List Env)(s:Shared)(H:Hp)(E:XK):Cx where
 prog:=P
 w:=w
 K:=K
 mg:=mg
 base:=base
 A:=A.deeper (envOfC aJ scope s.heap.objs.size f cd)
 N:=N
 s₀:=s
 H₀:=H
 env:=envOfC aJ scope s.heap.objs.size f cd
 outer:=outer
 stack:=envOfC aJ scope s.heap.objs.size f cd::outer
 ex:=[]
 calm:=true
 fn:=λ_=>true
 pn:=[]
 xe:=λe s'=>wpAny (model P w) (A.deeper (envOfC aJ scope s.heap.objs.size f cd)) (leaving (envOfC aJ scope s.heap.objs.size f cd) e) (λ_ s''=>CX outer H s E e s'') (λe' s''=>CX outer H s E e' s'') s'
theorem zeq {sc:Scope}{n:Nat}{x:Str}(h:sc.names.lookup x=some .cell):∃c,(cellsFrom n sc.names []).lookup x=some c:=by
 have q:=y5r sc.names n [] (.inl h);exact Option.isSome_iff_exists.mp q
theorem ziq {CX:CXT}{P:Program}{w:World}{K:y03}{mg:Str->Option Value}{base:Heap}{N ps:List Str}{aJ:Str}{scope:Scope}{f:Addr}{cd:Value}{A:Around}{outer:List Env}{s s1:Shared}{H:Hp}{E:XK}{us:List Value}{vs:List V}
  (S:FnScope N ps scope) (hd:A.handled=none) (e0:Env0 P w K mg base A outer s H) (hl:vs.length=ps.length) (r:Vals vs us)
  (x:InCallC s s.heap.objs.size (bindL (envOfC aJ scope s.heap.objs.size f cd).kindOf (ps.zip us) λ_=>none) (cellsFrom (s.heap.objs.size+1) scope.names []) (bindC (envOfC aJ scope s.heap.objs.size f cd).kindOf (ps.zip us) λ_=>none) s1) :
  Inv (zj0 CX P w K mg base N aJ scope f cd A outer s H E) [] (start N vs) H s1:=by
 have hpl:ps.length≤N.length:=by have:=congrArg y68 S.pre;rw[y0x] at this;omega
 obtain⟨h1,tk,rfl,hk⟩:=x.done;have noA:∀b:Addr,b ∉ (zj0 CX P w K mg base N aJ scope f cd A outer s H E).ex:=λb z=>absurd (show b∈([]:List Addr) from z) (by simp)
 refine⟨⟨e0.mod,S.kind,rfl,rfl,y09 _,λy z c h1 h2=>?_,λy hy=>?_,λy c _ h=>?_,λ_=>hd,Around.frames_deeper e0.frames,.inr ⟨rfl,rfl⟩,λb z=>absurd z (noA b),e0.bs,e0.bsz,λb _ _=>noA b,λb z=>absurd z (noA b),e0.funs,e0.frf⟩,
  rfl,e0.bare,Un.kept hk,⟨_,x.toInCall.ns,λi y v h1 h2 h3=>?_⟩,λy c h=>⟨_,x.cell y c h⟩,e0.hok.fresh (y09 _),λy c h=>?_,λp hp=>absurd (show p∈([]:List (Addr×Obj)) from hp) (by simp),e0.hok.kept hk,?_⟩
 ·exact name_of_addr x.apart (y23 h1) (y23 h2)
 ·have hy:scope.names.lookup y=some .cell∨scope.names.lookup y=some .free:=hy;rcases hy with hy | hy
  ·exact zeq hy
  ·exact absurd rfl (S.nofree _ (y23 hy))
 ·exact y4f (x.above y c (y23 h))
 ·have hi:i<vs.length:=by
   unfold start at h2
   by_cases hi:i<vs.length
   ·exact hi
   ·rw[y17 (by simpa using hi)] at h2
    rw[y1a] at h2
    split at h2<;>cases h2
  have ha:vs[i]?=some v:=by
   unfold start at h2;rw[y0u (by simpa using hi),y05] at h2
   cases e:vs[i]? with
   | none=>rw[e] at h2;cases h2
   | some a=>rw[e] at h2;cases h2;rfl
  obtain⟨u,hu,rv⟩:=r.get ha;have hp:ps[i]?=some y:=by
   rw[←S.pre,y5e (by omega)];exact h1
  have ndP:ps.Nodup:=by rw[←S.pre];exact S.nd.sublist (List.take_sublist _ _)
  refine⟨u,rv,?_⟩;rcases S.par y (y02 hp) with k | k
  ·exact .inl ⟨k,zam ndP hp hu k⟩
  ·obtain⟨c,e⟩:=zeq (n:=s.heap.objs.size+1) k;refine .inr ⟨.inl k,c,e,?_⟩;have q:=x.cell y c e;rw[zc1 ndP hp hu (by show scope.names.lookup y≠_;rw[k];decide)] at q
   exact q
 ·exact e0.hok.fresh (y4f (x.above y c (y23 h)))
 ·unfold start;show _=N.length;rw[y0c,y04,y1m];omega
theorem zqo {CX:CXT}{P:Program}{w:World}{K:y03}{mg:Str->Option Value}{base:Heap}{k:Nat}{f:Addr}{name aJ:Str}{params:Arguments}{body:List Stmt}{scope:Scope}{dV kV doc pm cdv ct oc:Value}{an od:Option Addr}
  {osl:Array (Option Value)} {N ps:List Str} {sp:Sp} (lk:K.lookup f=some ⟨oc,od,.func (y0j name aJ params body scope dV kV doc pm an cdv ct),osl⟩) (hcd:y0i K cdv aJ=true) (S:FnScope N ps scope)
  (len:∀vs H Q E,sp vs H Q E->vs.length=ps.length)
  (hbody:∀(A:Around) (outer:List Env) (s:Shared) (H:Hp) (vs:List V) (Q:VK) (E:XK),Room k (A.deeper (envOfC aJ scope s.heap.objs.size f cdv))->sp vs H Q E ->
   ∃t,PSs (zj0 CX P w K mg base N aJ scope f cdv A outer s H E) body t/\t { nx:=λ_ H'=>Q .non H',rt:=Q } (start N vs) H) :
  FnOk P w K mg base CX (k+1) f (y0j name aJ params body scope dV kV doc pm an cdv ct) ps sp:=by
 refine⟨len,λA outer s H args us vs Q E hr e0 hb r hsp=>?_⟩;have hl:=len _ _ _ _ hsp;have KX:K.In s.heap:=e0.mod.kin.keeps λb o e=>(e0.bs b o e).1
 have lim:s.heap.NoLimit:=e0.mod.nolimit.keeps λb o e=>(e0.bs b o e).1;have aW:∀y∈ps.zip us,scope.names.lookup y.1=some .local∨(scope.names.lookup y.1=some .cell/\((cellsFrom (s.heap.objs.size+1) scope.names []).lookup y.1).isSome=true):=λ⟨n,v⟩ hy=>by
  rcases S.par n (y16 hy).1 with q | q
  ·exact .inl q
  ·exact .inr ⟨q,y5r _ _ _ (.inl q)⟩
 refine codeAny_call_function hr.depth (KX _ _ lk) rfl S.co S.gen rfl (PySem.W.codeRec_of KX hcd) (hb _ _ _ _ ?_);refine wpAny_newFunctionEnv_cells S.kind aW λenv he s1 x=>?_;subst he;refine⟨lim.keeps x.toInCall.keep,codeAny_func ?_⟩;obtain⟨t,ht,hq⟩:=hbody A outer s H vs Q E (hr.deeper _) hsp;have I:Inv (zj0 CX P w K mg base N aJ scope f cdv A outer s H E) [] (start N vs) H s1:=ziq S hr.hd e0 hl r x;refine wpAny_mono (ht [] s1 (start N vs) H _ I hq) (λfl s' hs=>?_) λe s' hs=>hs;have fin:∀{σ':St} {H':Hp} {v:V} {u:Value},Inv (zj0 CX P w K mg base N aJ scope f cdv A outer s H E) [] σ' H' s'->RelV v u->Q v H'->CE outer P w H s Q u s' :=
  λ{σ' H' v u} J rv q=>⟨v,H',J.os,J.bare,J.base,J.hok,rv,q⟩
 cases fl with
 | ret u =>
  obtain⟨v,σ',H',J,rv,q⟩:=hs;exact fin J rv q
 | next =>
  obtain⟨σ',H',J,q⟩:=hs;exact fin (v:=V.non) (u:=Value.none) J rfl q
 | brk =>
  obtain⟨_,_,_,q⟩:=hs;exact False.elim q
 | cont =>
  obtain⟨_,_,_,q⟩:=hs;exact False.elim q
end L2
namespace L2
open PySem PySem.Spec PyProof.Rows
section
variable {X:Cx}{x:Str}{p pos:Pos}{e:Expr}{es:List Expr}{t:TA}{id T:String}{r:List V->Hp->VK->Prop}
def tCB (r:List V->Hp->VK->Prop)(t:TA):TE:=fun σ H Q=>t σ H λvs H1=>r vs H1 Q
theorem zjx (hc:z4l X (.builtin id) r)(hg:Gl X x)(hm:X.mg x=none)(hv:bootBuiltins x=some (.builtin id))(ha:PA X (e::es) t)(hn:x ≠ "__name__":=by decide)(hdb:(x==("__debug__":Str))=false:=by decide)
  (he:starEach (e::es) X.env=(false,eval e X.env)::starEach es X.env:=by rfl) (hpl:(backTo pos (starEach es X.env)).any (·.1)=false:=by rfl):PE X (.Call (.Name x p) (e::es) [] pos) (tCB r t):=by
 intro aa s σ H Q I h;refine wpAny_Call_Name_kw (z6f I hg hm hv ?_ hn hdb);exact PyProof.Rows.callWith_builtin1 (thn (ha pos aa s σ H _ I h) λus s1 ⟨vs,H1,I1,r1,q1⟩=>hc aa s1 σ H1 vs us Q I1 r1 q1) he hpl
theorem zhe (hc:z4l X (.type T) r)(hg:Gl X x)(hm:X.mg x=none)(hv:bootBuiltins x=some (.type T))(ha:PA X (e::es) t)(hn:x ≠ "__name__":=by decide)(hdb:(x==("__debug__":Str))=false:=by decide)
  (he:starEach (e::es) X.env=(false,eval e X.env)::starEach es X.env:=by rfl) (hpl:(backTo pos (starEach es X.env)).any (·.1)=false:=by rfl):PE X (.Call (.Name x p) (e::es) [] pos) (tCB r t):=by
 intro aa s σ H Q I h;refine wpAny_Call_Name_kw (z6f I hg hm hv ?_ hn hdb);exact y24 (thn (ha pos aa s σ H _ I h) λus s1 ⟨vs,H1,I1,r1,q1⟩=>hc aa s1 σ H1 vs us Q I1 r1 q1) he hpl
end
end L2
namespace HT
open PySem PyProof.Rows
section
open PySem.SeqAt
open PySem.AutoSeq1 (wpAny_loadPart')
open PySem.MeetsSeq PySem.MeetsSeq2 PySem.MeetsSeq3
end
section
variable {prog:Program}{w:World}{A:Around}{E:Value->Shared->Prop}{s:Shared}
def sIx (n d:Nat):Option Int->Nat
 | none=>d
 | some v=>if v<0 then (v+(n:Int)).toNat else min v.toNat n
theorem sIx_none (n d:Nat):sIx n d none=d:=rfl
theorem sIx_nat (n d k:Nat):sIx n d (some (k:Int))=min k n:=by
 show(if (k:Int)<0 then ((k:Int)+(n:Int)).toNat else min (k:Int).toNat n)=min k n
 rw[if_neg (by omega),y4b]
end
end HT
namespace L2
open PySem PySem.Spec PyProof.Rows
abbrev TO:=St->Hp->(Option Int->Hp->Prop)->Prop
def PO (X:Cx)(e:Option Expr)(t:TO):Prop :=
 ∀(aa:List (Addr×Obj)) (s:Shared) (σ:St) (H:Hp) (Q:Option Int->Hp->Prop),Inv X aa σ H s->t σ H Q ->
  wpAny (model X.prog X.w) X.A (evalPart e X.env) (λu s'=>∃o H',Inv X aa σ H' s'/\IsPart u o/\Q o H') X.xe s
def zct:TO:=λ_ H Q=>Q none H
def zr4 (t:TE):TO:=fun σ H Q=>t σ H λx H1=>∃i,x = .int i/\Q (some i) H1
section
variable {X:Cx}{e:Expr}{te:TE}{lo hi:Option Expr}{tl th:TO}{pos p2:Pos}
theorem z6q:PO X none zct:=by
 intro aa s σ H Q I h;rw[evalPart_none];exact wpAny_pure ⟨none,H,I,.none,h⟩
theorem zly (h:PE X e te):PO X (some e) (zr4 te):=by
 intro aa s σ H Q I hw;rw[evalPart_some];refine thn (h aa s σ H _ I hw) λu s1 ⟨x,H1,I1,r1,q1⟩=>?_;obtain⟨i,rfl,q⟩:=q1;obtain⟨t,rfl⟩:=r1;exact⟨some i,H1,I1,.int i t,q⟩
def SlR (X:Cx)(r:V->Option Int->Option Int->Hp->VK->Prop):Prop :=
 ∀(aa:List (Addr×Obj)) (s:Shared) (σ:St) (H:Hp) (x:V) (v vl vu:Value) (lo hi:Option Int) (sl:Addr) (Q:VK),Inv X aa σ H s->RelV x v->s.heap.IsSliceOf sl vl vu .none->IsPart vl lo->IsPart vu hi->r x lo hi H Q ->
  ∃T id,typeLookup (.type T) "__getitem__"=pure (some (.builtin id))/\s.TypeIs v T/\wpAny (model X.prog X.w) X.A (getItem v (.ref sl)) (EP X aa σ Q) X.xe s
def tSl (r:V->Option Int->Option Int->Hp->VK->Prop)(te:TE)(tl th:TO):TE:=fun σ H Q=>te σ H λx H1=>tl σ H1 λl H2=>th σ H2 λu H3=>r x l u H3 Q
theorem zk0 {r:V->Option Int->Option Int->Hp->VK->Prop}(hr:SlR X r)(he:PE X e te)(hl:PO X lo tl)(hu:PO X hi th):PE X (.Subscript e (.Slice lo hi none p2) pos) (tSl r te tl th):=by
 intro aa s σ H Q I h;refine Subscript_ (thn (he aa s σ H _ I h) λv s1 ⟨x,H1,I1,r1,q1⟩=>?_);refine wpAny_Slice (thn (hl aa s1 σ H1 _ I1 q1) λvl s2 ⟨l,H2,I2,pl,q2⟩=>thn (hu aa s2 σ H2 _ I2 q2) λvu s3 ⟨u,H3,I3,pu,q3⟩=>?_);rw[evalPart_none];refine wpAny_pure ?_;have I4:Inv X aa σ H3 { s3 with heap:=s3.heap.push { cls:=.type "slice",data:=.fields #[vl,vu,.none] } }:=I3.kept (t':=s3.toks) λb ob q=>Heap.get?_push_of_some _ q
 obtain⟨T,id,hT,ht,hg⟩:=hr aa { s3 with heap:=s3.heap.push { cls:=.type "slice",data:=.fields #[vl,vu,.none] } } σ H3 x v vl vu l u s3.heap.objs.size Q I4 r1 (Heap.IsSliceOf.new ..) pl pu q3
 show wpAny (model X.prog X.w) X.A (subscriptTail e (.Slice lo hi none p2) v (.ref s3.heap.objs.size)) (EP X aa σ Q) X.xe { s3 with heap:=s3.heap.push { cls:=.type "slice",data:=.fields #[vl,vu,.none] } }
 exact tail_any (ops:=[.ref s3.heap.objs.size,v]) ht hT hg (by with_unfolding_all rfl)
def zft (xs:List V)(lo hi:Option Int):List V:=(xs.drop (HT.sIx xs.length 0 lo)).take (HT.sIx xs.length xs.length hi - HT.sIx xs.length 0 lo)
theorem zcj (xs:List V)(lo hi:Option Int):(zft xs lo hi).length≤xs.length:=by
 unfold zft;rw[y0x,y4k];omega
end
end L2
namespace L2
open PySem PySem.Spec PyProof.Rows
def ixN (n:Nat)(i:Int):Option Nat:=if 0≤i then (if i<n then some i.toNat else none) else if -(n:Int)≤i then some (i+n).toNat else none
def atI {α:Type}(xs:List α)(i:Int):Option α:=(ixN xs.length i).bind λj=>xs[j]?
theorem zit {n:Nat}{i:Int}{j:Nat}(h:ixN n i=some j):seqIndex? i n=some j/\j<n/\-(n:Int)≤i/\i<n:=by
 unfold ixN at h
 by_cases h0:0≤i
 ·rw[if_pos h0] at h
  by_cases h1:i<n
  ·rw[if_pos h1] at h;have e:i.toNat=j:=y11 h;exact⟨by rw[seqIndex_of h0 h1,e],by omega,by omega,h1⟩
  ·rw[if_neg h1] at h;cases h
 ·rw[if_neg h0] at h
  by_cases h1:-(n:Int)≤i
  ·rw[if_pos h1] at h;have e:(i+n).toNat=j:=y11 h;exact⟨by rw[seqIndex_neg (by omega) h1,e],by omega,h1,by omega⟩
  ·rw[if_neg h1] at h;cases h
theorem zi4 {α:Type}{xs:List α}{i:Int}{v:α}(h:atI xs i=some v):∃j,seqIndex? i xs.length=some j/\xs[j]?=some v/\j<xs.length/\-(xs.length:Int)≤i/\i<xs.length:=by
 unfold atI at h;cases e:ixN xs.length i with
 | none=>rw[e] at h;cases h
 | some j =>
  rw[e] at h;obtain⟨h1,h2,h3,h4⟩:=zit e;exact⟨j,h1,h,h2,h3,h4⟩
theorem z0x {α:Type}{xs:List α}{j:Nat}{v:α}(h:xs[j]?=some v):atI xs (j:Int)=some v:=by
 have hj:j<xs.length:=(y00.mp h).1;have e:ixN xs.length (j:Int)=some j:=by
  unfold ixN;rw[if_pos (by omega),if_pos (by omega)];simp
 unfold atI;rw[e];exact h
def zna (b:Expr):Prop:=∀o i,subscripted b false o i=operate [o,i] (getItem o i)
def IxR (X:Cx)(r:R2):Prop :=
 ∀(value slice:Expr) (aa:List (Addr×Obj)) (s:Shared) (σ:St) (H:Hp) (x y:V) (v u:Value) (Q:VK),Inv X aa σ H s->RelV x v->RelV y u->r x y H Q ->
  subscripted slice false v u=operate [v,u] (getItem v u)->wpAny (model X.prog X.w) X.A (subscriptTail value slice v u) (EP X aa σ Q) X.xe s
def MtR (X:Cx)(id:String)(r:V->List V->Hp->VK->Prop):Prop :=
 ∀(aa:List (Addr×Obj)) (s:Shared) (σ:St) (H:Hp) (x:V) (xs:List V) (v:Value) (us:List Value) (Q:VK),Inv X aa σ H s->RelV x v->Vals xs us->r x xs H Q ->
  wpAny (model X.prog X.w) X.A (call (.builtin id) (v::us)) (EP X aa σ Q) X.xe s
section
variable {X:Cx}{a b:Expr}{ta tb:TE}{pos:Pos}
theorem z0j {r:R2}(hr:IxR X r)(ha:PE X a ta)(hb:PE X b tb)(hs:zna b):PE X (.Subscript a b pos) (tOp r ta tb):=by
 intro aa s σ H Q I h;exact Subscript_ (zr2 ha hb I h λv u s2 x y H2 I2 rx ry q=>hr a b aa s2 σ H2 x y v u Q I2 rx ry q (hs _ _))
def zsd (K:y03):R2:=λx y H Q=>∃p xs i v,x = .ref p/\y = .int i/\SqL K H p xs/\atI xs i=some v/\Q v H
def zrw (K:y03):R2:=λx y H Q=>∃p xs i v,x = .ref p/\y = .int i/\SqT K H p xs/\atI xs i=some v/\Q v H
theorem zms:IxR X (zsd X.K):=by
 intro value slice aa s σ H x y v u Q I rx ry h hs;obtain⟨p,xs,i,z,rfl,rfl,hq,he,q⟩:=h;cases rx;obtain⟨t,rfl⟩:=ry;obtain⟨its,r,pl,hz⟩:=I.list hq;obtain⟨j,h1,h2,h3,h4,h5⟩:=zi4 he;obtain⟨w,ew,rw'⟩:=r.get h2;have hl:=r.length;have hn:=zbp
 have fin:EP X aa σ Q w s:=⟨z,H,I,rw',q⟩
 by_cases h0:0≤i
 ·have hj:i.toNat=j:=by
   rw[seqIndex_of h0 h5] at h1;exact y11 h1
  exact item_listR pl.isList h0 (by omega) (by rw[hj];simpa using ew) fin hs
 ·have hj:(i+(its.toArray.size:Int)).toNat=j:=by
   rw[seqIndex_neg (by omega) h4] at h1
   rw[y0o,←hl];exact y11 h1
  exact subscriptTail_builtinR (x:=w) pl.isList.typeIs slot_list_getitem.lookup
   (wpAny_getItem_list_neg (Q:=λr s'=>r=w/\EP X aa σ Q r s') pl.isList (by omega) (by rw[y0o]<;>omega) (by omega) (by rw[hj];simpa using ew) ⟨rfl,fin⟩) hs
theorem zoj:IxR X (zrw X.K):=by
 intro value slice aa s σ H x y v u Q I rx ry h hs;obtain⟨p,xs,i,z,rfl,rfl,hq,he,q⟩:=h;cases rx;obtain⟨t,rfl⟩:=ry;obtain⟨its,r,pl,hz⟩:=I.tuple hq;obtain⟨j,h1,h2,h3,h4,h5⟩:=zi4 he;obtain⟨w,ew,rw'⟩:=r.get h2;have hl:=r.length;have hn:=zbp
 have fin:EP X aa σ Q w s:=⟨z,H,I,rw',q⟩;exact subscriptTail_builtinR (x:=w) pl.typeIs slot_tuple_getitem.lookup
  (getItem_tuple (j:=j) (Q:=λr s'=>r=w/\EP X aa σ Q r s') pl (by omega) (by omega) (by rw[y0o,←hl];exact h1) (by simpa using ew) ⟨rfl,fin⟩) hs
theorem zfj (its:List Value)(n j:Nat)(u:Value):Obj.mapSeq (·.setIfInBounds j u) { cls:=.type "list",data:=.seq its.toArray n } = { cls:=.type "list",data:=.seq (its.set j u).toArray n }:=by
 simp[Obj.mapSeq]
theorem Inv.lst {aa:List (Addr×Obj)}{σ:St}{H:Hp}{s:Shared}{p:Addr}{xs:List V}(I:Inv X aa σ H s)(h:H p=some (.lst xs)) :
  ∃(its:List Value) (n:Nat),Vals xs its/\s.heap.get? p=some { cls:=.type "list",data:=.seq its.toArray n }/\xs.length≤sizeLine:=by
 obtain⟨z,its,n,r,e⟩:=I.hok p _ h;exact⟨its,n,r,e,z⟩
theorem Inv.lstUpd {aa:List (Addr×Obj)}{σ:St}{H:Hp}{s:Shared}{p:Addr}{xs ys:List V}{its its':List Value}{n n':Nat}{f:Obj->Obj}(I:Inv X aa σ H s)(h:H p=some (.lst xs))
  (ho:s.heap.get? p=some { cls:=.type "list",data:=.seq its.toArray n }) (hf:f { cls:=.type "list",data:=.seq its.toArray n } = { cls:=.type "list",data:=.seq its'.toArray n' }) (r:Vals ys its') (hz:ys.length≤sizeLine) (t:Nat) :
  Inv X aa σ (upd H p (.lst ys)) { s with heap:=s.heap.update p f,toks:=t }:=by
 have e:(s.heap.update p f).get? p=some { cls:=.type "list",data:=.seq its'.toArray n' }:=by
  rw[Heap.get?_update_self f ho (by rw[hf]<;>rfl),hf]
 refine I.write (x:=p) (e:=p) (by rw[h];trivial) (.inl rfl) (λb u hb q=>(Heap.get?_update_other _ _ (Ne.symm hb)).trans q) ⟨_,e⟩ ?_
 exact⟨hz,its',n',r,e⟩
def zr9:V->V->V->Hp->(Hp->Prop)->Prop:=λo i v H Q=>∃p xs k j,o = .ref p/\i = .int k/\H p=some (.lst xs)/\ixN xs.length k=some j/\Q (upd H p (.lst (xs.set j v)))
theorem zjt:zpt X zr9:=by
 intro aa s σ H o i v ov iv u Q I ro ri rv h;obtain⟨p,xs,k,j,rfl,rfl,hp,hj,q⟩:=h;cases ro;obtain⟨t,rfl⟩:=ri;obtain⟨its,n,r,ho,hz⟩:=I.lst hp;obtain⟨h1,h2,h3,h4⟩:=zit hj;have hl:=r.length;have hn:=zbp
 have I':Inv X aa σ (upd H p (.lst (xs.set j v))) { s with heap:=s.heap.update p (Obj.mapSeq (·.setIfInBounds j u)) } :=
  I.lstUpd hp ho (zfj its n j u) (r.set rv j) (by rw[y25];exact hz) s.toks
 by_cases h0:0≤k
 ·have hk:k.toNat=j:=by
   rw[seqIndex_of h0 h4] at h1;exact y11 h1
  exact PySem.W.ki_setAt ho h0 (by omega) (by rw[y0o,←hl];exact h4) (by rw[hk];exact⟨_,I',q⟩)
 ·have hk:(k+(its.toArray.size:Int)).toNat=j:=by
   rw[seqIndex_neg (by omega) h3] at h1
   rw[y0o,←hl];exact y11 h1
  exact PySem.W.ki_setBack ho (by omega) (by rw[y0o,←hl];exact h3) (by omega) (by rw[hk];exact⟨_,I',q⟩)
theorem zbs (lo hi:Option Int)(n:Nat):(sliceBounds lo hi none n).1=((HT.sIx n 0 lo:Nat):Int)/\(sliceBounds lo hi none n).2.1=((HT.sIx n n hi:Nat):Int)/\(sliceBounds lo hi none n).2.2=1:=by
 refine⟨?_,?_,rfl⟩
 ·cases lo with
  | none=>simp[sliceBounds,HT.sIx]
  | some i =>
   simp only[sliceBounds,HT.sIx,y73,show(1:Int)>0 by decide,if_true]
   by_cases h:i<0
   ·simp only[h,if_true]<;>omega
   ·simp only[h,if_false]<;>omega
 ·cases hi with
  | none=>simp[sliceBounds,HT.sIx]
  | some i =>
   simp only[sliceBounds,HT.sIx,y73,show(1:Int)>0 by decide,if_true]
   by_cases h:i<0
   ·simp only[h,if_true]<;>omega
   ·simp only[h,if_false]<;>omega
theorem z9z (its:List Value)(lo hi:Option Int):slicePick its.toArray lo hi none=((its.drop (HT.sIx its.length 0 lo)).take (HT.sIx its.length its.length hi - HT.sIx its.length 0 lo)).toArray:=by
 obtain⟨h1,h2,h3⟩:=zbs lo hi its.toArray.size;unfold slicePick;rw[h1,h2,h3];simp only[sliceRange_one,pick_run,y0o]<;>rfl
def zs2 (K:y03):V->Option Int->Option Int->Hp->VK->Prop:=λx lo hi H Q=>∃a xs,x = .ref a/\SqL K H a xs/\∀p,H p=none->Q (.ref p) (upd H p (.lst (zft xs lo hi)))
theorem zm2:SlR X (zs2 X.K):=by
 intro aa s σ H x v vl vu lo hi sl Q I rx hs pl pu h;obtain⟨a,xs,rfl,hx,q⟩:=h;cases rx;obtain⟨its,r,ht,hz⟩:=I.list hx;have hlen:=r.length;refine⟨"list",_,slot_list_getitem.lookup,ht.isList.typeIs,?_⟩;refine wpAny_getItem_list_slice ht.isList hs pl pu .none (by simp) ?_ (by rw[y0o]<;>omega)
 rw[z9z,←hlen];refine⟨.ref s.heap.objs.size,_,I.laid (t':=s.toks) (o:=.lst (zft xs lo hi)) (λb ob q=>Heap.get?_push_of_some _ q) (y09 _) ?_,rfl,q _ (I.hok.fresh (y09 _))⟩;exact⟨y13 (zcj xs lo hi) hz,_,0,(r.drop (HT.sIx xs.length 0 lo)).take (HT.sIx xs.length xs.length hi - HT.sIx xs.length 0 lo),Heap.get?_push_size _ rfl⟩
theorem zap:z4l X (.builtin "len") (λxs H Q=>∃p ys,xs = [.ref p]/\(SqL X.K H p ys∨SqT X.K H p ys)/\Q (.int ys.length) H):=by
 intro aa s σ H xs us Q I r h;obtain⟨p,ys,rfl,hq,q⟩:=h;obtain⟨u,rfl,rx⟩:=z6t r;cases rx;have hn:=zbp;rcases hq with hq | hq
 ·obtain⟨its,r',pl,hz⟩:=I.list hq;have hlen:=r'.length;exact Calls.call_len_list pl.isList (by simp only[y0o]<;>omega) ⟨.int ys.length,H,I.tok _,⟨s.toks+1,by rw[y0o,hlen]⟩,q⟩
 ·obtain⟨its,r',pl,hz⟩:=I.tuple hq;have hlen:=r'.length;exact len_tuple pl (by simp only[y0o]<;>omega) ⟨.int ys.length,H,I.tok _,⟨s.toks+1,by rw[y0o,hlen]⟩,q⟩
theorem zbq:z4l X (.type "list") (λxs H Q=>∃p ys,xs = [.ref p]/\(SqL X.K H p ys∨SqT X.K H p ys)/\∀l,H l=none->Q (.ref l) (upd H l (.lst ys))):=by
 intro aa s σ H xs us Q I r h;obtain⟨p,ys,rfl,hq,q⟩:=h;obtain⟨u,rfl,rx⟩:=z6t r;cases rx;have fin:∀(its:List Value),Vals ys its->ys.length≤sizeLine->∀(h':Heap) (c':Nat),(∀b o',s.heap.get? b=some o'->h'.get? b=some o') ->
   h'.get? s.heap.objs.size=some { cls:=.type "list",dict:=none,data:=.seq its.toArray c',slots:=#[] }->EP X aa σ Q (.ref s.heap.objs.size) { s with heap:=h' }:=λits r' hz h' c' kp e =>
  ⟨.ref s.heap.objs.size,_,I.laid (t':=s.toks) kp (y09 _) (show ObjOk X.prog X.w _ h' _ (.lst ys) from ⟨hz,its,c',r',e⟩),rfl,q _ (I.hok.fresh (y09 _))⟩
 rcases hq with hq | hq
 ·obtain⟨its,r',pl,hz⟩:=I.list hq;have hlen:=r'.length;obtain⟨o,ho,hc,n,hd⟩:=pl.isList;exact call_list_seq p (.inl rfl) ho hc hd (λh' c' kp e=>fin its r' hz h' c' kp e) (by simp only[y0o]<;>omega)
 ·obtain⟨its,r',pl,hz⟩:=I.tuple hq;have hlen:=r'.length;obtain⟨o,ho,hc,n,hd⟩:=pl;exact call_list_seq p (.inr rfl) ho hc hd (λh' c' kp e=>fin its r' hz h' c' kp e) (by simp only[y0o]<;>omega)
def tyV (K:y03)(T:String)(x:V)(H:Hp):Prop:=match x with
 | .str _=>T = "str"
 | .int _=>T = "int"
 | .ref p=>(T = "list"/\∃xs,SqL K H p xs)∨(T = "tuple"/\∃o,K.lookup p=some o/\o.cls = .type "tuple"/\o.dict=none) ∨
   (T = "dict"/\((∃kvs,H p=some (.dK kvs))∨∃kvs,H p=some (.dT kvs)))∨(T = "set"/\∃S n,H p=some (.set S n))
 | _=>False
theorem zl1 {aa:List (Addr×Obj)}{σ:St}{H:Hp}{s:Shared}{T:String}{x:V}{v:Value}(I:Inv X aa σ H s)(r:RelV x v)(ty:tyV X.K T x H) :
  s.TypeIs v T/\∀a,v = .ref a->∃ob,s.heap.get? a=some ob/\ob.dict=none:=by
 cases x with
 | str z =>
  obtain⟨t,rfl⟩:=r;cases (show T = "str" from ty)
  exact⟨typeIs_str s z t,λ_ e=>nomatch e⟩
 | int i =>
  obtain⟨t,rfl⟩:=r;cases (show T = "int" from ty)
  exact⟨typeIs_int s i t,λ_ e=>nomatch e⟩
 | ref p =>
  cases r;rcases ty with ⟨rfl,xs,hq⟩ | ⟨rfl,o,hk,hc,hd⟩ | ⟨rfl,hk⟩ | ⟨rfl,S,n,hk⟩
  ·obtain⟨its,_,pl,_⟩:=I.list hq;refine⟨pl.isList.typeIs,λa e=>?_⟩;cases e;obtain⟨o,n,e,c,hd,_⟩:=pl;exact⟨o,e,hd⟩
  ·refine⟨⟨o,I.kIn p o hk,hc⟩,λa e=>?_⟩;cases e;exact⟨o,I.kIn _ o hk,hd⟩
  ·have z:∃o,s.heap.get? p=some o/\o.ExactDict:=by
    rcases hk with ⟨kvs,hk⟩ | ⟨kvs,hk⟩
    ·obtain⟨_,_,_,_,o,_,_,e,ex,_⟩:=I.hok p _ hk;exact⟨o,e,ex⟩
    ·obtain⟨_,_,_,_,o,_,_,e,ex,_⟩:=I.hok p _ hk;exact⟨o,e,ex⟩
   obtain⟨o,e,ex⟩:=z;refine⟨⟨o,e,ex.1⟩,λa e2=>?_⟩;cases e2;exact⟨o,e,ex.2.1⟩
  ·obtain⟨o,_,_,_,e,ex,_⟩:=I.hok p _ hk;refine⟨⟨o,e,ex.1⟩,λa e2=>?_⟩;cases e2;exact⟨o,e,ex.2.1⟩
 | _=>exact False.elim ty
def zs3 (K:y03)(T:String)(r:V->List V->Hp->VK->Prop)(to:TE):TE:=fun σ H Q=>to σ H λx H1=>tyV K T x H1/\r x [] H1 Q
def tBM (K:y03)(T:String)(r:V->List V->Hp->VK->Prop)(to:TE)(t:TA):TE:=fun σ H Q=>to σ H λx H1=>tyV K T x H1/\t σ H1 λxs H2=>r x xs H2 Q
variable {o e:Expr}{es:List Expr}{to:TE}{t:TA}{name:Str}{aK aG:Pos}{T id:String}{r:V->List V->Hp->VK->Prop}
theorem zl7 (pa:PlainAttrs T)(slot:Slot T name id)(hty:typeOf (.builtin id)=pure (.type "method_descriptor"))(hm:MtR X id r)(ho:PE X o to)
  (bz:attributeBase o name X.env (eval o X.env)=eval o X.env:=by rfl) (br:(aK.endLine==aG.line)=true:=by rfl):PE X (.Call (.Attribute o name aK) [] [] aG) (zs3 X.K T r to):=by
 intro aa s σ H Q I h;refine wpAny_Call_method0_late bz br (thn (ho aa s σ H _ I h) λv s1 ⟨x,H1,I1,r1,ty,q1⟩=>?_);obtain⟨h1,h2⟩:=zl1 I1 r1 ty;exact⟨T,id,pa,slot,hty,h1,h2,Calls.callWith_builtin rfl (PySem.evalArgs_none (hm aa s1 σ H1 x [] v [] Q I1 r1 .nil q1))⟩
theorem zmr (pa:PlainAttrs T)(slot:Slot T name id)(hty:typeOf (.builtin id)=pure (.type "method_descriptor"))(hm:MtR X id r)(ho:PE X o to)(ha:PA X (e::es) t)
  (bz:attributeBase o name X.env (eval o X.env)=eval o X.env:=by rfl)
  (hfew:((backTo aG (starEach (e::es) X.env)).all (λx=>!x.1)&&(backToKw aG (keywordEach [] X.env)).all (λx=>x.1.isSome)
  &&decide ((e::es).length+([]:List Keyword).length+(if ([]:List Keyword).isEmpty then 0 else 1)<30))=true:=by rfl)
  (br:(aK.endLine==aG.line)=true:=by rfl) (hs:starEach (e::es) X.env=(false,eval e X.env)::starEach es X.env:=by rfl) (bO:(backTo aG (starEach es X.env)).any (·.1)=false:=by rfl) :
  PE X (.Call (.Attribute o name aK) (e::es) [] aG) (tBM X.K T r to t):=by
 intro aa s σ H Q I h;refine wpAny_Call_method_late bz hfew br rfl (thn (ho aa s σ H _ I h) λv s1 ⟨x,H1,I1,r1,ty,q1⟩=>?_);obtain⟨h1,h2⟩:=zl1 I1 r1 ty;refine⟨T,id,pa,slot,hty,h1,h2,?_⟩;have hA:=ha aG aa s1 σ H1 _ I1 q1;rw[hs] at hA ⊢
 refine Calls.callWith_builtin (by show(false||(backTo aG (starEach es X.env)).any (·.1))=false;rw[bO]<;>rfl) (Calls.evalArgs_plain ?_)
 exact thn hA λus s2 ⟨vs,H2,I2,r2,q2⟩=>hm aa s2 σ H2 x vs v us Q I2 r1 r2 q2
end
end L2
namespace L2
open PySem PySem.Spec PyProof.Rows
def MtM (X:Cx)(id:String)(r:V->List V->Hp->VK->Prop):Prop :=
 ∀(aa:List (Addr×Obj)) (s:Shared) (σ:St) (H:Hp) (x:V) (xs:List V) (v:Value) (us:List Value) (Q:VK),Inv X aa σ H s->RelV x v->Vals xs us->r x xs H Q ->
  wpAny (model X.prog X.w) X.A (call (.builtin id) (v::us)) (EP X aa σ Q) X.xe s
theorem Vals.one:∀{x:V} {us:List Value},Vals [x] us->∃u,us = [u]/\RelV x u
 | _,_,.cons r .nil=>⟨_,rfl,r⟩
theorem Vals.two:∀{x y:V} {us:List Value},Vals [x,y] us->∃u v,us = [u,v]/\RelV x u/\RelV y v
 | _,_,_,.cons r (.cons q .nil)=>⟨_,_,rfl,r,q⟩
theorem Vals.zero:∀{us:List Value},Vals [] us->us = []
 | _,.nil=>rfl
theorem Vals.dropLast {xs:List V}{us:List Value}(h:Vals xs us):Vals xs.dropLast us.dropLast:=by
 induction h with
 | nil=>exact .nil
 | cons r t ih =>
  cases t with
  | nil=>exact .nil
  | cons q t'=>exact .cons r ih
theorem Vals.rep {xs:List V}{us:List Value}(h:Vals xs us):∀k:Nat,Vals (y08 k xs).flatten (y08 k us).flatten
 | 0=>.nil
 | k+1=>by
  rw[y1t,y1t,y3p,y3p];exact Vals.append h (Vals.rep h k)
theorem zf1 {α:Type}(l:List α):l.eraseIdx (l.length - 1)=l.dropLast:=by
 induction l with
 | nil=>rfl
 | cons a r ih =>
  cases r with
  | nil=>rfl
  | cons b r =>
   have e:(a::b::r).length - 1=((b::r).length - 1)+1:=by
    have h1:(a::b::r).length=r.length+2:=rfl;have h2:(b::r).length=r.length+1:=rfl
    omega
   rw[e,List.eraseIdx_cons_succ,ih]
   all_goals rfl
theorem zbh (its:List Value):∀(k:Nat) (acc:List Value),
  y7g (λx1 x2=>x1++x2) acc.toArray (y08 k its.toArray)=(acc++(y08 k its).flatten).toArray
 | 0,acc=>by simp
 | k+1,acc=>by
  have e:acc.toArray++its.toArray=(acc++its).toArray:=by simp
  have e2:(acc++its)++(y08 k its).flatten=acc++(y08 (k+1) its).flatten:=by
   rw[y1t,y3p,y33]
  rw[←e2,←zbh its k (acc++its),←e,y1t,y41]
section
variable {X:Cx}{aa:List (Addr×Obj)}{σ:St}{H:Hp}{s:Shared}{l b:Addr}{xs ys zs:List V}
theorem Inv.lset {its its':List Value}{n:Nat}{f:Array Value->Array Value}{t':Nat}(I:Inv X aa σ H s)(hH:H l=some (.lst xs))
  (e:s.heap.get? l=some { cls:=.type "list",data:=.seq its.toArray n }) (hf:f its.toArray=its'.toArray) (hv:Vals ys its') (hz:ys.length≤sizeLine) :
  Inv X aa σ (upd H l (.lst ys)) { s with heap:=s.heap.update l (Obj.mapSeq f),toks:=t' }:=by
 have q:=PySem.IsL.update e f;rw[hf] at q;refine I.write (x:=l) (e:=l) (by rw[hH];exact trivial) (.inl rfl) (λb' u hb hu=>(Heap.get?_update_other s.heap (Obj.mapSeq f) (Ne.symm hb)).trans hu) ⟨_,q⟩ ?_
 exact⟨hz,its',_,hv,q⟩
theorem Inv.lnew {its:List Value}{t':Nat}(I:Inv X aa σ H s)(hv:Vals ys its)(hz:ys.length≤sizeLine) :
  Inv X aa σ (upd H s.heap.objs.size (.lst ys)) { s with heap:=s.heap.push { cls:=.type "list",data:=.seq its.toArray },toks:=t' } :=
 I.laid (λ_ _ q=>Heap.get?_push_of_some _ q) (y09 _) ⟨hz,its,0,hv,Heap.get?_push_size _ rfl⟩
theorem Inv.fresh (I:Inv X aa σ H s):H s.heap.objs.size=none:=I.hok.fresh (y09 _)
theorem Inv.lstM (I:Inv X aa σ H s)(hH:H l=some (.lst xs)):xs.length≤sizeLine/\∃(its:List Value) (n:Nat),Vals xs its/\xs.length=its.length/\s.heap.get? l=some { cls:=.type "list",data:=.seq its.toArray n }:=by
 obtain⟨z,its,n,r,e⟩:=I.hok l _ hH;exact⟨z,its,n,r,r.length,e⟩
theorem zdc {n:Nat}(h:n≤sizeLine):Builtin.List.listTooLong n=false:=by
 unfold Builtin.List.listTooLong;exact decide_eq_false (by omega)
end
section
variable {X:Cx}
def zm4:V->List V->Hp->VK->Prop:=λx vs H Q=>∃l xs y,x = .ref l/\vs = [y]/\H l=some (.lst xs)/\xs.length<sizeLine/\Q .non (upd H l (.lst (xs ++ [y])))
theorem zgp:MtM X "list.append" zm4:=by
 intro aa s σ H x vs v us Q I rx rv h;obtain⟨l,xs,y,rfl,rfl,hH,hz,q⟩:=h;cases rx;obtain⟨u,rfl,ru⟩:=rv.one;obtain⟨z,its,n,r,hl,e⟩:=I.lstM hH;refine call_meets F.slot_list_append ⟨_,e,rfl⟩ F.entry_list_append (F.args_list_append_2 _ _) (PySem.list_append l its.toArray n u (by rw[y0o];omega)) ⟨e,?_⟩
 refine⟨.non,_,I.lset (its':=its ++ [u]) hH e (by simp) (r.append (.cons ru .nil)) ?_,rfl,q⟩
 rw[y0c,y4g];omega
def zn1:V->List V->Hp->VK->Prop:=λx vs H Q=>∃l b xs zs,x = .ref l/\vs = [.ref b]/\H l=some (.lst xs)/\H b=some (.lst zs)/\xs.length+zs.length≤sizeLine/\Q .non (upd H l (.lst (xs++zs)))
theorem zhl:MtM X "list.extend" zn1:=by
 intro aa s σ H x vs v us Q I rx rv h;obtain⟨l,b,xs,zs,rfl,rfl,hH,hB,hz,q⟩:=h;cases rx;obtain⟨u,rfl,ru⟩:=rv.one;cases ru;obtain⟨z,its,n,r,hl,e⟩:=I.lstM hH;obtain⟨z2,its2,n2,r2,hl2,e2⟩:=I.lstM hB;have hsz:its.toArray.size+its2.toArray.size≤sizeLine:=by rw[y0o,y0o];omega
 have hlong:¬(!its.toArray.isEmpty&&Builtin.List.listTooLong (its.toArray.size+its2.toArray.size))=true:=by
  rw[zdc hsz,Bool.and_false];exact y15
 refine call_meets F.slot_list_extend ⟨_,e,rfl⟩ F.entry_list_extend (F.args_list_extend_2 _ _)
  (AutoSeq1.list_extend_list_list_0 l its.toArray n b its2.toArray n2 hlong (by rw[y0o];omega) (by omega)) ⟨e,e2,?_⟩
 refine⟨.non,_,I.lset (its':=its++its2) hH e (by simp) (r.append r2) ?_,rfl,q⟩
 rw[y0c];omega
def zsh:V->List V->Hp->VK->Prop:=λx vs H Q=>∃l xs y,x = .ref l/\vs = []/\H l=some (.lst xs)/\xs[xs.length - 1]?=some y/\Q y (upd H l (.lst xs.dropLast))
theorem zo6:MtM X "list.pop" zsh:=by
 intro aa s σ H x vs v us Q I rx rv h;obtain⟨l,xs,y,rfl,rfl,hH,hy,q⟩:=h;cases rx;have hus:=rv.zero;subst hus;obtain⟨z,its,n,r,hl,e⟩:=I.lstM hH;obtain⟨u,hu,ru⟩:=r.get hy;have hy':its.toArray[its.toArray.size - 1]?=some u:=by
  show its.toArray[its.length - 1]?=some u;rw[←y4h,←hl];exact hu
 refine call_meets F.slot_list_pop ⟨_,e,rfl⟩ F.entry_list_pop (F.args_list_pop_1 _) (MeetsSeq.list_pop_last l its.toArray n u hy' (by rw[y0o];omega)) ⟨e,?_⟩
 refine⟨y,_,I.lset (its':=its.dropLast) hH e ?_ r.dropLast ?_,ru,q⟩
 ·show its.toArray.eraseIdxIfInBounds (its.toArray.size - 1)=its.dropLast.toArray;rw[y0o,List.eraseIdxIfInBounds_toArray,zf1]
 ·rw[y65];omega
def zo8:V->List V->Hp->VK->Prop:=λx vs H Q=>∃l xs,x = .ref l/\vs = []/\H l=some (.lst xs)/\Q .non (upd H l (.lst []))
theorem zj5:MtM X "list.clear" zo8:=by
 intro aa s σ H x vs v us Q I rx rv h;obtain⟨l,xs,rfl,rfl,hH,q⟩:=h;cases rx;have hus:=rv.zero;subst hus;obtain⟨z,its,n,r,hl,e⟩:=I.lstM hH;refine call_meets F.slot_list_clear ⟨_,e,rfl⟩ F.entry_list_clear (F.args_list_clear_1 _) (AutoSeq1.list_clear_list_0 l its.toArray n (by rw[y0o];omega)) ⟨e,?_⟩
 exact⟨.non,_,I.lset (its':=[]) (ys:=[]) hH e rfl .nil (y2d _),rfl,q⟩
def zs6:R2:=λx y H Q=>∃l b xs zs,x = .ref l/\y = .ref b/\H l=some (.lst xs)/\H b=some (.lst zs)/\xs.length+zs.length≤sizeLine/\∀p,H p=none->Q (.ref p) (upd H p (.lst (xs++zs)))
theorem zpd:OpR X (binaryOp .Add) zs6:=by
 intro aa s σ H x y v u Q I rx ry h;obtain⟨l,b,xs,zs,rfl,rfl,hH,hB,hz,q⟩:=h;cases rx;cases ry;obtain⟨z,its,n,r,hl,e⟩:=I.lstM hH;obtain⟨z2,its2,n2,r2,hl2,e2⟩:=I.lstM hB;refine PySem.P.add_list e e2 ?_ (by rw[y0o,y0o];omega)
 have ea:its.toArray++its2.toArray=(its++its2).toArray:=by simp
 rw[ea];exact⟨.ref _,_,I.lnew (t':=s.toks) (r.append r2) (by rw[y0c];omega),rfl,q _ I.fresh⟩
def zsb:R2:=λx y H Q=>∃l k xs,x = .ref l/\y = .int k/\H l=some (.lst xs)/\-(2^63)≤k/\k<2^63/\xs.length*k.toNat≤sizeLine /\
 ∀p,H p=none->Q (.ref p) (upd H p (.lst (y08 k.toNat xs).flatten))
theorem zlw {α:Type}(xs:List α)(k:Nat):(y08 k xs).flatten.length=k*xs.length:=by
 induction k with
 | zero=>simp
 | succ k ih=>rw[y1t,y3p,y0c,ih,Nat.succ_mul,Nat.add_comm]
theorem zod:OpR X (binaryOp .Mult) zsb:=by
 intro aa s σ H x y v u Q I rx ry h;obtain⟨l,k,xs,rfl,rfl,hH,h1,h2,hz,q⟩:=h;cases rx;obtain⟨t,rfl⟩:=ry;obtain⟨z,its,n,r,hl,e⟩:=I.lstM hH;have hlen:its.toArray.size*k.toNat≤sizeLine:=by rw[y0o,←hl];exact hz
 have hcap:¬its.toArray.size*k.toNat>(2^63 - 1) / 8:=by
  have:(sizeLine:Nat)≤(2^63 - 1) / 8:=by decide
  omega
 have hfit:¬(!Builtin.List.listFitsIndex k)=true:=by
  rw[fitsIndex_both h1 h2];exact y15
 have hlong:¬Builtin.List.listTooLong (its.toArray.size*k.toNat)=true:=by
  rw[zdc hlen];exact y15
 have hnew:y7g (λx1 x2=>x1++x2) #[] (y08 (if its.toArray.isEmpty=true then 0 else k.toNat) its.toArray)=(y08 k.toNat its).flatten.toArray:=by
  have f0:∀m:Nat,y7g (λx1 x2=>x1++x2) #[] (y08 m its.toArray)=(y08 m its).flatten.toArray:=λm=>by
   have:=zbh its m [];rw[List.nil_append] at this;exact this
  rw[f0];cases its with
  | nil=>simp
  | cons a r'=>rw[if_neg (by simp)]
 refine wpAny_binaryOp_repeat_ref (T:="list") (U:="int") (by decide) ⟨_,e,rfl⟩ (λs'=>typeIs_int s' k t) noFill_list_mul F.fills_int_mul F.slot_int_rmul repeat_list F.slot_int_index.lookup
  (call_meets F.slot_int_rmul (typeIs_int s k t) F.entry_int_rmul (F.args_int_rmul_2 _ _) (int___rmul___int_list k t l its.toArray n)
   ⟨e,rfl,⟨_,e,rfl⟩,call_meets F.slot_list_mul ⟨_,e,rfl⟩ F.entry_list_mul (F.args_list_mul_2 _ _) (AutoListH.list___mul___list_int_3 l its.toArray n k t hfit hcap hlong) ⟨e,?_⟩⟩)
 rw[hnew];exact⟨.ref _,_,I.lnew (t':=s.toks) (r.rep k.toNat) (by rw[zlw,Nat.mul_comm];exact hz),rfl,q _ I.fresh⟩
end
section
variable {prog:Program}{w:World}{A:Around}{E:Value->Shared->Prop}{s:Shared}
end
section
variable {X:Cx}
end
end L2
namespace Att
open PySem PySem.W PySem.Calls PyProof.Rows
theorem z8y {P:Params}{h:Heap}:∀(ns:List Int) (vs:List Value),WellAll P h vs (ns.map WData.int)->IntsAre vs ns:=by
 intro ns
 induction ns with
 | nil =>
  intro vs w;rw[y3j] at w;cases w;exact .nil
 | cons n ns ih =>
  intro vs w;rw[y0n] at w;cases w with
  | cons a b =>
   cases a;exact .cons _ _ (ih _ b)
theorem zgw {l:OpenLaw}{n:Nat}(hn:l.most=some n){P:Params}{h:Heap}{args:List WData}{ap:List Value}
  (hpre:l.row.toRowW.claim.pre args=true) (hwl:WellAll P h ap args) :
  ∃a vs ns,ap = [Value.ref a]/\args = [WData.list (ns.map WData.int)]/\h.get? a=some { cls:=.type "list",data:=.seq vs.toArray }/\IntsAre vs ns/\ns.length≤n:=by
 have hsh:WShape.hasAll [] args [.list .int]=true:=(pre_splitW hpre).1;have hc:l.pre.holds [] { args:=args }=true:=(pre_splitW hpre).2
 obtain⟨d,r,rfl,h1,h2⟩:=hasAllW_cons hsh;obtain rfl:=hasAllW_nil h2;obtain⟨xs,rfl,h3⟩:=hasW_list h1;obtain⟨ns,rfl⟩:=items_int h3;have hlen:ns.length≤n:=by
  unfold OpenLaw.pre at hc;have h4:(WTm.not (.lt (.lit (.int (n:Int))) (.len (.arg 0)))).holds [] { args:=[.list (ns.map .int)] }=true:=by
   have h4:=(holds_andW hc).1;rw[hn] at h4;exact h4
  have h5:=condW_of h4 (w_not (w_lt w_lit (w_len_list (w_arg rfl))));rw[y04] at h5;refine Nat.le_of_not_lt λq=>?_;have q':(n:Int)<((ns.length:Nat):Int):=by omega
  first
   | (rw[decide_eq_true q'] at h5;exact absurd h5 (by decide))
   | (simp at h5;omega)
 cases hwl with
 | cons w1 w2 =>
  cases w2;cases w1 with
  | list ho hall=>exact⟨_,_,ns,rfl,rfl,ho,z8y ns _ hall,hlen⟩
theorem zhn (l:OpenLaw)(args:List WData):l.row.toRowW.claim.post args (.bool true) args=true :=
 postW_of (r:=l.row.toRowW) (X:=(true==true))
  (show WShape.has [] (.bool true) .bool=true by first | rfl | decide | simp[WShape.has,WShape.arms,WShape.armsAll])
  (show(WTm.eq .res (.lit (.bool true))).value [] { args:=args,res:=some (.bool true),after:=args }=some (.bool (true==true)) from w_eq_bool (w_res rfl) w_lit) rfl
theorem attach_call {l:OpenLaw}{n:Nat}{q:Program}{cj:List Str}{XP:(Str->Option Value)->Heap->Prop}{YP:World->Heap->Prop}{d:DefRec}
  (hn:l.most=some n) (hdf:d.params.defaults = [])
  (call:∀(w:World) (s₀ s₁:Shared) (mg mb:Str->Option Value) (fa:Addr) (o:Obj) (pm cd doc:Value) (a:Addr) (vs:List Value) (ns:List Int),
   Ground q cj [] XP w s₀ mg mb s₁.heap->YP w s₁.heap ->
   s₁.heap.get? fa=some o->o.data = .func (docDef d.name d.params d.body d.scope pm cd doc)->s₁.heap.CodeRec cd d.name->mg d.name=some (.ref fa) ->
   s₁.heap.get? a=some { cls:=.type "list",data:=.seq vs.toArray }->IntsAre vs ns->ns.length≤n->s₁.gens = #[] ->
   codeAny (model l.prog w) callerA (.call (.ref fa) ⟨[.ref a],[]⟩) (λr s'=>r = .ok (.ret (.bool true))/\OldK s₁.heap s'.heap/\s'.os=s₁.os/\AllBare s'.gens) s₁) :
  WalkO q cj XP YP l.row.toRowW d [] (λf vs=>y7h f vs):=by
 intro w s₀ s₁ mg mb G Y fa o pm cd doc dV kV ho hd hcd hD hmg hg args ap as hpre hlay hrd hwl hlo;obtain rfl:dV = .none:=Dflts.none hD hdf;obtain rfl:kV = .none:=Dflts.noKw hD;obtain⟨a,vs,ns,rfl,rfl,hobj,hints,hlen⟩:=zgw hn hpre hwl;refine enter_call (codeAny_mono (call w s₀ s₁ mg mb fa o pm cd doc a vs ns G Y ho (fd_plain hd) hcd hmg hobj hints hlen hg) λr s' hq=>?_);obtain⟨rfl,h2,h3,h4⟩:=hq;exact⟨.inl ⟨.bool true,.bool true,[],rfl,λ_=>rfl,.bool true,zhn l _,λ_=>⟨y6r,λ_ hm=>(nomatch hm)⟩⟩,h2,h3,h4⟩
section
variable {prog:Program}{w:World}{A:Around}{E:Value->Shared->Prop}{s:Shared}{K:Frag}
def zrk (h:Heap)(L d:Addr):List (Addr×Obj):=(y0d h.objs.size).filterMap λa=>if a=L∨a=d then none else (h.get? a).map λo=>(a,o)
end
end Att
namespace L2
open PySem PySem.Spec PyProof.Rows
theorem zbt:∀{vs:List Value} {ns:List Int},IntsAre vs ns->Vals (ns.map V.int) vs
 | _,_,.nil=>.nil
 | _,_,.cons n t h=>.cons ⟨t,rfl⟩ (zbt h)
def zqr (H:Hp):Prop:=∀b,H b=none∨∃o xs,H b=some (.frz o (.lst xs))
theorem zks {P:Program}{w:World}{K:y03}{mg mb:Str->Option Value}{CX:CXT}{k:Nat}{fa a:Addr}{fd:FuncData}{x:Str}{sp:Sp}{s₁:Shared}{vs:List Value}{ns:List Int}
  (KX:K.In s₁.heap) (hns:s₁.heap.Ns mainGlobals mg) (hb:s₁.heap.Ns builtinsNs mb) (hbb:∀x:Str,x ≠ "__name__"->mb x=bootBuiltins x) (hlim:s₁.heap.NoLimit) (hg:s₁.gens = #[])
  (ha:s₁.heap.get? a=some { cls:=.type "list",data:=.seq vs.toArray }) (hi:IntsAre vs ns) (hl:ns.length≤sizeLine) (hr:Room k callerA)
  (F:∀base:Heap,K.In base->base.Ns mainGlobals mg->FnOk P w K mg base CX k fa fd [x] sp) (hbind:∀(s:Shared) (u:Value),BindsTo s fd ⟨[u],[]⟩ [(x,u)])
  (hsp:∀H:Hp,zqr H->SqL K H a (ns.map V.int)->sp [.ref a] H (λv _=>v = .bl true) λ_ _ _=>False)
  (hCX:∀H e s',CX [] H s₁ (λ_ _ _=>False) e s'->False) :
  codeAny (model P w) callerA (.call (.ref fa) ⟨[.ref a],[]⟩) (λr s'=>r = .ok (.ret (.bool true))/\OldK s₁.heap s'.heap/\s'.os=s₁.os/\AllBare s'.gens) s₁:=by
 have rv:=zbt hi;have lenV:=hi.length
 have core:∀H:Hp,zqr H->SqL K H a (ns.map V.int)->HOk P w H s₁.heap->(∀b,H b≠none->b=a)->(H a≠none->K.lookup a=none) ->
   codeAny (model P w) callerA (.call (.ref fa) ⟨[.ref a],[]⟩) (λr s'=>r = .ok (.ret (.bool true))/\OldK s₁.heap s'.heap/\s'.os=s₁.os/\AllBare s'.gens) s₁:=by
  intro H hO hS hok hA hK;have base_of:∀{b:Addr} {o:Obj},s₁.heap.get? b=some o->H b=none->(zk5 s₁.heap H).get? b=some o:=λe n=>zkm e n;have noA:∀{b:Addr} {o:Obj} {es:Array DictEntry} {ep:Nat},s₁.heap.get? b=some o->o.data = .dict es ep->H b=none:=λ{b o es ep} e d=>by
   cases q:H b with
   | none=>rfl
   | some u =>
    have e':b=a:=hA b (by rw[q];simp)
    subst e';rw[ha] at e;cases e;have d':Data.seq vs.toArray _=Data.dict es ep:=d;cases d'
  have nsK:∀{b:Addr} {m:Str->Option Value},s₁.heap.Ns b m->(zk5 s₁.heap H).Ns b m:=λ{b m} ⟨o,es,ep,e,d,r⟩=>⟨o,es,ep,base_of e (noA e d),d,r⟩;have hKb:K.In (zk5 s₁.heap H):=λb o e=>base_of (KX b o e) (by
   cases q:H b with
   | none=>rfl
   | some u =>
    have e':b=a:=hA b (by rw[q];simp)
    subst e';rw[hK (by rw[q];simp)] at e;cases e)
  have hM:Mod K mg (zk5 s₁.heap H):=⟨hKb,nsK hns,⟨mb,nsK hb,hbb⟩,let ⟨mc,h1,h2⟩:=hlim;⟨mc,nsK h1,h2⟩⟩
  have e0:Env0 P w K mg (zk5 s₁.heap H) callerA [] s₁ H:=⟨rfl,hM,λb o e=>zmv e,y6z (zi1 _ _),trivial,λb hb=>absurd (show b∈([]:List Addr) from hb) (by simp),hok,.of_eq hg⟩
  refine codeAny_mono ((F _ hKb (nsK hns)).run callerA [] s₁ H ⟨[.ref a],[]⟩ [.ref a] [.ref a] _ _ hr e0 (hbind s₁ (.ref a)) (.cons rfl .nil) (hsp H hO hS)) λr s' h=>?_;cases r with
  | error e=>exact(hCX H e s' h).elim
  | ok fl =>
   cases fl with
   | next=>exact False.elim h
   | brk=>exact False.elim h
   | cont=>exact False.elim h
   | ret u =>
    obtain⟨v,H',os,bare,un,hok',r',q⟩:=h;have q':v = .bl true:=q;subst q';obtain rfl:u=Value.bool true:=r';refine⟨rfl,OldK.of_keep λb o e=>?_,os,bare⟩;cases q:H b with
    | none=>exact un.keep b o e q (by intro z;exact absurd (show b∈([]:List Addr) from z) (by simp)) (by simp)
    | some u =>
     rcases hO b with z | ⟨ob,xs,z⟩
     ·rw[q] at z;cases z
     ·have z2:=un.frzs b ob _ z;obtain⟨e1,_⟩:=hok b _ z;obtain⟨e2,_⟩:=hok' b _ z2;rw[e] at e1;cases e1;exact e2
 cases hk:K.lookup a with
 | some o =>
  have e:=KX a o hk;rw[ha] at e;cases e;refine core (λ_=>none) (λ_=>.inl rfl) (.inr ⟨_,vs.toArray,_,hk,rfl,rfl,rfl,by rw[y0o,lenV];exact hl,by simpa using rv⟩) (λb u z=>by have z':(none:Option HO)=some u:=z;cases z') (λb z=>absurd rfl z) λz=>absurd rfl z
 | none =>
  refine core (λb=>if b=a then some (.frz { cls:=.type "list",data:=.seq vs.toArray } (.lst (ns.map V.int))) else none) (λb=>?_) (.inl (.inr ⟨{ cls:=.type "list",data:=.seq vs.toArray },if_pos rfl⟩)) (λb u z=>?_) (λb z=>?_) λ_=>hk
  ·by_cases hb:b=a
   ·exact .inr ⟨_,_,if_pos hb⟩
   ·exact .inl (if_neg hb)
  ·by_cases hb:b=a
   ·have z':=(if_pos hb).symm.trans z;cases z';subst hb;exact⟨ha,by rw[y04];exact hl,vs,_,rv,ha⟩
   ·have z':=(if_neg hb).symm.trans z;cases z'
  ·by_cases hb:b=a
   ·exact hb
   ·exact absurd (if_neg hb) z
end L2
namespace L2
open PySem PySem.Spec PyProof.Rows
theorem walk_of {l:y4u}{n k:Nat}{q:Program}{cj:List Str}{XP:(Str->Option Value)->Heap->Prop}{YP:World->Heap->Prop}{d:DefRec}{K:Params->y03}{CX:World->CXT}{sp:World->Sp}{x:Str}
  (hn:l.most=some n) (hn2:n≤sizeLine) (hdf:d.params.defaults = []) (hr:Room k callerA)
  (hY:∀(w:World) (h:Heap),YP w h->(K w.params).In h)
  (F:∀(w:World) (mg:Str->Option Value) (fa:Addr) (h:Heap),(K w.params).In h->h.Ns mainGlobals mg->mg d.name=some (.ref fa) ->
   ∃fd:FuncData,(∀(s:Shared) (u:Value),BindsTo s fd ⟨[u],[]⟩ [(x,u)]) /\
    ∀base:Heap,(K w.params).In base->base.Ns mainGlobals mg->FnOk l.prog w (K w.params) mg base (CX w) k fa fd [x] (sp w))
  (hsp:∀(w:World) (H:Hp) (a:Addr) (ns:List Int),ns.length≤n->zqr H->SqL (K w.params) H a (ns.map V.int)->sp w [.ref a] H (λv _=>v = .bl true) λ_ _ _=>False)
  (hCX:∀(w:World) (H:Hp) (s:Shared) (e:Value) (s':Shared),CX w [] H s (λ_ _ _=>False) e s'->False) :
  y7k q cj XP YP l.row.toRowW d [] (λf vs=>y7h f vs):=by
 refine Att.attach_call hn hdf λw s₀ s₁ mg mb fa o pm cd doc a vs ns G Y ho hd hcd hmg hobj hints hlen hg=>?_;have KX:=hY w _ Y;obtain⟨fd,hb,hF⟩:=F w mg fa _ KX G.T.g hmg;exact zks KX G.T.g G.T.b G.T.builtins G.T.nolimit hg hobj hints (y13 hlen hn2) hr hF hb (λH hO hS=>hsp w H a ns hlen hO hS) λH e s'=>hCX w H s₁ e s'
end L2
namespace L2
open PySem PySem.Spec PyProof.Rows
def z30 (s:Stmt)(j:Nat):Stmt:=match s with
 | .ClassDef _ _ _ body _ _ _ _ _ _ _=>body.getD j (.Pass ⟨0,0,0,0⟩)
 | _=>.Pass ⟨0,0,0,0⟩
def z0g (s:Stmt):Arguments:=match s with
 | .FunctionDef _ a _ _ _ _ _ _ _ _=>a
 | _=>{ posonlyargs:=[],args:=[],vararg:=none,kwonlyargs:=[],kw_defaults:=[],kwarg:=none,defaults:=[] }
def z0e (s:Stmt):List Stmt:=match s with
 | .FunctionDef _ _ b _ _ _ _ _ _ _=>b
 | _=>[]
def z04 (s:Stmt):Scope:=match s with
 | .FunctionDef _ _ _ _ _ _ sc _ _ _=>sc
 | _=>{ kind:=.function,names:=[],isGenerator:=false,isCoroutine:=false }
abbrev CX0:CXT:=λ_ _ _ _ _ _=>False
abbrev E0:XK:=λ_ _ _=>False
theorem zji {X:Cx}:z9d CX0 X E0:=λ_ _ _ _ _ _ _ h=>h.elim
structure Fun (K:y03)(x aJ:Str)(st:Stmt)(f:Addr)(fd:FuncData):Prop where
 ex:∃(oc:Value) (od:Option Addr) (kV doc pm:Value) (an:Option Addr) (cdv ct:Value) (osl:Array (Option Value)),
  fd=y0j x aJ (z0g st) (z0e st) (z04 st) .none kV doc pm an cdv ct/\K.lookup f=some ⟨oc,od,.func fd,osl⟩/\y0i K cdv aJ=true
 kp:y0g K (.ref f)=true
section
variable {P:Program}{w:World}{K:y03}{mg:Str->Option Value}{base:Heap}
theorem Fun.ok {x aJ:Str}{st:Stmt}{f:Addr}{fd:FuncData}{N ps:List Str}{k:Nat}{sp:Sp}(F:Fun K x aJ st f fd)(S:FnScope N ps (z04 st))(len:∀vs H Q E,sp vs H Q E->vs.length=ps.length)
  (hbody:∀(cdv:Value) (A:Around) (outer:List Env) (s:Shared) (H:Hp) (vs:List V) (Q:VK) (E:XK),Room k (A.deeper (envOfC aJ (z04 st) s.heap.objs.size f cdv))->sp vs H Q E ->
   ∃t,PSs (zj0 CX0 P w K mg base N aJ (z04 st) f cdv A outer s H E).nox (z0e st) t/\t { nx:=λ_ H'=>Q .non H',rt:=Q } (start N vs) H):FnOk P w K mg base CX0 (k+1) f fd ps sp:=by
 obtain⟨oc,od,kV,doc,pm,an,cdv,ct,osl,rfl,lk,hcd⟩:=F.ex;refine zqo lk hcd S len λA outer s H vs Q E hr hsp=>?_;obtain⟨t,h,q⟩:=hbody cdv A outer s H vs Q E hr hsp;exact⟨t,h.nox,q⟩
theorem Fun.binds {x aJ:Str}{st:Stmt}{f:Addr}{fd:FuncData}{ps:List Str}(F:Fun K x aJ st f fd)
  (h:∀(kV doc pm:Value) (an:Option Addr) (cdv ct:Value) (us:List Value),us.length=ps.length->bindArgs (y0j x aJ (z0g st) (z0e st) (z04 st) .none kV doc pm an cdv ct) ⟨us,[]⟩=pure (ps.zip us)):Binds K fd ps []:=by
 obtain⟨oc,od,kV,doc,pm,an,cdv,ct,osl,rfl,lk,hcd⟩:=F.ex;exact .all (h kV doc pm an cdv ct)
theorem z1r {x aJ:Str}{st:Stmt}{f:Addr}{oc:Value}{od an:Option Addr}{osl:Array (Option Value)}{kV doc pm cdv ct:Value}(l:K.lookup f=some ⟨oc,od,.func (y0j x aJ (z0g st) (z0e st) (z04 st) .none kV doc pm an cdv ct),osl⟩)
  (c:y0i K cdv aJ=true) (k:y0g K (.ref f)=true):Fun K x aJ st f (y0j x aJ (z0g st) (z0e st) (z04 st) .none kV doc pm an cdv ct):=⟨⟨oc,od,kV,doc,pm,an,cdv,ct,osl,rfl,l,c⟩,k⟩
end
theorem z0h {n:Nat}(h:n≤1000):n<sizeLine:=y2p h (by decide)
section
variable {X:Cx}
end
theorem z7t {A B:Prop}(h:B):if false=true then A else B:=by
 rw[if_neg y15];exact h
theorem z6m {A B:Prop}(h:A):if true=true then A else B:=by
 rw[if_pos rfl];exact h
theorem z3m {c A B:Prop} [Decidable c] (h1:c->A)(h2:¬c->B):if c then A else B:=by
 by_cases h:c
 ·rw[if_pos h];exact h1 h
 ·rw[if_neg h];exact h2 h
theorem zr8 {c A B:Prop} [Decidable c] (hc:c)(h:B):if (!decide c)=true then A else B:=by
 rw[decide_eq_true hc];exact z7t h
def Same (H H':Hp):Prop:=∀b o,H b=some o->H' b=some o
theorem Same.refl (H:Hp):Same H H:=λ_ _ h=>h
theorem Same.trans {H H1 H2:Hp}(a:Same H H1)(b:Same H1 H2):Same H H2:=λc o h=>b c o (a c o h)
theorem Same.free {H H':Hp}(e:Same H H'){l:Addr}(h:H' l=Option.none):H l=Option.none:=by
 cases q:H l with
 | none=>rfl
 | some o =>
  rw[e l o q] at h;cases h
theorem Same.seq {K:y03}{H H':Hp}{a:Addr}{xs:List V}(e:Same H H')(h:SqL K H a xs):SqL K H' a xs:=by
 rcases h with (h | ⟨o,h⟩) | h
 ·exact .inl (.inl (e _ _ h))
 ·exact .inl (.inr ⟨o,e _ _ h⟩)
 ·exact .inr h
end L2
namespace L2.EX
open PySem PySem.Spec PyProof.Rows
section
variable {X:Cx}
theorem z53 {e:Expr}{t u:TE}(h:PE X e t)(k:∀ σ H Q,u σ H Q->t σ H Q):PE X e u:=λaa s σ H Q I q=>h aa s σ H Q I (k σ H Q q)
theorem zl9 {e:Stmt}{t u:TS}(h:PS X e t)(k:∀D σ H,u D σ H->t D σ H):PS X e u:=λaa s σ H D I q=>h aa s σ H D I (k D σ H q)
theorem zlp {e:Expr}{t u:TG}(h:PG X e t)(k:∀v σ H Q,u v σ H Q->t v σ H Q):PG X e u:=λaa s σ H v w Q I r q=>h aa s σ H v w Q I r (k v σ H Q q)
theorem z7q {f:Value}{r u:List V->Hp->VK->Prop}(h:z4l X f r)(k:∀xs H Q,u xs H Q->r xs H Q):z4l X f u:=λaa s σ H xs us Q I r q=>h aa s σ H xs us Q I r (k xs H Q q)
def zsg (t:TS):TS:=λD σ H=>∃M:St->Hp->Prop,t { D with nx:=M } σ H/\∀ σ' H',M σ' H'->D.nx σ' H'
theorem z9u {st:Stmt}{t:TS}(h:PS X st t):PS X st (zsg t):=by
 intro aa s σ H D I hw;obtain⟨M,h1,h2⟩:=hw;refine thn (h aa s σ H { D with nx:=M } I h1) λf s' q=>?_
 cases f with
 | next =>
  obtain⟨σ',H',I',m⟩:=q;exact⟨σ',H',I',h2 _ _ m⟩
 | brk=>exact q
 | cont=>exact q
 | ret v=>exact q
def sg:St->Nat->Option V
 | [],_=>none
 | v::_,0=>v
 | _::r,n+1=>sg r n
theorem zn6:∀{σ:St} {i:Nat} {v:V},sg σ i=some v->σ[i]?=some (some v)
 | [],_,_,h=>nomatch h
 | w::_,0,v,h=>by
  have e:w=some v:=h;rw[e];rfl
 | _::r,n+1,v,h=>by
  have e:=zn6 (σ:=r) (i:=n) (v:=v) h;simpa using e
def xV (i:Nat)(σ:St)(H:Hp)(Q:VK):Prop:=match sg σ i with
 | some v=>Q v H
 | none=>False
theorem cv (i:Nat){x:Str}{pos:Pos}(hN:X.N[i]?=some x:=by rfl)(hv:Vis X.env.scope x:=by first | exact y77 rfl | exact y70 (y77 rfl) | exact y70 (y70 rfl))(hd:(x==("__debug__":Str))=false:=by decide)
  (hcd:(x==("__classdict__":Str))=false:=by decide):PE X (.Name x pos) (xV i) :=
 z53 (zof hN hv hd hcd) fun σ H Q q=>by
  unfold xV at q
  split at q
  ·rename_i v e;exact⟨v,zn6 e,q⟩
  ·exact q.elim
def Bd (n:Nat)(i:Int):Prop:=i.natAbs<2^n
def zpq (x y:V)(H:Hp)(Q:VK):Prop:=match x,y with
 | .int i,.int j=>Q (.int (i+j)) H
 | .str i,.str j=>i.length+j.length≤sizeLine/\Q (.str (i++j)) H
 | .ref l,.ref b=>∃xs zs,H l=some (.lst xs)/\H b=some (.lst zs)/\xs.length+zs.length≤sizeLine/\∀p,H p=none->Q (.ref p) (upd H p (.lst (xs++zs)))
 | _,_=>False
def zpy (x y:V)(H:Hp)(Q:VK):Prop:=match x,y with
 | .int i,.int j=>Q (.int (i - j)) H
 | _,_=>False
def zpn (x y:V)(H:Hp)(Q:VK):Prop:=match x,y with
 | .int i,.int j=>IntMulOk i j/\Q (.int (i*j)) H
 | .ref l,.int k=>∃xs,H l=some (.lst xs)/\-(2^63)≤k/\k<2^63/\xs.length*k.toNat≤sizeLine/\∀p,H p=none->Q (.ref p) (upd H p (.lst (y08 k.toNat xs).flatten))
 | _,_=>False
def zpp (x y:V)(H:Hp)(Q:VK):Prop:=match x,y with
 | .int i,.int j=>0<j/\Q (.int (i % j)) H
 | _,_=>False
def zq0 (x y:V)(H:Hp)(Q:VK):Prop:=match x,y with
 | .int i,.int j=>j≠0/\j.natAbs.log2<9000/\Q (.int (i.fdiv j)) H
 | _,_=>False
def zpx (x y:V)(H:Hp)(Q:VK):Prop:=match x,y with
 | .int i,.int j=>0≤j/\(Builtin.Int.intBits i:Int)*j≤2^27/\Q (.int (i^j.toNat)) H
 | _,_=>False
theorem z2i:OpR X (binaryOp .Add) zpq:=by
 intro aa s σ H x y v u Q I rx ry h;unfold zpq at h
 split at h
 ·exact zoa aa s σ H _ _ v u Q I rx ry ⟨_,_,rfl,rfl,h⟩
 ·exact zez aa s σ H _ _ v u Q I rx ry ⟨_,_,rfl,rfl,h.1,h.2⟩
 ·obtain⟨xs,zs,h1,h2,h3,h4⟩:=h;exact zpd aa s σ H _ _ v u Q I rx ry ⟨_,_,xs,zs,rfl,rfl,h1,h2,h3,h4⟩
 ·exact h.elim
theorem zou:OpR X (binaryOp .Sub) zpy:=by
 intro aa s σ H x y v u Q I rx ry h;unfold zpy at h
 split at h
 ·exact zow aa s σ H _ _ v u Q I rx ry ⟨_,_,rfl,rfl,h⟩
 ·exact h.elim
theorem zmz:OpR X (binaryOp .Mult) (rI IntMulOk λi j=>.int (i*j)):=opI λ_ _ _ _ _ _ _ hc q=>mul_int q hc
theorem z2j:OpR X (binaryOp .Mult) zpn:=by
 intro aa s σ H x y v u Q I rx ry h;unfold zpn at h
 split at h
 ·exact zmz aa s σ H _ _ v u Q I rx ry ⟨_,_,rfl,rfl,h.1,h.2⟩
 ·obtain⟨xs,h1,h2,h3,h4,h5⟩:=h;exact zod aa s σ H _ _ v u Q I rx ry ⟨_,_,xs,rfl,rfl,h1,h2,h3,h4,h5⟩
 ·exact h.elim
theorem z1u:OpR X (binaryOp .Mod) zpp:=by
 intro aa s σ H x y v u Q I rx ry h;unfold zpp at h
 split at h
 ·exact zov aa s σ H _ _ v u Q I rx ry ⟨_,_,rfl,rfl,h.1,h.2⟩
 ·exact h.elim
theorem zmm:OpR X (binaryOp .FloorDiv) (rI (λ_ j=>j≠0/\j.natAbs.log2<9000) λi j=>.int (i.fdiv j)):=opI λ_ _ _ _ _ _ _ hc q=>floordiv_int hc.1 q (.inl (PyProof.noPylong_of_log2 hc.2))
theorem z2a:OpR X (binaryOp .FloorDiv) zq0:=by
 intro aa s σ H x y v u Q I rx ry h;unfold zq0 at h
 split at h
 ·exact zmm aa s σ H _ _ v u Q I rx ry ⟨_,_,rfl,rfl,⟨h.1,h.2.1⟩,h.2.2⟩
 ·exact h.elim
theorem zne:OpR X (binaryOp .Pow) (rI (λi j=>0≤j/\(Builtin.Int.intBits i:Int)*j≤2^27) λi j=>.int (i^j.toNat)):=opI λ_ _ _ _ _ _ _ hc q=>pow_int hc.1 hc.2 q
theorem zln:OpR X (binaryOp .Pow) zpx:=by
 intro aa s σ H x y v u Q I rx ry h;unfold zpx at h
 split at h
 ·exact zne aa s σ H _ _ v u Q I rx ry ⟨_,_,rfl,rfl,⟨h.1,h.2.1⟩,h.2.2⟩
 ·exact h.elim
def zpz (x:V)(H:Hp)(Q:VK):Prop:=match x with
 | .int i=>Q (.int (-i)) H
 | _=>False
theorem z8r:UnR X (unaryOp .USub) zpz:=by
 intro aa s σ H x v Q I rx h;unfold zpz at h
 split at h
 ·exact zp5 aa s σ H _ v Q I rx ⟨_,rfl,h⟩
 ·exact h.elim
def uEq (x y:V)(H:Hp)(Q:VK):Prop:=match x,y with
 | .int i,.int j=>Q (.bl (decide (i=j))) H
 | .bl i,.bl j=>Q (.bl (decide (i=j))) H
 | .str i,.str j=>Q (.bl (decide (i=j))) H
 | x,y=>zpv x y=true/\Q (.bl (decide (x=y))) H
def uNe (x y:V)(H:Hp)(Q:VK):Prop:=match x,y with
 | .int i,.int j=>Q (.bl (!decide (i=j))) H
 | .bl i,.bl j=>Q (.bl (!decide (i=j))) H
 | .str i,.str j=>Q (.bl (!decide (i=j))) H
 | x,y=>zpv x y=true/\Q (.bl (!decide (x=y))) H
def uLt (x y:V)(H:Hp)(Q:VK):Prop:=match x,y with
 | .int i,.int j=>Q (.bl (decide (i<j))) H
 | _,_=>False
def uLe (x y:V)(H:Hp)(Q:VK):Prop:=match x,y with
 | .int i,.int j=>Q (.bl (decide (i≤j))) H
 | _,_=>False
def uGt (x y:V)(H:Hp)(Q:VK):Prop:=match x,y with
 | .int i,.int j=>Q (.bl (decide (j<i))) H
 | _,_=>False
def uGe (x y:V)(H:Hp)(Q:VK):Prop:=match x,y with
 | .int i,.int j=>Q (.bl (decide (j≤i))) H
 | _,_=>False
theorem z4y:OpR X (compareOp .Eq) uEq:=by
 intro aa s σ H x y v u Q I rx ry h;unfold uEq at h
 split at h
 ·rename_i i j;refine zkn aa s σ H _ _ v u Q I rx ry ⟨rfl,?_⟩;have e:decide (V.int i=V.int j)=decide (i=j):=by simp
  rw[e];exact h
 ·rename_i i j;refine zkn aa s σ H _ _ v u Q I rx ry ⟨rfl,?_⟩;have e:decide (V.bl i=V.bl j)=decide (i=j):=by simp
  rw[e];exact h
 ·rename_i i j;refine zkn aa s σ H _ _ v u Q I rx ry ⟨rfl,?_⟩;have e:decide (V.str i=V.str j)=decide (i=j):=by simp
  rw[e];exact h
 ·exact zkn aa s σ H _ _ v u Q I rx ry h
theorem zqb:OpR X (compareOp .NotEq) uNe:=by
 intro aa s σ H x y v u Q I rx ry h;unfold uNe at h
 split at h
 ·rename_i i j;refine zjw aa s σ H _ _ v u Q I rx ry ⟨rfl,?_⟩;have e:decide (V.int i=V.int j)=decide (i=j):=by simp
  rw[e];exact h
 ·rename_i i j;refine zjw aa s σ H _ _ v u Q I rx ry ⟨rfl,?_⟩;have e:decide (V.bl i=V.bl j)=decide (i=j):=by simp
  rw[e];exact h
 ·rename_i i j;refine zjw aa s σ H _ _ v u Q I rx ry ⟨rfl,?_⟩;have e:decide (V.str i=V.str j)=decide (i=j):=by simp
  rw[e];exact h
 ·exact zjw aa s σ H _ _ v u Q I rx ry h
theorem z7k:OpR X (compareOp .Lt) uLt:=by
 intro aa s σ H x y v u Q I rx ry h;unfold uLt at h
 split at h
 ·exact zrb aa s σ H _ _ v u Q I rx ry ⟨_,_,rfl,rfl,h⟩
 ·exact h.elim
theorem z6e:OpR X (compareOp .Gt) uGt:=by
 intro aa s σ H x y v u Q I rx ry h;unfold uGt at h
 split at h
 ·exact zqa aa s σ H _ _ v u Q I rx ry ⟨_,_,rfl,rfl,h⟩
 ·exact h.elim
theorem zmg:OpR X (compareOp .GtE) uGe:=by
 intro aa s σ H x y v u Q I rx ry h;unfold uGe at h
 split at h
 ·exact zq5 aa s σ H _ _ v u Q I rx ry ⟨_,_,rfl,rfl,h⟩
 ·exact h.elim
def uIs (x y:V)(H:Hp)(Q:VK):Prop:=match y with
 | .non=>Q (.bl (decide (x = .non))) H
 | _=>False
theorem zqq:OpR X (compareOp .Is) uIs:=by
 intro aa s σ H x y v u Q I rx ry h;unfold uIs at h
 split at h
 ·exact zon aa s σ H _ _ v u Q I rx ry ⟨rfl,h⟩
 ·exact h.elim
def onB (Q:Bool->Hp->Prop)(x:V)(H:Hp):Prop:=match x with
 | .bl k=>Q k H
 | _=>False
theorem zby {Q:Bool->Hp->Prop}{x:V}{H:Hp}(h:onB Q x H):∃k,x = .bl k/\Q k H:=by
 unfold onB at h
 split at h
 ·exact⟨_,rfl,h⟩
 ·exact h.elim
def xT (t:TE)(σ:St)(H:Hp)(Q:Bool->Hp->Prop):Prop:=t σ H (onB Q)
theorem z3c {e:Expr}{t:TE}(h:PE X e t)(he:∀whole,isTrue e X.env whole=(do let v ←whole;standAt e.pos;holding [v] (truthy v)):=by intro _;rfl):PT X e (xT t):=by
 intro aa s σ H Q I hw;refine isTrue_plain (thn (h aa s σ H _ I hw) λv s1 hq=>?_) (he _);obtain⟨x,H1,I1,r1,q1⟩:=hq;obtain⟨d,rfl,q⟩:=zby q1;cases r1;exact wpAny_truthy_bool ⟨H1,I1,q⟩
variable {a b:Expr}{ta tb:TE}{pos:Pos}{rest:List Expr}
theorem z0s {op:CmpOp}{r:R2}(ho:OpR X (compareOp op) r)(ha:PE X a ta)(hb:PE X b tb)(hm:behindInMarks op b=false):PT X (.Compare a [op] [b] pos) (xT (tOp r ta tb)):=by
 intro aa s σ H Q I h;refine wpAny_isTrue_Compare1 (thn (ha aa s σ H _ I h) λv s1 h1=>?_) hm;obtain⟨x,H1,I1,r1,q1⟩:=h1;refine thn (hb aa s1 σ H1 _ I1 q1) λu s2 h2=>?_;obtain⟨y,H2,I2,r2,q2⟩:=h2;refine thn (ho aa s2 σ H2 x y v u _ I2 r1 r2 q2) λc s3 h3=>?_;obtain⟨z,H3,I3,r3,q3⟩:=h3;obtain⟨k,rfl,q⟩:=zby q3;cases r3;exact wpAny_truthy_bool ⟨H3,I3,q⟩
def zq8 (ta tb:TE)(σ:St)(H:Hp)(Q:VK):Prop:=ta σ H (onB λc H1=>if c=true then tb σ H1 Q else Q (.bl false) H1)
def xOr (ta tb:TE)(σ:St)(H:Hp)(Q:VK):Prop:=ta σ H (onB λc H1=>if c=true then Q (.bl true) H1 else tb σ H1 Q)
def zqh (ta:TE)(σ:St)(H:Hp)(Q:VK):Prop:=ta σ H (onB λc H1=>Q (.bl (!c)) H1)
theorem zb4 (ha:PE X a ta)(hb:PE X (.BoolOp .And (b::rest) pos) tb):PE X (.BoolOp .And (a::b::rest) pos) (zq8 ta tb):=by
 intro aa s σ H Q I h;refine BoolOp_and (thn (ha aa s σ H _ I h) λv s1 h1=>?_);obtain⟨x,H1,I1,r1,q1⟩:=h1;obtain⟨c,rfl,q⟩:=zby q1;cases r1;refine wpAny_truthy_bool ?_;cases c with
 | true=>exact hb aa s1 σ H1 Q I1 q
 | false=>exact⟨.bl false,H1,I1,rfl,q⟩
theorem zob (ha:PE X a ta)(hb:PE X (.BoolOp .Or (b::rest) pos) tb):PE X (.BoolOp .Or (a::b::rest) pos) (xOr ta tb):=by
 intro aa s σ H Q I h;refine BoolOp_or (thn (ha aa s σ H _ I h) λv s1 h1=>?_);obtain⟨x,H1,I1,r1,q1⟩:=h1;obtain⟨c,rfl,q⟩:=zby q1;cases r1;refine wpAny_truthy_bool ?_;cases c with
 | false=>exact hb aa s1 σ H1 Q I1 q
 | true=>exact⟨.bl true,H1,I1,rfl,q⟩
theorem zl6 (ha:PE X a ta):PE X (.UnaryOp .Not a pos) (zqh ta):=by
 intro aa s σ H Q I h;refine UnaryOp_ (thn (ha aa s σ H _ I h) λv s1 h1=>?_);obtain⟨x,H1,I1,r1,q1⟩:=h1;obtain⟨c,rfl,q⟩:=zby q1;cases r1;exact not_of (wpAny_truthy_bool ⟨.bl (!c),H1,I1,rfl,q⟩)
def zpo (xs:List V)(H:Hp)(Q:VK):Prop:=match xs with
 | [.int i]=>Q (.int (if i<0 then -i else i)) H
 | _=>False
theorem zbx:z4l X (.builtin "abs") zpo:=z7q zkj λxs H Q h=>by
 unfold zpo at h
 split at h
 ·exact⟨_,rfl,h⟩
 ·exact h.elim
def zjg (xs:List V)(H:Hp)(Q:VK):Prop:=match xs with
 | [.int i,.int j]=>Q (.int (if j<i then j else i)) H
 | _=>False
theorem zm1 (hc:X.calm=true:=by rfl):z4l X (.builtin "min") zjg:=z7q (zhw hc) λxs H Q h=>by
 unfold zjg at h
 split at h
 ·exact⟨_,_,rfl,h⟩
 ·exact h.elim
def zp7 (xs:List V)(H:Hp)(Q:VK):Prop:=match xs with
 | [.int i,.int j]=>Q (.int (if j>i then j else i)) H
 | _=>False
@[reducible] def zrm (K:y03)(xs:List V)(H:Hp)(Q:VK):Prop:=match xs with
 | [.ref p]=>∃ys,(SqL K H p ys∨SqT K H p ys)/\Q (.int ys.length) H
 | _=>False
theorem z29:z4l X (.builtin "len") (zrm X.K):=z7q zap λxs H Q h=>by
 unfold zrm at h
 split at h
 ·obtain⟨ys,h1,h2⟩:=h;exact⟨_,ys,rfl,h1,h2⟩
 ·exact h.elim
def zrp (xs:List V)(H:Hp)(Q:VK):Prop:=match xs with
 | [.int i]=>Q (.int i) H
 | [.bl k]=>Q (.int (if k then 1 else 0)) H
 | _=>False
@[reducible] def zjd (K:y03)(xs:List V)(H:Hp)(Q:VK):Prop:=match xs with
 | [.ref p]=>∃ys,(SqL K H p ys∨SqT K H p ys)/\∀l,H l=none->Q (.ref l) (upd H l (.lst ys))
 | _=>False
theorem z8f:z4l X (.type "list") (zjd X.K):=z7q zbq λxs H Q h=>by
 unfold zjd at h
 split at h
 ·obtain⟨ys,h1,h2⟩:=h;exact⟨_,ys,rfl,h1,h2⟩
 ·exact h.elim
def tyN (H:Hp)(x:V):Option String:=match x with
 | .non=>some "NoneType"
 | .bl _=>some "bool"
 | .int _=>some "int"
 | .str _=>some "str"
 | .ref a=>match H a with
  | some (.lst _)=>some "list"
  | some (.tup _)=>some "tuple"
  | some (.dK _)=>some "dict"
  | _=>none
 | _=>none
def isB (t c:String):Bool:=t==c||(t == "bool"&&c == "int")
def okC (c:String):Bool:=["int","bool","str","list","tuple","dict"].contains c
theorem zmt (K:y03){t c:String}(ht:t ∈ ["NoneType","bool","int","str","list","tuple","dict"])(hc:c ∈ ["int","bool","str","list","tuple","dict"]):y7f K (.type t) (.type c)=some (isB t c):=by
 simp only[y0m,y1g,or_false] at ht hc;rcases ht with rfl | rfl | rfl | rfl | rfl | rfl | rfl<;>rcases hc with rfl | rfl | rfl | rfl | rfl | rfl<;>with_unfolding_all rfl
def zke (xs:List V)(H:Hp)(Q:VK):Prop:=match xs with
 | [x,.ty c]=>match tyN H x with
  | some t=>okC c=true/\Q (.bl (isB t c)) H
  | none=>False
 | _=>False
theorem z23:z4l X (.builtin "isinstance") zke:=by
 intro aa s σ H xs us Q I r h;unfold zke at h
 split at h
 ·rename_i x c
  split at h
  ·rename_i t et;obtain⟨hc,q⟩:=h;obtain⟨u,w,rfl,rx,rc⟩:=zlt r;obtain rfl:w=Value.type c:=rc;have hc':c ∈ ["int","bool","str","list","tuple","dict"]:=y26.mp hc;have fin:∀tk,EP X aa σ Q (.bool (isB t c)) { s with toks:=tk }:=λtk=>⟨.bl (isB t c),H,I.tok tk,rfl,q⟩
   have go:∀ty:TyOf X.K H x (.type t),t ∈ ["NoneType","bool","int","str","list","tuple","dict"]->wpAny (model X.prog X.w) X.A (call (.builtin "isinstance") [u,.type c]) (EP X aa σ Q) X.xe s:=λty ht =>
    zgz I rx ty (zmt X.K ht hc') fin
   unfold tyN at et
   split at et
   ·cases et;exact go .non (by decide)
   ·cases et;exact go (.bl _) (by decide)
   ·cases et;exact go (.int _) (by decide)
   ·cases et;exact go (.str _) (by decide)
   ·split at et
    ·rename_i a xs e;cases et;exact go (.lst e) (by decide)
    ·rename_i a xs e;cases et;exact go (.tup e) (by decide)
    ·rename_i a kvs e;cases et;exact go (.dK e) (by decide)
    ·cases et
   ·cases et
  ·exact h.elim
 ·exact h.elim
@[reducible] def uIx (K:y03)(x y:V)(H:Hp)(Q:VK):Prop:=match x,y with
 | .ref p,.int i=>∃xs v,(SqL K H p xs∨SqT K H p xs)/\atI xs i=some v/\Q v H
 | _,_=>False
theorem z0k:IxR X (uIx X.K):=by
 intro value slice aa s σ H x y v u Q I rx ry h hs;unfold uIx at h
 split at h
 ·obtain⟨xs,v',h1,h2,h3⟩:=h;rcases h1 with h1 | h1
  ·exact zms value slice aa s σ H _ _ v u Q I rx ry ⟨_,xs,_,v',rfl,rfl,h1,h2,h3⟩ hs
  ·exact zoj value slice aa s σ H _ _ v u Q I rx ry ⟨_,xs,_,v',rfl,rfl,h1,h2,h3⟩ hs
 ·exact h.elim
@[reducible] def uSl (K:y03)(x:V)(lo hi:Option Int)(H:Hp)(Q:VK):Prop:=match x with
 | .ref a=>∃xs,SqL K H a xs/\∀p,H p=none->Q (.ref p) (upd H p (.lst (zft xs lo hi)))
 | _=>False
def zn5 (t:TE)(σ:St)(H:Hp)(Q:Option Int->Hp->Prop):Prop:=t σ H λx H1=>match x with
 | .int i=>Q (some i) H1
 | _=>False
end
structure Def (P:Program)(w:World)(K:y03)(mg:Str->Option Value)(base:Heap)(x:Str)(k:Nat)(ps:List Str)(sp:Sp):Prop where
 is:∃(f:Addr) (fd:FuncData),FnOk P w K mg base CX0 k f fd ps sp/\Binds K fd ps []/\mg x=some (.ref f)/\y0g K (.ref f)=true
structure Top (K:y03)(mg:Str->Option Value)(x:Str)(st:Stmt)(ps:List Str):Prop where
 is:∃(f:Addr) (fd:FuncData),Fun K x x st f fd/\Binds K fd ps []/\mg x=some (.ref f)
section
variable {X:Cx}{x:Str}{k:Nat}{ps:List Str}{sp:Sp}{e:Expr}{es:List Expr}{t:TA}{p pos:Pos}
def zm6 (sp:Sp)(t:TA)(σ:St)(H:Hp)(Q:VK):Prop:=t σ H λvs H1=>sp vs H1 Q E0
theorem z0f (D:Def X.prog X.w X.K X.mg X.base x k ps sp)(hr:Room k X.A)(ha:PA X (e::es) t)(hg:Gl X x:=by rfl)(hdb:(x==("__debug__":Str))=false:=by decide)
  (he:starEach (e::es) X.env=(false,eval e X.env)::starEach es X.env:=by rfl) (hpl:(backTo pos (starEach es X.env)).any (·.1)=false:=by rfl):PE X (.Call (.Name x p) (e::es) [] pos) (zm6 sp t):=by
 intro aa s σ H Q I h;obtain⟨f,fd,F,hb,hm,hk⟩:=D.is;refine wpAny_Call_Name_kw (zg0 I hg hm ?_ hdb);refine y55 (h₀:=X.base) I.ok.mod.kin hk (thn (ha pos aa s σ H _ I h) λus s1 h1=>?_) he hpl;obtain⟨vs,H1,I1,r,q⟩:=h1;exact⟨I1.kIn,zin (dvs:=[]) F hr hb .nil zji I1 r (by rw[y2i];exact q)⟩
variable {P:Program}{w:World}{K:y03}{mg:Str->Option Value}{base:Heap}{N:List Str}{st:Stmt}
theorem z1e (T:Top K mg x st ps)(S:FnScope N ps (z04 st))(len:∀vs H Q E,sp vs H Q E->vs.length=ps.length)
  (body:∀(f:Addr) (cdv:Value) (A:Around) (outer:List Env) (s:Shared) (H:Hp) (vs:List V) (Q:VK) (E:XK),Room k (A.deeper (envOfC x (z04 st) s.heap.objs.size f cdv))->sp vs H Q E ->
   ∃t,PSs (zj0 CX0 P w K mg base N x (z04 st) f cdv A outer s H E).nox (z0e st) t/\t { nx:=λ_ H'=>Q .non H',rt:=Q } (start N vs) H):Def P w K mg base x (k+1) ps sp:=by
 obtain⟨f,fd,F,hb,hm⟩:=T.is;exact⟨f,fd,F.ok S len λcdv A outer s H vs Q E hr h=>body f cdv A outer s H vs Q E hr h,hb,hm,F.kp⟩
theorem rd {t:TS}{D:Ends}{σ σ':St}{H:Hp}(e:σ = σ')(h:t D σ' H):t D σ H:=e▸h
end
end L2.EX
namespace L2.EX
open PySem PySem.Spec PyProof.Rows
def zew (J:It)(g:TG)(tb:TS)(D:Ends)(σ:St)(H:Hp):Prop:=∃W:Nat->Nat->St->Hp->Prop,(∃m,W 0 m σ H)/\∀i m σ H,W i m σ H ->
 (J.stop i H/\D.nx σ H)∨(J.go i H/\∃N:St->Hp->Prop,(∀ σ' H',N σ' H'->∃m',m'<m/\W (i+1) m' σ' H')/\∀x H',J.yld i H x H'->g x σ H' fun σ2 H2=>tb { D with nx:=N,ct:=N,bk:=D.nx } σ2 H2)
def zqu (wi:TI)(g:TG)(tb:TS)(D:Ends)(σ:St)(H:Hp):Prop:=wi σ H λJ H1=>zew J g tb D σ H1
def zo3 (c:TT)(tb:TS)(D:Ends)(σ:St)(H:Hp):Prop:=∃(Pv:St->Hp->Prop) (μ:St->Hp->Nat),Pv σ H/\∀ σ H,Pv σ H ->
 c σ H λb H1=>if b=true then tb { D with nx:=fun σ' H'=>Pv σ' H'/\μ σ' H' < μ σ H,ct:=fun σ' H'=>Pv σ' H'/\μ σ' H' < μ σ H,bk:=D.nx } σ H1 else D.nx σ H1
def Itp (lo st:Int)(n:Nat):It:=⟨λi _=>i<n,λi H x H'=>H'=H/\x = .int (lo+i*st),λi _=>n≤i⟩
def znx (lo hi st:Int):Nat:=(Builtin.Range.rangeSize lo hi st).toNat
def zq7 (K:y03)(tl:TE)(σ:St)(H:Hp)(R:It->Hp->Prop):Prop:=tl σ H λx H1=>match x with
 | .ref a=>((∃xs,SqL K H1 a xs)/\R (Itl K a) H1)∨((∃xs,SqT K H1 a xs)/\R (Itt K a) H1)
 | _=>False
def xR1 (ta:TA)(σ:St)(H:Hp)(R:It->Hp->Prop):Prop:=ta σ H λvs H1=>match vs with
 | [.int j]=>(-(2^62)≤j/\j<2^62)/\R (Itr 0 j.toNat) H1
 | _=>False
def xR2 (ta:TA)(σ:St)(H:Hp)(R:It->Hp->Prop):Prop:=ta σ H λvs H1=>match vs with
 | [.int i,.int j]=>(-(2^62)≤i/\i<2^62/\-(2^62)≤j/\j<2^62)/\R (Itr i (j - i).toNat) H1
 | _=>False
def xR3 (ta:TA)(σ:St)(H:Hp)(R:It->Hp->Prop):Prop:=ta σ H λvs H1=>match vs with
 | [.int i,.int j,.int c]=>((-(2^61)≤i/\i<2^61/\-(2^61)≤j/\j<2^61)/\0<c/\c<2^20)/\R (Itp i c (znx i j c)) H1
 | _=>False
section
variable {X:Cx}{tg:Expr}
theorem z1z {iter:Expr}{body:List Stmt}{wi:TI}{g:TG}{tb:TS}{pos:Pos}(hi:PI X tg iter wi)(hg:PG X tg g)(hb:PSs X body tb)(hp:PassesOwn (model X.prog X.w) X.A X.env X.xe:=by exact PassesOwn.never)(hc:X.calm=true:=by rfl)
  (hs:∀x,foldedSetIterable iter X.env x=pure x:=by intro _;rfl):PS X (.For tg iter body [] pos) (zqu wi g tb):=zp0 hp hc hi hg hb hs
theorem zed {c:Expr}{body:List Stmt}{tc:TT}{tb:TS}{pos:Pos}(hc:PT X c tc)(hb:PSs X body tb)(hp:PassesOwn (model X.prog X.w) X.A X.env X.xe:=by exact PassesOwn.never):PS X (.While c body [] pos) (zo3 tc tb):=by
 intro aa s σ H D I h;obtain⟨Pv,μ,p0,turn⟩:=h;refine wpAny_While (codeAny_whileLoop (λn s'=>∃ σ' H',Inv X aa σ' H' s'/\Pv σ' H'/\n = μ σ' H') ?_ (μ σ H) ⟨σ,H,I,p0,rfl⟩);rintro n s1 ⟨σ1,H1,I1,w1,rfl⟩;refine wpAny_passesOwn hp (thn (hc aa s1 σ1 H1 _ I1 (turn σ1 H1 w1)) λb s2 h2=>?_);obtain⟨H2,I2,q2⟩:=h2;cases b with
 | true =>
  rw[if_pos rfl] at q2 ⊢
  refine wpAny_passesOwn hp (thn (hb aa s2 σ1 H2 _ I2 q2) λf s3 q3=>?_);cases f with
  | next =>
   obtain⟨σ3,H3,I3,n3,l3⟩:=q3;exact⟨_,l3,σ3,H3,I3,n3,rfl⟩
  | cont =>
   obtain⟨σ3,H3,I3,n3,l3⟩:=q3;exact⟨_,l3,σ3,H3,I3,n3,rfl⟩
  | brk=>exact q3
  | ret v=>exact q3
 | false =>
  rw[if_neg y15] at q2 ⊢
  exact wpAny_execs_nil ⟨σ1,H2,I2,q2⟩
theorem z1i {l:Expr}{tl:TE}(hl:PE X l tl):PI X tg l (zq7 X.K tl):=by
 intro aa s σ H R I h;refine thn (hl aa s σ H _ I h) λv s1 h1=>?_;obtain⟨x,H1,I1,r1,q1⟩:=h1
 split at q1
 ·rename_i a;cases r1;rcases q1 with ⟨⟨xs,hq⟩,q⟩ | ⟨⟨xs,hq⟩,q⟩
  ·obtain⟨its,rv,p,hz⟩:=I1.list hq;refine wpAny_pyIter_list p.isList ?_;refine⟨s1.heap.objs.size,[s1.heap.objs.size],_,_,H1,rfl,I1.kept (t':=s1.toks) λb o e=>Heap.get?_push_of_some _ e,zh1 a _,⟨_,Heap.get?_push_size _ rfl,rfl,rfl⟩,λb hb=>?_,q⟩;have e:b=s1.heap.objs.size:=by simpa using hb
   subst e;exact I1.fpOk (y09 _) (I1.hok.fresh (y09 _))
  ·obtain⟨its,rv,p,hz⟩:=I1.tuple hq;refine wpAny_pyIter_tuple (show s1.heap.IsTuple a its.toArray from p) ?_
   refine⟨s1.heap.objs.size,[s1.heap.objs.size],_,_,H1,rfl,I1.kept (t':=s1.toks) λb o e=>Heap.get?_push_of_some _ e,zf8 a _,⟨_,Heap.get?_push_size _ rfl,rfl,rfl⟩,λb hb=>?_,q⟩;have e:b=s1.heap.objs.size:=by simpa using hb
   subst e;exact I1.fpOk (y09 _) (I1.hok.fresh (y09 _))
 ·exact q1.elim
theorem zf7 {a:Expr}{ta:TA}{p pos:Pos}(hm:X.mg "range"=none)(ha:PA X [a] ta)(hg:Gl X "range":=by rfl)(hs:starEach [a] X.env = [(false,eval a X.env)]:=by rfl):PI X tg (.Call (.Name "range" p) [a] [] pos) (xR1 ta):=by
 intro aa s σ H R I h;refine Call_ (z6f I hg hm boot_range (y24 (thn (ha pos aa s σ H _ I h) λus s1 h1=>?_) hs rfl));obtain⟨vs,H1,I1,r1,q1⟩:=h1
 split at q1
 ·obtain⟨u,rfl,t,rfl⟩:=z6t r1;obtain⟨⟨q1,q2⟩,q⟩:=q1;exact call_range_1 (zk9 I1 (by omega) (by omega) q1 q2 (by simpa using q))
 ·exact q1.elim
theorem zkh {lo hi c:Int}(hc:0<c):0≤Builtin.Range.rangeSize lo hi c/\Builtin.Range.rangeSize lo hi c≤(hi - lo).toNat/\(∀i:Nat,(i:Int)<Builtin.Range.rangeSize lo hi c->lo+i*c<hi):=by
 unfold Builtin.Range.rangeSize;rw[if_pos hc]
 split
 ·rename_i h;have q0:0≤(hi - lo - 1) / c:=y4v (by omega) (by omega)
  have q1:(hi - lo - 1) / c≤hi - lo - 1:=y5p _ (by omega)
  have q2:(hi - lo - 1) / c*c≤hi - lo - 1:=y5v _ (by omega)
  refine⟨by omega,by omega,λi hi'=>?_⟩
  have q3:(i:Int)*c≤(hi - lo - 1) / c*c:=y1r (by omega) (by omega)
  omega
 ·exact⟨by omega,by omega,λi hi'=>by omega⟩
theorem zjb {a b c:Int}(ha:-(2^61)≤a)(ha':a<2^61)(hb:-(2^61)≤b)(hb':b<2^61)(hc:0<c)(hc':c<2^20):Builtin.Range.small a b c=true:=by
 obtain⟨h1,h2,_⟩:=zkh (lo:=a) (hi:=b) hc;unfold Builtin.Range.small;simp only[Builtin.Range.rangeFitsLong,y1h,y5w,decide_eq_true_eq,beq_iff_eq,if_pos (show c>0 from hc)]
 refine⟨⟨⟨⟨by omega,by omega⟩,by omega,by omega⟩,by omega⟩,.inr ⟨by omega,by omega⟩⟩
end
section
variable {K:y03}{g:TG}{tb:TS}{D:Ends}{σ:St}{H:Hp}
theorem z3w {a:Addr}{xs:List V}(Pv:Nat->St->Hp->Prop)(h0:Pv 0 σ H)(hl:∀i σ H,i≤xs.length->Pv i σ H->SqL K H a xs)
  (hs:∀i x σ H,xs[i]?=some x->Pv i σ H->g x σ H fun σ2 H2=>tb { D with nx:=Pv (i+1),ct:=Pv (i+1),bk:=D.nx } σ2 H2) (hd:∀ σ H,Pv xs.length σ H->D.nx σ H):zew (Itl K a) g tb D σ H:=zk8 Pv h0 hl hs hd
theorem zlj {a:Addr}{xs:List V}(Pv:Nat->St->Hp->Prop)(h0:Pv 0 σ H)(hl:∀i σ H,i≤xs.length->Pv i σ H->SqT K H a xs)
  (hs:∀i x σ H,xs[i]?=some x->Pv i σ H->g x σ H fun σ2 H2=>tb { D with nx:=Pv (i+1),ct:=Pv (i+1),bk:=D.nx } σ2 H2) (hd:∀ σ H,Pv xs.length σ H->D.nx σ H):zew (Itt K a) g tb D σ H:=zm7 Pv h0 hl hs hd
theorem z9v {lo:Int}{n:Nat}(Pv:Nat->St->Hp->Prop)(h0:Pv 0 σ H)
  (hs:∀i σ H,i<n->Pv i σ H->g (.int (lo+i)) σ H fun σ2 H2=>tb { D with nx:=Pv (i+1),ct:=Pv (i+1),bk:=D.nx } σ2 H2) (hd:∀ σ H,Pv n σ H->D.nx σ H):zew (Itr lo n) g tb D σ H:=zgu Pv h0 hs hd
end
section
variable {X:Cx}{pos:Pos}
def xT2 (K:y03)(i j:Nat)(v:V)(σ:St)(H:Hp)(Q:St->Hp->Prop):Prop:=match v with
 | .ref a=>∃x y,SqT K H a [x,y]/\Q ((σ.set i (some x)).set j (some y)) H
 | _=>False
def xT3 (K:y03)(i j k:Nat)(v:V)(σ:St)(H:Hp)(Q:St->Hp->Prop):Prop:=match v with
 | .ref a=>∃x y z,SqT K H a [x,y,z]/\Q (((σ.set i (some x)).set j (some y)).set k (some z)) H
 | _=>False
theorem z0b (i:Nat){x:Str}(hN:X.N.Nodup)(hi:X.N[i]?=some x:=by rfl)(hx:Loc X.env.scope x:=by first | exact y77 rfl | exact y70 rfl)(hf:X.fn x=true∨X.env.scope.names.lookup x=some .local:=by first | exact .inl rfl | exact .inr rfl):PG X (.Name x pos) (z41 i):=znh hN hi hx hf
theorem z5k {x y:Str}{px py:Pos}{kt:Nat}{i j:Nat}(h1:PG X (.Name x px) (z41 i))(h2:PG X (.Name y py) (z41 j))(hc:X.calm=true:=by rfl):PG X (.Tuple [.Name x px,.Name y py] kt pos) (xT2 X.K i j) :=
 zlp (zl8 hc (z63 h1 (z63 h2 zhf))) λv σ H Q h=>by
  unfold xT2 at h
  split at h
  ·obtain⟨u,w,h1,h2⟩:=h;exact⟨_,_,rfl,h1,rfl,_,_,rfl,_,_,rfl,rfl,h2⟩
  ·exact h.elim
theorem zqy {x y z:Str}{px py pz:Pos}{kt:Nat}{i j k:Nat}(h1:PG X (.Name x px) (z41 i))(h2:PG X (.Name y py) (z41 j))(h3:PG X (.Name z pz) (z41 k))(hc:X.calm=true:=by rfl):PG X (.Tuple [.Name x px,.Name y py,.Name z pz] kt pos) (xT3 X.K i j k) :=
 zlp (zl8 hc (z63 h1 (z63 h2 (z63 h3 zhf)))) λv σ H Q h=>by
  unfold xT3 at h
  split at h
  ·obtain⟨u,w,r,h1,h2⟩:=h;exact⟨_,_,rfl,h1,rfl,_,_,rfl,_,_,rfl,_,_,rfl,rfl,h2⟩
  ·exact h.elim
theorem z0d (i:Nat){x:Str}{e:Expr}{te:TE}{bU:Pos}(hN:X.N.Nodup)(he:PE X e te)(hi:X.N[i]?=some x:=by rfl)(hx:Loc X.env.scope x:=by first | exact y77 rfl | exact y70 rfl)(hs:swapsWith e (some (.Name x bU)) pos.line X.env=pure false:=by rfl)
  (hf:X.fn x=true∨X.env.scope.names.lookup x=some .local:=by first | exact .inl rfl | exact .inr rfl):PS X (.Assign [.Name x bU] e pos) (zkz te (z41 i)):=zop hN hi hx he hs hf
def zqe (i j:Nat)(ta:TA)(D:Ends)(σ:St)(H:Hp):Prop:=ta σ H λvs H1=>match vs with
 | [v,w]=>D.nx ((σ.set i (some v)).set j (some w)) H1
 | _=>False
end
end L2.EX
namespace L2.EX
open PySem PySem.Spec PyProof.Rows
theorem zbr:bootBuiltins "abs"=some (.builtin "abs"):=by decide +kernel
theorem zlh:bootBuiltins "min"=some (.builtin "min"):=by decide +kernel
theorem zoi:bootBuiltins "sum"=some (.builtin "sum"):=by decide +kernel
theorem zl0:bootBuiltins "any"=some (.builtin "any"):=by decide +kernel
theorem z21:bootBuiltins "isinstance"=some (.builtin "isinstance"):=by decide +kernel
theorem zlc:bootBuiltins "int"=some (.type "int"):=by decide +kernel
theorem zfv:bootBuiltins "bool"=some (.type "bool"):=by decide +kernel
theorem z5n:bootBuiltins "list"=some (.type "list"):=by decide +kernel
theorem zdy:bootBuiltins "tuple"=some (.type "tuple"):=by decide +kernel
theorem zmc:bootBuiltins "dict"=some (.type "dict"):=by decide +kernel
theorem zaw:bootBuiltins "enumerate"=some (.type "enumerate"):=by decide +kernel
theorem zom:bootBuiltins "zip"=some (.type "zip"):=by decide +kernel
section
variable {X:Cx}{x:Str}{p pos:Pos}{e:Expr}{es:List Expr}{t:TA}{id T:String}{r:List V->Hp->VK->Prop}
theorem z45 (hc:z4l X (.builtin id) r)(hm:X.mg x=none)(hv:bootBuiltins x=some (.builtin id))(ha:PA X (e::es) t)(hg:Gl X x:=by rfl)(hn:x ≠ "__name__":=by decide)(hdb:(x==("__debug__":Str))=false:=by decide)
  (he:starEach (e::es) X.env=(false,eval e X.env)::starEach es X.env:=by rfl) (hpl:(backTo pos (starEach es X.env)).any (·.1)=false:=by rfl):PE X (.Call (.Name x p) (e::es) [] pos) (tCB r t):=zjx hc hg hm hv ha hn hdb he hpl
theorem znq (hc:z4l X (.type T) r)(hm:X.mg x=none)(hv:bootBuiltins x=some (.type T))(ha:PA X (e::es) t)(hg:Gl X x:=by rfl)(hn:x ≠ "__name__":=by decide)(hdb:(x==("__debug__":Str))=false:=by decide)
  (he:starEach (e::es) X.env=(false,eval e X.env)::starEach es X.env:=by rfl) (hpl:(backTo pos (starEach es X.env)).any (·.1)=false:=by rfl):PE X (.Call (.Name x p) (e::es) [] pos) (tCB r t):=zhe hc hg hm hv ha hn hdb he hpl
theorem zcz (hm:X.mg x=none)(hv:bootBuiltins x=some (.type T))(hg:Gl X x:=by rfl)(hn:x ≠ "__name__":=by decide)(hd:(x==("__debug__":Str))=false:=by decide):PE X (.Name x pos) (tC (.ty T)):=zlv hg hm hv rfl hn hd
theorem z6y {es:List Expr}{t:TA}(h:PA X es t):PA X es (fun σ H Q=>∃R,t σ H R/\∀vs H1,R vs H1->Q vs H1):=by
 intro pos aa s σ H Q I hw;obtain⟨R,h1,h2⟩:=hw;refine thn (h pos aa s σ H R I h1) λus s1 hq=>?_;obtain⟨vs,H1,I1,r,q⟩:=hq;exact⟨vs,H1,I1,r,h2 _ _ q⟩
theorem z2d {e:Expr}{t:TE}(h:PE X e t):PE X e (fun σ H Q=>∃R,t σ H R/\∀v H1,R v H1->Q v H1):=by
 intro aa s σ H Q I hw;obtain⟨R,h1,h2⟩:=hw;refine thn (h aa s σ H R I h1) λus s1 hq=>?_;obtain⟨v,H1,I1,r,q⟩:=hq;exact⟨v,H1,I1,r,h2 _ _ q⟩
theorem zot (i j:Nat){y:Str}{a b:Expr}{ta:TA}{px py pt:Pos}{kt k2 pt2}(hN:X.N.Nodup)(ha:PA X [a,b] ta)(hi:X.N[i]?=some x:=by rfl)(hj:X.N[j]?=some y:=by rfl)(hij:i≠j:=by decide)
  (hx:X.env.scope.names.lookup x=some .local:=by rfl) (hy:X.env.scope.names.lookup y=some .local:=by rfl)
  (hw:swappedStores [.Tuple [.Name x px,.Name y py] kt pt] (.Tuple [a,b] k2 pt2) X.env=pure (some [x,y]):=by with_unfolding_all rfl)
  (hs:swapsWithSole [.Tuple [.Name x px,.Name y py] kt pt] (.Tuple [a,b] k2 pt2) pos.line X.env=pure false:=by rfl) (hc:X.calm=true:=by rfl) :
  PS X (.Assign [.Tuple [.Name x px,.Name y py] kt pt] (.Tuple [a,b] k2 pt2) pos) (zqe i j ta) :=
 zl9 (zol hc hN hi hj hij hx hy (z6y ha) hw hs) λD σ H h=>⟨_,h,λvs H1 q=>by
  split at q
  ·exact⟨_,_,rfl,q⟩
  ·exact q.elim⟩
end
theorem z5i {i j:Int}{m n:Nat}(hi:Bd m i)(hj:Bd n j)(h:m+n≤134217728):IntMulOk i j:=IntMulOk.of_le (intBits_le_iff.mpr hi) (intBits_le_iff.mpr hj) h
theorem zle {j:Int}{n:Nat}(h:Bd n j)(hn:n≤9000)(h0:j≠0):j.natAbs.log2<9000:=by
 have h1:j.natAbs<2^n:=h;have h2:j.natAbs.log2<n:=(Nat.log2_lt (by omega)).mpr h1
 omega
theorem Bd.le {i:Int}{m n:Nat}(h:Bd m i)(k:m≤n):Bd n i:=y0p h (y3s (by decide) k)
theorem sz {n:Nat}(h:n≤1000):n≤sizeLine:=y4f (z0h h)
def zf0 (K:y03):Sp:=λvs H Q _=>∃(a:Addr) (ns:List Int),vs = [.ref a]/\SqL K H a (ns.map V.int)/\ns.length≤63/\∀H',Q (.bl true) H'
theorem z1f {K:y03}{mg:Str->Option Value}{h:Heap}{x:Str}{st:Stmt}{ps:List Str}{f:Addr}{oc:Value}{od an:Option Addr}{osl:Array (Option Value)}{kV doc pm cdv ct:Value}(X:K.In h)(G:h.Ns mainGlobals mg)
  (a:y0k K mainGlobals x=some (some (.ref f))) (l:K.lookup f=some ⟨oc,od,.func (y0j x x (z0g st) (z0e st) (z04 st) .none kV doc pm an cdv ct),osl⟩)
  (c:y0i K cdv x=true) (k:y0g K (.ref f)=true)
  (b:∀(kV doc pm:Value) (an:Option Addr) (cdv ct:Value) (us:List Value),us.length=ps.length->bindArgs (y0j x x (z0g st) (z0e st) (z04 st) .none kV doc pm an cdv ct) ⟨us,[]⟩=pure (ps.zip us)):Top K mg x st ps :=
 ⟨f,_,z1r l c k,(z1r l c k).binds b,y6g X G a⟩
theorem zpl {l:y4u}{w:World}{K:y03}{mg:Str->Option Value}{h:Heap}{st:Stmt}{fa f:Addr}{k:Nat}{oc:Value}{od an:Option Addr}{osl:Array (Option Value)}{kV doc pm cdv ct:Value}(X:K.In h)(G:h.Ns mainGlobals mg)
  (hfa:mg "law"=some (.ref fa)) (a:y0k K mainGlobals "law"=some (some (.ref f))) (lk:K.lookup f=some ⟨oc,od,.func (y0j "law" "law" (z0g st) (z0e st) (z04 st) .none kV doc pm an cdv ct),osl⟩)
  (c:y0i K cdv "law"=true) (kp:y0g K (.ref f)=true)
  (b:∀(s:Shared) (v:Value),BindsTo s (y0j "law" "law" (z0g st) (z0e st) (z04 st) .none kV doc pm an cdv ct) ⟨[v],[]⟩ [("_law_script",v)])
  (D:∀(f:Addr) (fd:FuncData),Fun K "law" "law" st f fd->∀base:Heap,FnOk l.prog w K mg base CX0 k f fd ["_law_script"] (zf0 K)) :
  ∃fd:FuncData,(∀(s:Shared) (v:Value),BindsTo s fd ⟨[v],[]⟩ [("_law_script",v)])/\∀base:Heap,K.In base->base.Ns mainGlobals mg->FnOk l.prog w K mg base CX0 k fa fd ["_law_script"] (zf0 K):=by
 have e:=hfa.symm.trans (y6g X G a);cases e;exact⟨_,b,λbase _ _=>D _ _ (z1r lk c kp) base⟩
theorem walk {l:y4u}{q:Program}{cj:List Str}{XP:(Str->Option Value)->Heap->Prop}{YP:World->Heap->Prop}{d:DefRec}{K:Params->y03}(k:Nat)(hn:l.most=some 63)(hdf:d.params.defaults = [])(hr:Room k callerA)
  (hY:∀(w:World) (h:Heap),YP w h->(K w.params).In h)
  (F:∀(w:World) (mg:Str->Option Value) (fa:Addr) (h:Heap),(K w.params).In h->h.Ns mainGlobals mg->mg d.name=some (.ref fa) ->
   ∃fd:FuncData,(∀(s:Shared) (u:Value),BindsTo s fd ⟨[u],[]⟩ [("_law_script",u)])/\∀base:Heap,(K w.params).In base->base.Ns mainGlobals mg->FnOk l.prog w (K w.params) mg base CX0 k fa fd ["_law_script"] (zf0 (K w.params))) :
  y7k q cj XP YP l.row.toRowW d [] (λf vs=>y7h f vs) :=
 L2.walk_of (n:=63) (k:=k) (x:="_law_script") (CX:=λ_=>CX0) (sp:=λw=>zf0 (K w.params)) hn (by decide) hdf hr hY F (λ_ _ a ns hl _ hS=>⟨a,ns,rfl,hS,hl,λ_=>rfl⟩) λ_ _ _ _ _ z=>z
end L2.EX
namespace L2.EX
open PySem PySem.Spec PyProof.Rows
theorem zhi {env:Env}:∀(ns:List (Str×NameKind)) (acc:List (Str×Addr)),(∀y∈ns,y.2 = .free->∃c,env.cells.lookup y.1=some c)->(∀x c,acc.lookup x=some c->env.cells.lookup x=some c) ->
  ∃cl:List (Str×Addr),(forIn ns acc (λ(x:Str×NameKind) (r:List (Str×Addr))=>match x with | (name,kind)=>if (kind==NameKind.free)=true then do let c ←cellOf env name;pure (ForInStep.yield ((name,c)::r)) else pure (ForInStep.yield r)):Sem (List (Str×Addr)))=pure cl /\
   (∀x c,cl.lookup x=some c->env.cells.lookup x=some c)/\(∀x c,acc.lookup x=some c->∃c',cl.lookup x=some c')/\∀y∈ns,y.2 = .free->∃c,cl.lookup y.1=some c
 | [],acc,_,h2=>⟨acc,rfl,h2,λx c e=>⟨c,e⟩,λy hy=>nomatch hy⟩
 | (n,k)::r,acc,h1,h2=>by
  have h1':∀y∈r,y.2 = .free->∃c,env.cells.lookup y.1=some c:=λy hy=>h1 y (y0b _ hy)
  by_cases hk:k = .free
  ·subst hk;obtain⟨c,hc⟩:=h1 (n,.free) y0h rfl;have hc':env.cells.lookup n=some c:=hc;have h2':∀x d,((n,c)::acc).lookup x=some d->env.cells.lookup x=some d:=λx d e=>by
    rw[y1o] at e;cases hx:x==n with
    | true =>
     rw[hx] at e;cases e;rw[beq_iff_eq.mp hx];exact hc'
    | false =>
     rw[hx] at e;exact h2 x d e
   obtain⟨cl,e,a,b,d⟩:=zhi r ((n,c)::acc) h1' h2';have kp:∀x c',acc.lookup x=some c'->∃c'',((n,c)::acc).lookup x=some c'':=λx c' q=>by
    rw[y1o];cases hx:x==n with
    | true=>exact⟨c,rfl⟩
    | false=>exact⟨c',q⟩
   refine⟨cl,?_,a,λx c' q=>let ⟨c'',q'⟩:=kp x c' q;b x c'' q',λy hy hf=>?_⟩
   ·rw[y5x];have ec:cellOf env n=pure c:=by unfold cellOf;rw[hc']
    simp only[beq_self_eq_true,if_true,ec,pure_bind];exact e
   ·rcases y0m.mp hy with rfl | hy
    ·exact b n c (by rw[y1o];simp)
    ·exact d y hy hf
  ·have hb:(k==NameKind.free)=false:=by simpa using hk
   obtain⟨cl,e,a,b,d⟩:=zhi r acc h1' h2;refine⟨cl,?_,a,b,λy hy hf=>?_⟩
   ·rw[y5x];simp only[hb,y3e,if_false,pure_bind];exact e
   ·rcases y0m.mp hy with rfl | hy
    ·exact absurd hf hk
    ·exact d y hy hf
theorem zfo {scope:Scope}{env:Env}(h:∀y∈scope.names,y.2 = .free->∃c,env.cells.lookup y.1=some c) :
  ∃cl,closureFor scope env=pure cl/\(∀x c,cl.lookup x=some c->env.cells.lookup x=some c)/\∀y∈scope.names,y.2 = .free->∃c,cl.lookup y.1=some c:=by
 obtain⟨cl,e,a,_,d⟩:=zhi scope.names [] h (λx c e=>by simp at e)
 refine⟨cl,?_,a,d⟩;unfold closureFor;exact(congrArg (· >>= pure) e).trans (pure_bind _ _)
section
variable {prog:Program}{w:World}{A:Around}{R:Result->Shared->Prop}{s:Shared}
abbrev NoE:Value->Shared->Prop:=λ_ _=>False
theorem zi9 {elt bS iter:Expr}{ifs:List Expr}{scope:Scope}{pos:Pos}{it acc:Value}{env:Env}(J:Nat->Shared->Prop)
  (turn:∀n s,J n s->wpAny (model prog w) A (pyNext it) (λr s₁=>match r with
   | none=>R (.ok .next) s₁
   | some v=>wpAny (model prog w) A (letOwnedTupleGo bS it v) (λ_ s₂=>wpAny (model prog w) A (assign bS env v) (λ_ s₃ =>
     wpAny (model prog w) A (forIn ifs true λc r=>if r=true then do let ok ←isTrue c env (eval c env);pure (ForInStep.yield ok) else pure (ForInStep.yield r)) (λok s₄ =>
      if ok=true then wpAny (model prog w) A (eval elt env) (λx s₅=>wpAny (model prog w) A (call (.builtin "list.append") [acc,x]) (λ_ s₆=>∃m,m<n/\J m s₆) NoE s₅) NoE s₄
      else ∃m,m<n/\J m s₄) NoE s₃) NoE s₂) NoE s₁) NoE s)
  (n:Nat) (h:J n s):codeAny (model prog w) A (.compLoop (.ListComp elt [⟨bS,iter,ifs,0⟩] scope pos) 0 it acc env) R s:=by
 refine codeAny_loop rfl J (λn s hJ=>?_) n h;refine wpAny_noted (m:=compTurn (.ListComp elt [⟨bS,iter,ifs,0⟩] scope pos) 0 it acc env) ?_;rw[compTurn_list];refine wpAny_bind (wpAny_standAt (wpAny_bind (wpAny_mono (turn n s hJ) (λr s₁ h₁=>?_) λ_ _ z=>z.elim)));cases r with
 | none=>exact wpAny_pure h₁
 | some v =>
  refine wpAny_bind (wpAny_mono h₁ (λ_ s₂ h₂=>?_) λ_ _ z=>z.elim);refine wpAny_bind (wpAny_mono h₂ (λ_ s₃ h₃=>?_) λ_ _ z=>z.elim);refine wpAny_bind (wpAny_mono h₃ (λok s₄ h₄=>?_) λ_ _ z=>z.elim);cases ok with
  | false=>exact wpAny_pure ⟨rfl,h₄⟩
  | true =>
   refine wpAny_bind (wpAny_bind (wpAny_mono h₄ (λx s₅ h₅=>?_) λ_ _ z=>z.elim));exact wpAny_bind (wpAny_mono h₅ (λ_ s₆ h₆=>wpAny_pure (wpAny_pure ⟨rfl,h₆⟩)) λ_ _ z=>z.elim)
end
theorem z6s {env:Env}{x:Str}{k':NameKind}:∀{names:List (Str×NameKind)},(names.map λ(n,k)=>if (k==NameKind.free&&env.scope.kind == .function&&env.kindOf n==some .cell) then (n,NameKind.cell) else (n,k)).lookup x=some k' ->
  ∃k,names.lookup x=some k/\(k'=k∨(k = .free/\k' = .cell))
 | [],h=>nomatch h
 | (n,k)::r,h=>by
  have ih:=@z6s env x k' r;rw[y0n] at h;cases hx:x==n with
  | true =>
   refine⟨k,by simp[y1o,hx],?_⟩
   by_cases hc:(k==NameKind.free&&env.scope.kind == .function&&env.kindOf n==some .cell)=true
   ·have h':some NameKind.cell=some k':=by simpa [hc,y1o,hx] using h
    rw[y1h,y1h] at hc;exact .inr ⟨beq_iff_eq.mp hc.1.1,(y11 h').symm⟩
   ·have h':some k=some k':=by simpa [hc,y1o,hx] using h
    exact .inl (y11 h').symm
  | false =>
   have h':(r.map λ(n,k)=>if (k==NameKind.free&&env.scope.kind == .function&&env.kindOf n==some .cell) then (n,NameKind.cell) else (n,k)).lookup x=some k':=by
    by_cases hc:(k==NameKind.free&&env.scope.kind == .function&&env.kindOf n==some .cell)=true
    ·simpa [hc,y1o,hx] using h
    ·simpa [hc,y1o,hx] using h
   obtain⟨k1,e1,e2⟩:=ih h';exact⟨k1,by simp[y1o,hx,e1],e2⟩
theorem zbi {env:Env}{x:Str}{names:List (Str×NameKind)}(h:names.lookup x=some .free) :
  (names.map λ(n,k)=>if (k==NameKind.free&&env.scope.kind == .function&&env.kindOf n==some .cell) then (n,NameKind.cell) else (n,k)).lookup x=some .cell ∨
  (names.map λ(n,k)=>if (k==NameKind.free&&env.scope.kind == .function&&env.kindOf n==some .cell) then (n,NameKind.cell) else (n,k)).lookup x=some .free:=by
 induction names with
 | nil=>exact nomatch h
 | cons p r ih =>
  obtain⟨n,k⟩:=p;rw[y0n];cases hx:x==n with
  | true =>
   have hk:k = .free:=by simpa [y1o,hx] using h
   subst hk;have go:∀c:Bool,(((if c=true then (n,NameKind.cell) else (n,NameKind.free))::(r.map λ(n,k)=>if (k==NameKind.free&&env.scope.kind == .function&&env.kindOf n==some .cell) then (n,NameKind.cell) else (n,k))).lookup x=some .cell) ∨
     (((if c=true then (n,NameKind.cell) else (n,NameKind.free))::(r.map λ(n,k)=>if (k==NameKind.free&&env.scope.kind == .function&&env.kindOf n==some .cell) then (n,NameKind.cell) else (n,k))).lookup x=some .free):=λc=>by
    cases c
    ·right;simp[y1o,hx]
    ·left;simp[y1o,hx]
   exact go _
  | false =>
   have ih':=ih (by simpa [y1o,hx] using h)
   by_cases hc:(k==NameKind.free&&env.scope.kind == .function&&env.kindOf n==some .cell)=true
   ·simpa [hc,y1o,hx] using ih'
   ·simpa [hc,y1o,hx] using ih'
structure CC where
 cl:List (Str×Addr)
 C:Addr
 s:Shared
 H:Hp
 ex:List Addr
def z0v (X:Cx)(scope:Scope)(N:List Str)(c:CC):Cx where
 prog:=X.prog
 w:=X.w
 K:=X.K
 mg:=X.mg
 base:=X.base
 A:=X.A
 N:=N
 s₀:=c.s
 H₀:=c.H
 env:=compEnvC scope c.cl c.C X.env
 outer:=X.stack
 stack:=X.stack
 ex:=c.ex
 fn:=λ_=>false
 calm:=X.calm
 pn:=[]
 xe:=λ_ _=>False
def z4x (J:It)(g:TG)(tt:TT)(te:TE)(σ0:St)(Q:VK)(H:Hp):Prop:=∃W:Nat->Nat->List V->Hp->Prop,(∃m,W 0 m [] H)/\∀i m ys H,W i m ys H ->
 (J.stop i H/\ys.length≤sizeLine/\∀l,H l=none->Q (.ref l) (upd H l (.lst ys))) ∨
 (J.go i H/\ys.length<sizeLine/\∀x H',J.yld i H x H'->g x σ0 H' fun σ2 H2=>tt σ2 H2 λb H3=>if b=true then te σ2 H3 λy H4=>∃m',m'<m/\W (i+1) m' (ys ++ [y]) H4 else ∃m',m'<m/\W (i+1) m' ys H3)
def za9 (wi:TI)(n:Nat)(fr:List Nat)(g:TG)(tt:TT)(te:TE)(σ:St)(H:Hp)(Q:VK):Prop:=wi σ H λJ H1=>z4x J g tt te (y08 n none++fr.map (sg σ)) Q H1
def FreeIn (env:Env):List Str->Prop
 | []=>True
 | x::r=>(env.kindOf x=some .cell∨env.kindOf x=some .free)/\FreeIn env r
theorem FreeIn.mem {env:Env}{x:Str}:∀{l:List Str},FreeIn env l->x∈l->env.kindOf x=some .cell∨env.kindOf x=some .free
 | _::_,h,hx=>by
  rcases y0m.mp hx with rfl | hx
  ·exact h.1
  ·exact FreeIn.mem h.2 hx
theorem zp4 {X:Cx}{aa:List (Addr×Obj)}{σ:St}{H:Hp}{s:Shared}{l:Addr}{o:HO}(I:Inv X aa σ H s)(hn:H l=none)(h1:X.s₀.heap.objs.size≤l)(hL:l≠X.env.locals)(h2:∀x c,X.env.cells.lookup x=some c->c≠l)(h3:∀p∈X.pn++aa,p.1≠l)
  (new:ObjOk X.prog X.w (upd H l o) s.heap l o):Inv X aa σ (upd H l o) s:=by
 have old:∀b u,H b=some u->upd H l o b=some u:=λb u e=>by rw[z0a (z08 e hn)];exact e
 refine⟨I.ok,I.os,I.bare,⟨I.base.keep,I.base.slot,λb o' e n hx=>?_,I.base.there,λb xs e=>old b _ (I.base.tups b xs e),λb o' u e=>old b _ (I.base.frzs b o' u e),λb ps e=>?_⟩,I.loc,I.cell,?_,λx c e=>?_,λp hp=>?_,λb u e=>?_,I.len⟩
 ·rw[z0a (y0t (y0p (Heap.lt_size e) h1))];exact I.base.free b o' e n hx
 ·obtain⟨more,q⟩:=I.base.tbls b ps e;exact⟨more,old b _ q⟩
 ·rw[z0a (Ne.symm hL)];exact I.free
 ·rw[z0a (h2 x c e)];exact I.freeC x c e
 ·obtain⟨e,n,r⟩:=I.pin p hp;exact⟨e,by rw[z0a (h3 p hp)];exact n,r⟩
 ·by_cases hb:b=l
  ·subst hb;rw[z01] at e;cases e;exact new
  ·rw[z0a hb] at e;exact(I.hok b u e).stay (λ_ _ _ q=>q) (λc q=>old c _ q) λc xs q=>old c _ q
def GOk (n:Nat)(g:TG):Prop:=∀x σ H Q,g x σ H Q->g x σ H fun σ2 H2=>(∀i,n≤i->σ2[i]? = σ[i]?)/\Q σ2 H2
theorem z7r {n i:Nat}(h:i<n):GOk n (z41 i):=λx σ H Q q=>⟨λj hj=>y10 (by omega),q⟩
theorem zdt {n i j:Nat}{K:y03}(h1:i<n)(h2:j<n):GOk n (xT2 K i j):=λx σ H Q q=>by
 unfold xT2 at q ⊢
 split at q
 ·obtain⟨u,v,q1,q2⟩:=q;exact⟨u,v,q1,λk hk=>by rw[y10 (by omega),y10 (by omega)],q2⟩
 ·exact q.elim
section
variable {X:Cx}
theorem zjl {scope:Scope}{N:List Str}{fr:List Nat}{n:Nat}{cl:List (Str×Addr)}{aa:List (Addr×Obj)}{σ:St}{H:Hp}{s:Shared}{C:Addr}{h₁:Heap}{m:Str->Option Value}{fp:List Addr}{tk:Nat}
  (I:Inv X aa σ H s) (hf:∀b∈fp,zhj X aa H b) (hfl:∀b∈fp,b<s.heap.objs.size) (hC:s.heap.objs.size≤C) (old:∀b o,s.heap.get? b=some o->h₁.get? b=some o) (hns:h₁.Ns C m)
  (hn:N.length=n+fr.length) (hfr:fr.map (λi=>X.N[i]?)=(N.drop n).map some) (hsc:∀x∈N.drop n,scope.names.lookup x=some .free)
  (aW:scope.kind = .function) (aR:∀y∈scope.names,y.2 ≠ .cell) (hF:FreeIn X.env ((scope.names.filter λy=>y.2 == .free).map (·.1)))
  (cl1:∀x c,cl.lookup x=some c->X.env.cells.lookup x=some c) (cl2:∀y∈scope.names,y.2 = .free->∃c,cl.lookup y.1=some c) :
  Inv (z0v X scope N ⟨cl,C,s,H,fp⟩) (X.pn++aa) (y08 n none++fr.map (sg σ)) H { s with heap:=h₁,toks:=tk }:=by
 have freeAt:∀x,scope.names.lookup x=some .free->X.env.kindOf x=some .cell∨X.env.kindOf x=some .free:=λx e =>
  hF.mem (y1i.mpr ⟨(x,.free),y12.mpr ⟨y23 e,rfl⟩,rfl⟩)
 have kinds:∀x,((relabel scope X.env).names.lookup x=some .cell∨(relabel scope X.env).names.lookup x=some .free)->scope.names.lookup x=some .free:=λx hx=>by
  rcases hx with hx | hx
  ·obtain⟨k,e,z⟩:=z6s (env:=X.env) hx;rcases z with z | ⟨z,_⟩
   ·subst z;exact absurd rfl (aR _ (y23 e))
   ·subst z;exact e
  ·obtain⟨k,e,z⟩:=z6s (env:=X.env) hx;rcases z with z | ⟨z,z'⟩
   ·subst z;exact e
   ·cases z'
 have fsX:∀b,b≠X.env.locals->b ∉ X.fs->b ∉ frs X.stack:=λb h1 h2 z=>(y0m.mp (I.stkSub b z)).elim h1 h2;refine⟨⟨I.ok.mod,aW,I.ok.glob,I.ok.blt,hC,λx y c h1 h2=>I.ok.inj x y c (cl1 x c h1) (cl1 y c h2),λx hx=>?_,λx c hx=>absurd hx (by simp[z0v]),I.ok.hd,I.ok.frames,.inl rfl,λb hb=>⟨?_,λx c e=>(hf b hb).2.2.2.2.1 x c (cl1 x c e)⟩,I.bs,y13 I.ok.bsz I.sz,λb o e hb=>?_,λb hb=>fsX b (hf b hb).2.1 (hf b hb).2.2.1,I.stack,I.stkFree⟩,
  rfl,I.bare,Un.kept old,⟨m,hns,λi x v e1 e2 e3=>?_⟩,λx c e=>?_,I.hok.fresh hC,λx c e=>I.freeC x c (cl1 x c e),λp hp=>?_,I.hok.kept old,?_⟩
 ·obtain⟨c,e⟩:=cl2 (x,.free) (y23 (kinds x hx)) rfl;exact⟨c,e⟩
 ·exact y0t (y0p (hfl b hb) hC)
 ·rcases (hf b hb).2.2.2.1 with z | z
  ·exact I.ok.noex b o e z
  ·exact absurd (y0p (Heap.lt_size e) (y13 I.ok.bsz z)) (y2v _)
 ·-- a slot of the block's frame that is known: one of the free names
  have hi:n≤i:=by
   rcases y3x i n with z | z
   ·rw[y0u (by simpa using z),y1a,if_pos z] at e2
    cases e2
   ·exact z
  rw[y17 (by simpa using hi),y1m,y05] at e2
  obtain⟨j,ej,e2'⟩:=y2r.mp e2;have ex:X.N[j]?=some x:=by
   have q:=congrArg (λl=>l[i - n]?) hfr;simp only[y05,ej,y78,y56] at q;have e1':N[n+(i - n)]?=some x:=by rw[show n+(i - n)=i by omega];exact e1
   rw[e1'] at q;simpa using q
  have hx:scope.names.lookup x=some .free:=hsc x (by
   have e1':N[n+(i - n)]?=some x:=by rw[show n+(i - n)=i by omega];exact e1
   rw[←y56] at e1';exact y02 e1')
  obtain⟨m',_,hl⟩:=I.loc;have hv:Vis X.env.scope x:=by
   rcases freeAt x hx with z | z
   ·exact .inr (.inl z)
   ·exact .inr (.inr z)
  obtain⟨u,r,lk⟩:=hl j x v ex (zn6 e2') hv;refine⟨u,r,.inr ⟨?_,?_⟩⟩
  ·rcases zbi (env:=X.env) hx with z | z
   ·exact .inl z
   ·exact .inr z
  ·obtain⟨c,ec⟩:=cl2 (x,.free) (y23 hx) rfl;rcases lk with ⟨z,_⟩ | ⟨_,c',ec',o,ho,hd⟩
   ·rcases freeAt x hx with y | y
    ·rw[y] at z;cases z
    ·rw[y] at z;cases z
   ·have q:=cl1 x c ec;rw[ec'] at q;cases q;exact⟨c,ec,o,old _ _ ho,hd⟩
 ·obtain⟨v,o,ho,hd⟩:=I.cell x c (cl1 x c e);exact⟨v,o,old _ _ ho,hd⟩
 ·have hp':p∈X.pn++aa:=by simpa [z0v] using hp
  obtain⟨e,z,ne,nf,d⟩:=I.pin p hp';exact⟨old _ _ e,z,y0t (y0p (Heap.lt_size e) hC),fsX _ ne nf,d⟩
 ·show _=N.length;rw[y0c,y1m,y04,hn]
end
end L2.EX
namespace L2.EX
open PySem PySem.Spec PyProof.Rows
section
variable {X:Cx}
theorem zaq {elt tg iter:Expr}{ifs:List Expr}{scope:Scope}{pos pos1:Pos}{N:List Str}{fr:List Nat}{wi:TI}{g:TG}{tt:TT}{te:TE}{use:Option (Value->Sem Unit)}{QQ:Value->Shared->Prop}{aa:List (Addr×Obj)}{σ:St}{H:Hp}{s:Shared}{Q:VK}(n:Nat)
  (I:Inv X aa σ H s) (h:za9 wi n fr g tt te σ H Q)
  (hend:∀(s6:Shared) (H6:Hp) (l C:Addr) (oC:Obj) (mC:Str->Option Value),Inv X aa σ H6 s6->Q (.ref l) H6->s6.heap.get? C=some oC->LCg.NsObj oC mC->zhj X aa H6 C->compPost (model X.prog X.w) X.A X.xe use QQ (.ref l) C (.ok .next) s6)
  (hi:PI X tg iter wi) (hg:∀c:CC,PG (z0v X scope N c) tg g) (hgk:GOk n g)
  (ht:∀(c:CC) (aa:List (Addr×Obj)) (s:Shared) (σ:St) (H:Hp) (Q:Bool->Hp->Prop),Inv (z0v X scope N c) aa σ H s->tt σ H Q ->
   wpAny (model X.prog X.w) X.A (forIn ifs true λc' r=>if r=true then do let ok ←isTrue c' (compEnvC scope c.cl c.C X.env) (eval c' (compEnvC scope c.cl c.C X.env));pure (ForInStep.yield ok) else pure (ForInStep.yield r)) (TP (z0v X scope N c) aa σ Q) NoE s)
  (he:∀c:CC,PE (z0v X scope N c) elt te) (hn:N.length=n+fr.length)
  (hfr:fr.map (λi=>X.N[i]?)=(N.drop n).map some) (hsc:∀x∈N.drop n,scope.names.lookup x=some .free)
  (hF:FreeIn X.env ((scope.names.filter λy=>y.2 == .free).map (·.1)))
  (aW:scope.kind = .function) (aR:∀y∈scope.names,y.2 ≠ .cell) (aZ:∀y∈scope.names,y.2 = .local->scope.names.lookup y.1=some .local) (bu:X.calm=true)
  (hs:∀x,foldedSetIterable iter X.env x=pure x):wpAny (model X.prog X.w) X.A (comprehension (.ListComp elt [⟨tg,iter,ifs,0⟩] scope pos) scope X.env pos1 (newList []) false (eval iter X.env) use) QQ X.xe s:=by
 have hcl0:∀y∈scope.names,y.2 = .free->∃c,X.env.cells.lookup y.1=some c:=λy hy hf=>I.ok.has y.1 (hF.mem (y1i.mpr ⟨y,y12.mpr ⟨hy,by rw[hf];rfl⟩,rfl⟩))
 obtain⟨cl,ecl,cl1,cl2⟩:=zfo hcl0;refine wpAny_comprehension_free (use:=use) rfl hs ecl aW aZ (thn (hi aa s σ H _ I h) λv s1 h1=>thn h1 λitv s2 h2=>?_);obtain⟨it,fp,tn,J,H2,rfl,I2,T,st2,f2,W,⟨m0,w0⟩,turn⟩:=h2;have hfl:∀b∈fp,b<s2.heap.objs.size:=λb hb=>let ⟨o,e,_⟩:=T.obj _ _ st2 b hb;Heap.lt_size e
 refine wpAny_newObj_type (wpAny_newFunctionEnv aR (by intro y hy;simp at hy) (λh₁ hns₁ hsb₁=>?_) aW)
 dsimp only at hns₁ hsb₁ ⊢
 generalize hH2:s2.heap.push { cls:=.type "list",dict:=none,data:=.seq ([]:List Value).toArray }=HA at hns₁ hsb₁ ⊢
 have hC:HA.objs.size=s2.heap.objs.size+1:=by rw[←hH2,Heap.size_push]
 have hlC:s2.heap.objs.size≠HA.objs.size:=by rw[hC];exact y0t (y38 _)
 have hCle:s2.heap.objs.size≤HA.objs.size:=by rw[hC];exact y5m _
 have old:∀b o,s2.heap.get? b=some o->h₁.get? b=some o:=λb o e =>
  hsb₁.extBut b o (by rw[hC];exact y0t (y4c (Heap.lt_size e))) (Heap.get?_push_of_some _ (hH2▸Heap.get?_push_of_some _ e))
 have hacc:h₁.PlainList s2.heap.objs.size #[]:=⟨_,hsb₁.extBut _ _ hlC (Heap.get?_push_of_some _ (hH2▸Heap.get?_push_size _ rfl))⟩;generalize hl:s2.heap.objs.size=l at hacc hlC;generalize hCe:HA.objs.size=C at hns₁ hsb₁ hlC hCle;have hCl:s2.heap.objs.size≤C:=hCle
 have hll:s2.heap.objs.size≤l:=y6z hl
 let cc:CC:=⟨cl,C,s2,H2,fp⟩
 let σ0:St:=y08 n none++fr.map (sg σ)
 have I3:Inv (z0v X scope N cc) (X.pn++aa) σ0 H2 { s2 with heap:=h₁,toks:=s2.toks+([]:List (Str×Value)).length }:=zjl I2 f2 hfl hCl old hns₁ hn hfr hsc aW aR hF cl1 cl2
 have lfp:l ∉ fp:=λz=>absurd (hfl l z) (y7i.mpr hll);have lpin:∀p∈X.pn++aa,p.1≠l:=λp hp=>by
  rw[←hl];exact y0t (Heap.lt_size (I2.pin p hp).1)
 have lcell:∀x c,cl.lookup x=some c->c≠l:=λx c e=>by
  obtain⟨v,q⟩:=I2.cell x c (cl1 x c e);rw[←hl];exact y0t q.lt
 have lfs:l ∉ frs X.stack:=λz=>by
  rcases y0m.mp (I2.stkSub l z) with z | z
  ·rw[z] at hll;exact absurd I2.lt (y7i.mpr hll)
  ·exact I2.nofs hll z
 have fsX:∀b∈fp,b ∉ frs X.stack:=λb hb z=>(y0m.mp (I2.stkSub b z)).elim (f2 b hb).2.1 (f2 b hb).2.2.1;have stat:∀{H':Hp} {more:List (Addr×Obj)},(∀b∈fp,H' b=none)->(∀p∈more,p.1=l)->∀b∈fp,zhj (z0v X scope N cc) (X.pn++aa++more) H' b:=λ{H' more} hz hm b hb =>
  ⟨hz b hb,y0t (y0p (hfl b hb) hCl),fsX b hb,.inl hb,λx c e=>(f2 b hb).2.2.2.2.1 x c (cl1 x c e),λp hp=>by
   have hp':p∈X.pn++aa∨p∈more:=by simpa [z0v,y33,or_assoc] using hp
   rcases hp' with z | z
   ·exact(f2 b hb).2.2.2.2.2 p z
   ·rw[hm p z];exact λq=>lfp (q▸hb)⟩
 have pinL:∀{H':Hp} {s':Shared} {σ':St} {o:Obj},Inv (z0v X scope N cc) (X.pn++aa) σ' H' s'->s'.heap.get? l=some o->(∀v,o.data ≠ .cell v)->H' l=none->Inv (z0v X scope N cc) (X.pn++aa ++ [(l,o)]) σ' H' s':=λ{H' s' σ' o} I' e d hz =>
  I'.pins_of λp hp=>(y0z.mp hp).elim (λz=>I'.pin p (y14 _ z)) λz=>by
   have q:p=(l,o):=y0e.mp z;subst q;exact⟨e,hz,hlC,lfs,d⟩
 have loop:∀s₃:Shared,s₃ = { s2 with heap:=h₁,toks:=s2.toks+([]:List (Str×Value)).length } ->
   codeAny (model X.prog X.w) X.A (.compLoop (.ListComp elt [⟨tg,iter,ifs,0⟩] scope pos) 0 (.ref it) (.ref l) (compEnvC scope cl C X.env)) (compPost (model X.prog X.w) X.A X.xe use QQ (.ref l) C) s₃:=by
  rintro s₃ rfl;refine zi9 (λm s'=>∃i ys H',Inv (z0v X scope N cc) (X.pn++aa) σ0 H' s'/\tn i s'.heap/\(∀b∈fp,H' b=none)/\W i m ys H'/\(∃its:List Value,Vals ys its/\s'.heap.PlainList l its.toArray)/\H' l=none) ?_ m0
   ⟨0,[],H2,I3,T.keep _ _ _ st2 λb hb o e=>old b o e,λb hb=>(f2 b hb).1,w0,⟨[],.nil,hacc⟩,by rw[←hl];exact I2.hok.fresh (y09 _)⟩
  rintro m s5 ⟨i,ys,H5,I5,st5,fr5,w5,⟨its,rv,n5,hpl⟩,hl5⟩;have I5':=pinL I5 hpl (λv z=>by cases z) hl5
  have f5:=stat (more:=[(l,({ cls:=.type "list",data:=.seq its.toArray n5 }:Obj))]) fr5 (λp hp=>congrArg Prod.fst (y0e.mp hp));rcases turn i m ys H5 w5 with ⟨stop,hz,q⟩ | ⟨go,hz,step⟩
  ·refine thn (T.done (z0v X scope N cc) rfl rfl rfl bu i _ s5 σ0 H5 NoE I5' f5 st5 stop) λr s6 hq=>?_;obtain⟨rfl,I6⟩:=hq;have e6:s6.heap.get? l=some ({ cls:=.type "list",data:=.seq its.toArray n5 }:Obj):=(I6.pin (l,({ cls:=.type "list",data:=.seq its.toArray n5 }:Obj)) (y14 _ (y14 _ (y0e.mpr rfl)))).1;obtain⟨mC,hnC,_⟩:=I6.loc;have IA:Inv X aa σ H5 s6:=I2.call' (ch:=fp) I6.os I6.base I6.hok I6.bare λb hb=>⟨(f2 b hb).2.2.2.1,(f2 b hb).2.1,(f2 b hb).2.2.2.2.1,(f2 b hb).2.2.2.2.2⟩
   have cl':∀x c,X.env.cells.lookup x=some c->c≠l:=λx c e=>by
    obtain⟨v,z⟩:=I2.cell x c e;rw[←hl];exact y0t z.lt
   have IB:Inv X aa σ (upd H5 l (.lst ys)) s6:=zp4 IA hl5 (by rw[←hl];exact I2.sz) (by rw[←hl];exact y3i I2.lt) cl' lpin ⟨hz,its,n5,rv,e6⟩
   obtain⟨oC,eC,nC⟩:=LCg.ns_obj hnC;refine hend s6 _ l C oC mC IB (q l hl5) eC nC (I2.fpOk hCl ?_);rw[z0a (Ne.symm hlC)];exact I6.free
  ·refine thn (T.item (z0v X scope N cc) rfl rfl rfl bu i _ s5 σ0 H5 NoE I5' f5 st5 go) λr s6 hq=>?_;obtain⟨u,rfl,hq⟩:=hq;refine thn hq λ_ s7 hq7=>?_;obtain⟨x,H7,I7,r7,y7,st7,fr7⟩:=hq7;have I7':=I7.pinned (stat (more:=[(l,({ cls:=.type "list",data:=.seq its.toArray n5 }:Obj))]) fr7 (λp hp=>congrArg Prod.fst (y0e.mp hp))) (T.obj _ _ st7);refine thn (hg cc _ s7 σ0 H7 x u _ I7' r7 (hgk x σ0 H7 _ (step x H7 y7))) λ_ s8 hq8=>?_;obtain⟨σ8,H8,I8,k8,q8⟩:=hq8;have back:∀{H':Hp} {s':Shared},Inv (z0v X scope N cc) (X.pn++aa ++ [(l,({ cls:=.type "list",data:=.seq its.toArray n5 }:Obj))]++zbo fp s7.heap) σ8 H' s'->Inv (z0v X scope N cc) (X.pn++aa) σ0 H' s'/\tn (i+1) s'.heap/\(∀b∈fp,H' b=none)/\s'.heap.get? l=some ({ cls:=.type "list",data:=.seq its.toArray n5 }:Obj)/\H' l=none:=λ{H' s'} I'=>by
    have pf:∀b∈fp,∀o,s7.heap.get? b=some o->s'.heap.get? b=some o/\H' b=none:=λb hb o e =>
     let z:=I'.pin (b,o) (y14 _ (y14 _ (z78 hb e)))
     ⟨z.1,z.2.1⟩
    have pl:=I'.pin (l,({ cls:=.type "list",data:=.seq its.toArray n5 }:Obj)) (y14 _ (y3r _ (y14 _ (y0e.mpr rfl))));refine⟨(I'.unpinned.unpinned).weak ?_ ?_,T.keep _ _ _ st7 λb hb o e=>(pf b hb o e).1,λb hb=>?_,pl.1,pl.2.1⟩
    ·rw[I3.len,I'.len]
    ·intro j v ej;have hj:n≤j:=by
      rcases y3x j n with z | z
      ·have ej':(y08 n none++fr.map (sg σ))[j]?=some (some v):=ej;rw[y0u (by simpa using z),y1a,if_pos z] at ej'
       cases ej'
      ·exact z
     rw[k8 j hj];exact ej
    ·obtain⟨o,e,_⟩:=T.obj _ _ st7 b hb;exact(pf b hb o e).2
   refine thn (ht cc _ s8 σ8 H8 _ I8 q8) λok s9 hq9=>?_;obtain⟨H9,I9,q9⟩:=hq9;cases ok with
   | false =>
    obtain⟨m',hm,w9⟩:=q9;obtain⟨b1,b2,b3,b4,b5⟩:=back I9;exact⟨m',hm,i+1,ys,H9,b1,b2,b3,w9,⟨its,rv,n5,b4⟩,b5⟩
   | true =>
    refine thn (he cc _ s9 σ8 H9 _ I9 q9) λy sA hqA=>?_;obtain⟨yv,HA',IA,rA,m',hm,wA⟩:=hqA;obtain⟨b1,b2,b3,b4,b5⟩:=back IA;refine wpAny_list_append_plain (items:=its.toArray) ⟨n5,b4⟩ (λh' hp' hsb=>?_) (by have:=rv.length;rw[y0o];omega)
    refine⟨m',hm,i+1,ys ++ [yv],HA',b1.turned (t':=sA.toks) (it:=l) (λb o hb e=>hsb.extBut b o hb e) b5 hlC (.inr hll) lcell (λp hp=>lpin p (by simpa [z0v] using hp)),?_,b3,wA,⟨its ++ [y],rv.append (.cons rA .nil),by simpa using hp'⟩,b5⟩
    exact T.keep _ _ _ b2 λb hb o e=>hsb.extBut b o (λz=>lfp (z▸hb)) e
 exact codeAny_compStart_list (loop _ rfl) (T.self _ 0 _ _ _ (T.keep _ _ _ st2 λb hb o e=>old b o e) (loop _ rfl))
theorem zdb {elt tg iter:Expr}{ifs:List Expr}{scope:Scope}{pos:Pos}{N:List Str}{fr:List Nat}{wi:TI}{g:TG}{tt:TT}{te:TE}(n:Nat)
  (hi:PI X tg iter wi) (hg:∀c:CC,PG (z0v X scope N c) tg g) (hgk:GOk n g)
  (ht:∀(c:CC) (aa:List (Addr×Obj)) (s:Shared) (σ:St) (H:Hp) (Q:Bool->Hp->Prop),Inv (z0v X scope N c) aa σ H s->tt σ H Q ->
   wpAny (model X.prog X.w) X.A (forIn ifs true λc' r=>if r=true then do let ok ←isTrue c' (compEnvC scope c.cl c.C X.env) (eval c' (compEnvC scope c.cl c.C X.env));pure (ForInStep.yield ok) else pure (ForInStep.yield r)) (TP (z0v X scope N c) aa σ Q) NoE s)
  (he:∀c:CC,PE (z0v X scope N c) elt te) (hn:N.length=n+fr.length)
  (hfr:fr.map (λi=>X.N[i]?)=(N.drop n).map some) (hsc:∀x∈N.drop n,scope.names.lookup x=some .free)
  (hF:FreeIn X.env ((scope.names.filter λy=>y.2 == .free).map (·.1)))
  (aW:scope.kind = .function) (aR:∀y∈scope.names,y.2 ≠ .cell) (aZ:∀y∈scope.names,y.2 = .local->scope.names.lookup y.1=some .local) (bu:X.calm=true)
  (hs:∀x,foldedSetIterable iter X.env x=pure x):PE X (.ListComp elt [⟨tg,iter,ifs,0⟩] scope pos) (za9 wi n fr g tt te):=by
 intro aa s σ H Q I h;rw[eval_ListComp];refine zaq (use:=none) n I h (λs6 H6 l C oC mC I6 q eC nC fC=>?_) hi hg hgk ht he hn hfr hsc hF aW aR aZ bu hs;refine⟨mC,nC.ns eC,λh' hsb=>⟨.ref l,H6,?_,rfl,q⟩⟩;exact I6.turned (t':=s6.toks) (it:=C) (λb o hb e=>hsb.extBut b o hb e) fC.1 fC.2.1 fC.2.2.2.1 fC.2.2.2.2.1 fC.2.2.2.2.2
theorem zem {elt tg iter:Expr}{ifs:List Expr}{scope:Scope}{pos spos py:Pos}{y:Str}{i:Nat}{N:List Str}{fr:List Nat}{wi:TI}{g:TG}{tt:TT}{te:TE}(n:Nat)
  (hN:X.N.Nodup) (hy:X.N[i]?=some y) (hly:X.env.scope.names.lookup y=some .local) (hsw:swapsWith (.ListComp elt [⟨tg,iter,ifs,0⟩] scope pos) (some (.Name y py)) spos.line X.env=pure true)
  (hi:PI X tg iter wi) (hg:∀c:CC,PG (z0v X scope N c) tg g) (hgk:GOk n g)
  (ht:∀(c:CC) (aa:List (Addr×Obj)) (s:Shared) (σ:St) (H:Hp) (Q:Bool->Hp->Prop),Inv (z0v X scope N c) aa σ H s->tt σ H Q ->
   wpAny (model X.prog X.w) X.A (forIn ifs true λc' r=>if r=true then do let ok ←isTrue c' (compEnvC scope c.cl c.C X.env) (eval c' (compEnvC scope c.cl c.C X.env));pure (ForInStep.yield ok) else pure (ForInStep.yield r)) (TP (z0v X scope N c) aa σ Q) NoE s)
  (he:∀c:CC,PE (z0v X scope N c) elt te) (hn:N.length=n+fr.length)
  (hfr:fr.map (λi=>X.N[i]?)=(N.drop n).map some) (hsc:∀x∈N.drop n,scope.names.lookup x=some .free)
  (hF:FreeIn X.env ((scope.names.filter λy=>y.2 == .free).map (·.1)))
  (aW:scope.kind = .function) (aR:∀y∈scope.names,y.2 ≠ .cell) (aZ:∀y∈scope.names,y.2 = .local->scope.names.lookup y.1=some .local) (bu:X.calm=true)
  (hs:∀x,foldedSetIterable iter X.env x=pure x):PS X (.Assign [.Name y py] (.ListComp elt [⟨tg,iter,ifs,0⟩] scope pos) spos) (zkz (za9 wi n fr g tt te) (z41 i)):=by
 intro aa s σ H D I h;rw[exec_Assign_Name_used _ _ _ _ hsw];refine wpAny_bind (wpAny_standAt (wpAny_bind ?_));show wpAny _ X.A (do let _ ←comprehension (.ListComp elt [⟨tg,iter,ifs,0⟩] scope pos) scope X.env _ (newList []) false (eval iter X.env) (some (assign (.Name y py) X.env))) _ _ s
 refine wpAny_bind (thn (zaq (QQ:=λ_ s'=>SP X aa D .next s') (use:=some (assign (.Name y py) X.env)) n I h (λs6 H6 l C oC mC I6 q eC nC fC=>?_) hi hg hgk ht he hn hfr hsc hF aW aR aZ bu hs) λ_ s' hq=>wpAny_pure (wpAny_pure hq))
 show wpAny _ X.A (assign (.Name y py) X.env (.ref l)) _ _ s6;have dC:∀v,oC.data ≠ .cell v:=λv z=>by
  obtain⟨es,ep,hd,_⟩:=nC;rw[hd] at z;cases z
 have I7:Inv X (aa ++ [(C,oC)]) σ H6 s6:=I6.pins_of λp hp=>(y0z.mp hp).elim (λz=>I6.pin p (y14 _ z)) λz=>by
  have e:p=(C,oC):=y0e.mp z;subst e;exact⟨eC,fC.1,fC.2.1,fC.2.2.1,dC⟩
 refine wpAny_assign_Name (z6b I7 hN hy (.inl hly) (v:=.ref l) rfl (λs7 I8=>?_) (.inr hly));have e8:s7.heap.get? C=some oC:=(I8.pin (C,oC) (y14 _ (y14 _ (y0e.mpr rfl)))).1;refine⟨mC,nC.ns e8,λh' hsb=>⟨_,H6,?_,q⟩⟩;exact I8.unpinned.turned (t':=s7.toks) (it:=C) (λb o hb e=>hsb.extBut b o hb e) fC.1 fC.2.1 fC.2.2.2.1 fC.2.2.2.2.1 fC.2.2.2.2.2
def zj1:TT:=λ_ H Q=>Q true H
theorem z2t {elt tg iter:Expr}{scope:Scope}{pos:Pos}{N:List Str}{fr:List Nat}{wi:TI}{g:TG}{te:TE}(n:Nat)
  (hi:PI X tg iter wi) (hg:∀c:CC,N.Nodup->PG (z0v X scope N c) tg g) (he:∀c:CC,N.Nodup->PE (z0v X scope N c) elt te)
  (hN:N.Nodup:=by decide +kernel) (hgk:GOk n g:=by first | exact z7r (by decide) | exact zdt (by decide) (by decide) | exact gok_t3 (by decide) (by decide) (by decide)) (hn:N.length=n+fr.length:=by rfl)
  (hfr:fr.map (λi=>X.N[i]?)=(N.drop n).map some:=by rfl) (hsc:∀x∈N.drop n,scope.names.lookup x=some .free:=by decide +kernel)
  (hF:FreeIn X.env ((scope.names.filter λy=>y.2 == .free).map (·.1)):=by repeat (first | exact True.intro | refine y4w (y77 rfl) ?_ | refine y4w (y70 rfl) ?_))
  (aW:scope.kind = .function:=by rfl) (aR:∀y∈scope.names,y.2 ≠ .cell:=by decide +kernel) (aZ:∀y∈scope.names,y.2 = .local->scope.names.lookup y.1=some .local:=by decide +kernel) (bu:X.calm=true:=by rfl)
  (hs:∀x,foldedSetIterable iter X.env x=pure x:=by intro _;rfl):PE X (.ListComp elt [⟨tg,iter,[],0⟩] scope pos) (za9 wi n fr g zj1 te) :=
 zdb n hi (λc=>hg c hN) hgk (λc aa s σ H Q I q=>wpAny_tests_nil ⟨H,I,q⟩) (λc=>he c hN) hn hfr hsc hF aW aR aZ bu hs
theorem z49 {elt tg iter c:Expr}{scope:Scope}{pos:Pos}{N:List Str}{fr:List Nat}{wi:TI}{g:TG}{tt:TT}{te:TE}(n:Nat)
  (hi:PI X tg iter wi) (hg:∀c:CC,N.Nodup->PG (z0v X scope N c) tg g) (ht:∀cc:CC,N.Nodup->PT (z0v X scope N cc) c tt) (he:∀c:CC,N.Nodup->PE (z0v X scope N c) elt te)
  (hN:N.Nodup:=by decide +kernel) (hgk:GOk n g:=by first | exact z7r (by decide) | exact zdt (by decide) (by decide) | exact gok_t3 (by decide) (by decide) (by decide)) (hn:N.length=n+fr.length:=by rfl)
  (hfr:fr.map (λi=>X.N[i]?)=(N.drop n).map some:=by rfl) (hsc:∀x∈N.drop n,scope.names.lookup x=some .free:=by decide +kernel)
  (hF:FreeIn X.env ((scope.names.filter λy=>y.2 == .free).map (·.1)):=by repeat (first | exact True.intro | refine y4w (y77 rfl) ?_ | refine y4w (y70 rfl) ?_))
  (aW:scope.kind = .function:=by rfl) (aR:∀y∈scope.names,y.2 ≠ .cell:=by decide +kernel) (aZ:∀y∈scope.names,y.2 = .local->scope.names.lookup y.1=some .local:=by decide +kernel) (bu:X.calm=true:=by rfl)
  (hs:∀x,foldedSetIterable iter X.env x=pure x:=by intro _;rfl):PE X (.ListComp elt [⟨tg,iter,[c],0⟩] scope pos) (za9 wi n fr g tt te) :=
 zdb n hi (λc=>hg c hN) hgk (λcc aa s σ H Q I q=>wpAny_tests_one (ht cc hN aa s σ H Q I q)) (λc=>he c hN) hn hfr hsc hF aW aR aZ bu hs
theorem z8h (i:Nat){elt tg iter:Expr}{scope:Scope}{pos spos py:Pos}{y:Str}{N:List Str}{fr:List Nat}{wi:TI}{g:TG}{te:TE}(n:Nat)(hNX:X.N.Nodup)
  (hi:PI X tg iter wi) (hg:∀c:CC,N.Nodup->PG (z0v X scope N c) tg g) (he:∀c:CC,N.Nodup->PE (z0v X scope N c) elt te)
  (hN:N.Nodup:=by decide +kernel) (hgk:GOk n g:=by first | exact z7r (by decide) | exact zdt (by decide) (by decide) | exact gok_t3 (by decide) (by decide) (by decide)) (hn:N.length=n+fr.length:=by rfl)
  (hfr:fr.map (λi=>X.N[i]?)=(N.drop n).map some:=by rfl) (hsc:∀x∈N.drop n,scope.names.lookup x=some .free:=by decide +kernel)
  (hF:FreeIn X.env ((scope.names.filter λy=>y.2 == .free).map (·.1)):=by repeat (first | exact True.intro | refine y4w (y77 rfl) ?_ | refine y4w (y70 rfl) ?_))
  (aW:scope.kind = .function:=by rfl) (aR:∀y∈scope.names,y.2 ≠ .cell:=by decide +kernel) (aZ:∀y∈scope.names,y.2 = .local->scope.names.lookup y.1=some .local:=by decide +kernel) (bu:X.calm=true:=by rfl)
  (hs:∀x,foldedSetIterable iter X.env x=pure x:=by intro _;rfl) (hy:X.N[i]?=some y:=by rfl) (hly:X.env.scope.names.lookup y=some .local:=by rfl) (hsw:swapsWith (.ListComp elt [⟨tg,iter,[],0⟩] scope pos) (some (.Name y py)) spos.line X.env=pure true:=by rfl):PS X (.Assign [.Name y py] (.ListComp elt [⟨tg,iter,[],0⟩] scope pos) spos) (zkz (za9 wi n fr g zj1 te) (z41 i)) :=
 zem n hNX hy hly hsw hi (λc=>hg c hN) hgk (λc aa s σ H Q I q=>wpAny_tests_nil ⟨H,I,q⟩) (λc=>he c hN) hn hfr hsc hF aW aR aZ bu hs
theorem zgg (i:Nat){elt tg iter c:Expr}{scope:Scope}{pos spos py:Pos}{y:Str}{N:List Str}{fr:List Nat}{wi:TI}{g:TG}{tt:TT}{te:TE}(n:Nat)(hNX:X.N.Nodup)
  (hi:PI X tg iter wi) (hg:∀c:CC,N.Nodup->PG (z0v X scope N c) tg g) (ht:∀cc:CC,N.Nodup->PT (z0v X scope N cc) c tt) (he:∀c:CC,N.Nodup->PE (z0v X scope N c) elt te)
  (hN:N.Nodup:=by decide +kernel) (hgk:GOk n g:=by first | exact z7r (by decide) | exact zdt (by decide) (by decide) | exact gok_t3 (by decide) (by decide) (by decide)) (hn:N.length=n+fr.length:=by rfl)
  (hfr:fr.map (λi=>X.N[i]?)=(N.drop n).map some:=by rfl) (hsc:∀x∈N.drop n,scope.names.lookup x=some .free:=by decide +kernel)
  (hF:FreeIn X.env ((scope.names.filter λy=>y.2 == .free).map (·.1)):=by repeat (first | exact True.intro | refine y4w (y77 rfl) ?_ | refine y4w (y70 rfl) ?_))
  (aW:scope.kind = .function:=by rfl) (aR:∀y∈scope.names,y.2 ≠ .cell:=by decide +kernel) (aZ:∀y∈scope.names,y.2 = .local->scope.names.lookup y.1=some .local:=by decide +kernel) (bu:X.calm=true:=by rfl)
  (hs:∀x,foldedSetIterable iter X.env x=pure x:=by intro _;rfl) (hy:X.N[i]?=some y:=by rfl) (hly:X.env.scope.names.lookup y=some .local:=by rfl) (hsw:swapsWith (.ListComp elt [⟨tg,iter,[c],0⟩] scope pos) (some (.Name y py)) spos.line X.env=pure true:=by rfl):PS X (.Assign [.Name y py] (.ListComp elt [⟨tg,iter,[c],0⟩] scope pos) spos) (zkz (za9 wi n fr g tt te) (z41 i)) :=
 zem n hNX hy hly hsw hi (λc=>hg c hN) hgk (λcc aa s σ H Q I q=>wpAny_tests_one (ht cc hN aa s σ H Q I q)) (λc=>he c hN) hn hfr hsc hF aW aR aZ bu hs
end
end L2.EX
namespace L2.EX
open PySem PySem.Spec PyProof.Rows
section
variable {X:Cx}{aa:List (Addr×Obj)}{σ:St}{H:Hp}{s:Shared}{h':Heap}
theorem z5m {t':Nat}{ch:List Addr}(I:Inv X aa σ H s)(k:∀b o,b ∉ ch->s.heap.get? b=some o->h'.get? b=some o)(hf:∀b∈ch,zhj X aa H b):Inv X aa σ H { s with heap:=h',toks:=t' }:=by
 have nit:∀b u,H b=some u->b ∉ ch:=λb u e z=>by rw[(hf b z).1] at e;cases e
 refine I.step (g':=s.gens) (d':=s.drawn) (ch:=ch) (λb hb=>⟨(hf b hb).2.2.2.1,(hf b hb).2.1,(hf b hb).2.2.2.2.1,(hf b hb).2.2.2.2.2⟩) (λb o _ _ hc e _=>k b o hc e) (λb o _ _ hc e _=>⟨o.slots,k b o hc e⟩) (λ_ _ _ _ n=>n)
  (λb o hc e=>⟨o,k b o hc e⟩) (λ_ _ e=>e) (λ_ _ _ e=>e) (λb ps e=>⟨#[],by rw[e];simp⟩) (λm hm=>?_) (λb u e=>?_) I.bare
 ·obtain⟨o,es,ep,ho,r⟩:=hm;exact⟨o,es,ep,k _ o (λz=>(hf _ z).2.1 rfl) ho,r⟩
 ·refine(I.hok b u e).stay (λc v hc q=>k c v ?_ q) (λ_ q=>q) λ_ _ q=>q;rcases hc with z | z
  ·rw[z];exact nit b u e
  ·exact nit c _ z
theorem z9q {t':Nat}{ch:List Addr}{T:Addr}{xs:List V}{us:List Value}(I:Inv X aa σ H s)(k:∀b o,b ∉ ch->s.heap.get? b=some o->h'.get? b=some o)(hf:∀b∈ch,zhj X aa H b)(hT:s.heap.objs.size≤T)
  (r:Vals xs us) (hz:xs.length≤sizeLine) (e:IsTup h' T us.toArray):Inv X aa σ (upd H T (.tup xs)) { s with heap:=h',toks:=t' } :=
 zp4 (z5m I k hf) (I.hok.fresh hT) (y13 I.sz hT) (y3i (y0p I.lt hT)) (λx c e z=>by
  obtain⟨v,q⟩:=I.cell x c e;exact absurd (y0p q.lt (by rw[z];exact hT)) (y2v _)) (λp hp z=>absurd (y0p (Heap.lt_size (I.pin p hp).1) (by rw[z];exact hT)) (y2v _)) ⟨hz,us,r,e⟩
end
def Ite (K:y03)(a:Addr):It :=
 ⟨λi H=>∃xs x,SqL K H a xs/\xs[i]?=some x,λi H x H'=>∃p v,H p=none/\x = .ref p/\H'=upd H p (.tup [.int i,v])/\∀xs,SqL K H a xs->xs[i]?=some v,λi H=>∃xs,SqL K H a xs/\xs.length≤i⟩
theorem zpi:2≤sizeLine:=by decide
theorem zih {P:Program}{w:World}{K:y03}{elts:List Expr}{kt:Nat}{tp:Pos}(a e it:Addr)(hne:e≠it):Turn P w K (.Tuple elts kt tp) (Ite K a) [e,it] e (λi h=>(∃old,IsEnum h e it i old)/\h.IsListIter it a i) where
 mem:=by simp
 obj:=λi h st b hb=>by
  obtain⟨⟨old,he⟩,o,e1,c,d⟩:=st;rcases y0m.mp hb with rfl | hb
  ·exact⟨_,he,λv z=>by cases z⟩
  ·have e':b=it:=by simpa using hb
   subst e';exact⟨o,e1,λv z=>by rw[d] at z;cases z⟩
 keep:=λi h h' st k=>by
  obtain⟨⟨old,he⟩,hit⟩:=st;exact⟨⟨old,k e (by simp) _ he⟩,hit.at λo x=>k it (by simp) o x⟩
 item:=by
  intro X hP hw hK hc i aa s σ H E I hf st hg;subst hP hw hK;obtain⟨xs,x,hq,hx⟩:=hg;obtain⟨⟨old,he⟩,hit⟩:=st;obtain⟨its,rv,p,hz⟩:=I.list hq;obtain⟨u,hu,ru⟩:=rv.get hx;refine wpAny_pyNext_enum_item he hit p.isList (x:=u) (by simpa using hu) hne λh1 ho hit1 hT hsz hk=>⟨_,rfl,?_⟩
  refine wpAny_letOwnedTupleGo_enum ho λh2 he2 hs2=>?_;have hTe:s.heap.objs.size≠e:=y3i (Heap.lt_size he);have kk:∀b o,b ∉ [e,it]->s.heap.get? b=some o->h2.get? b=some o:=λb o hb eo =>
   hs2.extBut b o (λz=>hb (by simp[z])) (hk b o (λz=>hb (by simp[z])) (λz=>hb (by simp[z])) eo)
  have I2:=z9q (t':=s.toks+1) (h':=h2) I kk (λb hb=>hf b hb) (y09 _) (xs:=[.int i,x]) (us:=[.int i s.toks,u]) (.cons ⟨_,rfl⟩ (.cons ru .nil)) zpi ⟨_,hs2.extBut _ _ hTe hT,rfl,_,rfl⟩;refine⟨.ref s.heap.objs.size,_,I2,rfl,⟨s.heap.objs.size,x,I.hok.fresh (y09 _),rfl,rfl,λys hy=>by rw[I.list_inj hy hq];exact hx⟩,⟨⟨_,by simpa using he2⟩,hit1.at λo x=>(hs2.2 it hne.symm).trans x⟩,λb hb=>?_⟩
  have hbl:b≠s.heap.objs.size:=by
   rcases y0m.mp hb with rfl | hb
   ·exact y0t (Heap.lt_size he)
   ·have e':b=it:=by simpa using hb
    subst e';obtain⟨o,e1,_⟩:=hit;exact y0t (Heap.lt_size e1)
  rw[z0a hbl];exact(hf b hb).1
 done:=by
  intro X hP hw hK hc i aa s σ H E I hf st hg;subst hP hw hK;obtain⟨xs,hq,hx⟩:=hg;obtain⟨⟨old,he⟩,hit⟩:=st;obtain⟨its,rv,p,hz⟩:=I.list hq;have hl:=rv.length;exact wpAny_pyNext_enum_end (I.ok.hd hc) he hit p.isList (by simp;omega) λh1 hb=>⟨rfl,z5m (t':=s.toks) I (λb o hb' eo=>hb b o (λz=>hb' (by simp[z])) eo) λb hb'=>hf b hb'⟩
 self:=λ_ _ _ _ _ st h=>by
  obtain⟨⟨old,he⟩,_⟩:=st;exact wpAny_pyIter_enum he h
section
variable {X:Cx}
def zn2 (K:y03)(tl:TE)(σ:St)(H:Hp)(R:It->Hp->Prop):Prop:=tl σ H λx H1=>match x with
 | .ref a=>(∃xs,SqL K H1 a xs)/\R (Ite K a) H1
 | _=>False
theorem z71 {l:Expr}{tl:TE}{elts:List Expr}{kt:Nat}{tp p pos:Pos}(hm:X.mg "enumerate"=none)(hl:PE X l tl)(hg:Gl X "enumerate":=by rfl)(hs:starEach [l] X.env = [(false,eval l X.env)]:=by rfl) :
  PI X (.Tuple elts kt tp) (.Call (.Name "enumerate" p) [l] [] pos) (zn2 X.K tl):=by
 intro aa s σ H R I h;refine Call_ (z6f I hg hm zaw (y24 (thn ((z00 (z2d hl) z03 hs) pos aa s σ H (λvs H1=>∃x,vs = [x]/\(match x with
  | .ref a=>(∃xs,SqL X.K H1 a xs)/\R (Ite X.K a) H1
  | _=>False)) I ⟨_,h,λv H1 q=>⟨v,rfl,q⟩⟩) λus s1 h1=>?_) hs rfl))
 obtain⟨vs,H1,I1,r1,x,rfl,q1⟩:=h1;obtain⟨u,rfl,rx⟩:=z6t r1
 split at q1
 ·rename_i a;cases rx;obtain⟨⟨xs,hq⟩,q⟩:=q1;obtain⟨its,rv,pl,hz⟩:=I1.list hq;refine call_enumerate_list pl.isList λh1 he hit hsz hk=>wpAny_pyIter_enum he ?_;have ne:s1.heap.objs.size+1≠s1.heap.objs.size:=Nat.succ_ne_self _;refine⟨_,[s1.heap.objs.size+1,s1.heap.objs.size],_,_,H1,rfl,I1.kept (t':=s1.toks) hk,zih a (s1.heap.objs.size+1) s1.heap.objs.size ne,⟨⟨_,he⟩,hit⟩,λb hb=>?_,q⟩;have hb':s1.heap.objs.size≤b:=by
   rcases y0m.mp hb with e | e
   ·rw[e];exact y5m _
   ·rw[y0e.mp e];exact y09 _
  exact I1.fpOk hb' (I1.hok.fresh hb')
 ·exact q1.elim
theorem za3 {K:y03}{g:TG}{tb:TS}{D:Ends}{σ:St}{H:Hp}{a:Addr}{xs:List V}(Pv:Nat->St->Hp->Prop)(h0:Pv 0 σ H)(hl:∀i σ H,i≤xs.length->Pv i σ H->SqL K H a xs)
  (hs:∀i x σ H p,xs[i]?=some x->Pv i σ H->H p=none->g (.ref p) σ (upd H p (.tup [.int i,x])) fun σ2 H2=>tb { D with nx:=Pv (i+1),ct:=Pv (i+1),bk:=D.nx } σ2 H2) (hd:∀ σ H,Pv xs.length σ H->D.nx σ H):zew (Ite K a) g tb D σ H:=by
 refine⟨λi m σ H=>m=xs.length - i/\i≤xs.length/\Pv i σ H,⟨xs.length,by simp,y2d _,h0⟩,?_⟩
 rintro i m σ H ⟨rfl,hi,p⟩;have q:=hl i σ H hi p
 by_cases hlt:i<xs.length
 ·refine .inr ⟨⟨xs,xs[i],q,by simp[hlt]⟩,Pv (i+1),fun σ' H' p'=>⟨xs.length - (i+1),by omega,rfl,hlt,p'⟩,λx H' y=>?_⟩
  obtain⟨t,v,ht,e1,e2,e3⟩:=y;subst e1 e2;exact hs i v σ H t (e3 xs q) p ht
 ·have e:i=xs.length:=by omega
  subst e;exact .inl ⟨⟨xs,q,y09 _⟩,hd σ H p⟩
end
end L2.EX
namespace L2.EX
open PySem PySem.Spec PyProof.Rows
structure ClsF (K:y03)(C:Addr)(f:Str):Prop where
 cl:Cls K C
 no:NoAttr K C f
structure MDef (P:Program)(w:World)(K:y03)(mg:Str->Option Value)(base:Heap)(C:Addr)(m:Str)(k:Nat)(ps:List Str)(sp:Sp):Prop where
 is:∃(f:Addr) (fd:FuncData),FnOk P w K mg base CX0 k f fd ps sp/\Binds K fd ps []/\Meth K C m f
 cl:Cls K C
structure MTop (K:y03)(C:Addr)(m aJ:Str)(st:Stmt)(ps:List Str):Prop where
 is:∃(f:Addr) (fd:FuncData),Fun K m aJ st f fd/\Binds K fd ps []/\Meth K C m f
 cl:Cls K C
structure CDef (P:Program)(w:World)(K:y03)(mg:Str->Option Value)(base:Heap)(x:Str)(C:Addr)(k:Nat)(ps:List Str)(sp:Sp):Prop where
 is:∃(f:Addr) (fd:FuncData),FnOk P w K mg base CX0 k f fd ps sp/\Binds K fd ps []/\Mk K C f
 mg:mg x=some (.ref C)
section
variable {X:Cx}{C:Addr}{f m:Str}{e o value:Expr}{es:List Expr}{ta tv:TE}{t:TA}{pos bU aK aG p:Pos}{k:Nat}{ps:List Str}{sp:Sp}{x:Str}
def zql (C:Addr)(f:Str)(t:TE)(σ:St)(H:Hp)(Q:VK):Prop:=t σ H λx H1=>match x with
 | .ref a=>∃dx fs v,H1 a=some (.ins C dx fs)/\fs.lookup f=some v/\Q v H1
 | _=>False
theorem z1s (F:ClsF X.K C f)(he:PE X e ta)(hb:attributeBase e f X.env (eval e X.env)=eval e X.env:=by rfl):PE X (.Attribute e f pos) (zql C f ta) :=
 z53 (zo4 (z2d he) hb) fun σ H Q h=>⟨_,h,λx H1 q=>by
  split at q
  ·obtain⟨dx,fs,v,h1,h2,h3⟩:=q;exact⟨_,C,dx,fs,v,rfl,h1,F.cl,F.no,h2,h3⟩
  ·exact q.elim⟩
def zmx (C:Addr)(f:Str)(ta tv:TE)(D:Ends)(σ:St)(H:Hp):Prop:=tv σ H λy H1=>ta σ H1 λx H2=>match x with
 | .ref a=>∃dx fs,H2 a=some (.ins C dx fs)/\fs.length<1000/\D.nx σ (upd H2 a (.ins C dx (z8u f y fs)))
 | _=>False
theorem zb3 (F:ClsF X.K C f)(ha:PE X o ta)(hv:PE X value tv)(hs:swapsWith value (some (.Attribute o f bU)) pos.line X.env=pure false:=by rfl):PS X (.Assign [.Attribute o f bU] value pos) (zmx C f ta tv) :=
 zl9 (zo2 (z2d ha) (z2d hv) hs) λD σ H h=>⟨_,h,λy H1 q=>⟨_,q,λx H2 q2=>by
  split at q2
  ·obtain⟨dx,fs,h1,h2,h3⟩:=q2;exact⟨_,C,dx,fs,rfl,h1,F.cl,F.no,h2,h3⟩
  ·exact q2.elim⟩⟩
def zk3 (C:Addr)(m:Str)(sp:Sp)(ta:TE)(t:TA)(σ:St)(H:Hp)(Q:VK):Prop:=ta σ H λx H1=>match x with
 | .ref a=>∃dx fs,H1 a=some (.ins C dx fs)/\fs.lookup m=none/\t σ H1 λvs H2=>sp (.ref a::vs) H2 Q E0
 | _=>False
theorem z2m {pl:Sem Bool}(D:MDef X.prog X.w X.K X.mg X.base C m k ps sp)(hr:Room k X.A)(he:PE X o ta)(ha:PA X (e::es) t)
  (hst:starEach (e::es) X.env=(false,eval e X.env)::starEach es X.env:=by rfl) (hpl:(backTo pos (starEach es X.env)).any (·.1)=false:=by rfl)
  (ht:eval (.Call (.Attribute o m aK) (e::es) [] pos) X.env=(do
   let ov ←eval o X.env
   standAt aK.atName
   let (f,first) ←holding [ov] (getMethod ov m pl)
   callWith pos f first (backTo pos (starEach (e::es) X.env)) (backToKw pos (keywordEach [] X.env))):=by rfl) :
  PE X (.Call (.Attribute o m aK) (e::es) [] pos) (zk3 C m sp ta t):=by
 obtain⟨f,fd,F,hb,hm⟩:=D.is;refine z53 (zng (pl:=pl) (dvs:=[]) (z2d he) D.cl hm F hr hb .nil zji (z6y ha) hst hpl ht) fun σ H Q h=>⟨_,h,λx H1 q=>?_⟩
 split at q
 ·obtain⟨dx,fs,h1,h2,h3⟩:=q;exact⟨_,dx,fs,rfl,h1,h2,_,h3,λvs H2 q2=>by
   show sp (V.ref _::(vs ++ [])) H2 Q E0;rw[y2i];exact q2⟩
 ·exact q.elim
theorem z65 {pl:Sem Bool}(D:MDef X.prog X.w X.K X.mg X.base C m k ps sp)(hr:Room k X.A)(he:PE X o ta)
  (ht:eval (.Call (.Attribute o m aK) [] [] pos) X.env=(do
   let ov ←eval o X.env
   standAt aK.atName
   let (f,first) ←holding [ov] (getMethod ov m pl)
   callWith pos f first (backTo pos (starEach [] X.env)) (backToKw pos (keywordEach [] X.env))):=by rfl) :
  PE X (.Call (.Attribute o m aK) [] [] pos) (zk3 C m sp ta zj2):=by
 obtain⟨f,fd,F,hb,hm⟩:=D.is;refine z53 (zjs (pl:=pl) (dvs:=[]) (z2d he) D.cl hm F hr hb .nil zji ht) fun σ H Q h=>⟨_,h,λx H1 q=>?_⟩
 split at q
 ·obtain⟨dx,fs,h1,h2,h3⟩:=q;exact⟨_,dx,fs,rfl,h1,h2,h3⟩
 ·exact q.elim
def zlu (C:Addr)(sp:Sp)(t:TA)(σ:St)(H:Hp)(Q:VK):Prop:=t σ H λvs H1=>∀x dx,H1 x=none->H1 dx=none->dx≠x ->
 sp (.ref x::vs) (upd (upd H1 dx (.own x)) x (.ins C dx [])) (λv H2=>v = .non/\Q (.ref x) H2) E0
theorem zmo (D:CDef X.prog X.w X.K X.mg X.base x C k ps sp)(hr:Room (k+1) X.A)(ha:PA X (e::es) t)(hg:Gl X x:=by rfl)
  (hdb:(x==("__debug__":Str))=false:=by decide) (he:starEach (e::es) X.env=(false,eval e X.env)::starEach es X.env:=by rfl) (hpl:(backTo pos (starEach es X.env)).any (·.1)=false:=by rfl) :
  PE X (.Call (.Name x p) (e::es) [] pos) (zlu C sp t):=by
 obtain⟨f,fd,F,hb,M⟩:=D.is;exact z53 (zn7 (dvs:=[]) M F hr hg D.mg hb .nil zji (z6y ha) hdb he hpl) fun σ H Q h=>⟨_,h,λvs H1 q y dy h1 h2 h3=>by rw[y2i];exact q y dy h1 h2 h3⟩
variable {P:Program}{w:World}{K:y03}{mg:Str->Option Value}{base:Heap}{N:List Str}{st:Stmt}{aJ:Str}
theorem z3a (T:MTop K C m aJ st ps)(S:FnScope N ps (z04 st))(len:∀vs H Q E,sp vs H Q E->vs.length=ps.length)
  (body:∀(f:Addr) (cdv:Value) (A:Around) (outer:List Env) (s:Shared) (H:Hp) (vs:List V) (Q:VK) (E:XK),Room k (A.deeper (envOfC aJ (z04 st) s.heap.objs.size f cdv))->sp vs H Q E ->
   ∃t,PSs (zj0 CX0 P w K mg base N aJ (z04 st) f cdv A outer s H E).nox (z0e st) t/\t { nx:=λ_ H'=>Q .non H',rt:=Q } (start N vs) H):MDef P w K mg base C m (k+1) ps sp:=by
 obtain⟨f,fd,F,hb,hm⟩:=T.is;exact⟨⟨f,fd,F.ok S len λcdv A outer s H vs Q E hr h=>body f cdv A outer s H vs Q E hr h,hb,hm⟩,T.cl⟩
@[reducible] def zrq (o i v:V)(H:Hp)(Q:Hp->Prop):Prop:=match o,i with
 | .ref p,.int k=>∃xs j,H p=some (.lst xs)/\ixN xs.length k=some j/\Q (upd H p (.lst (xs.set j v)))
 | _,_=>False
theorem z4t:zpt X zrq:=by
 intro aa s σ H o i v ov iv u Q I ro ri rv h;unfold zrq at h
 split at h
 ·obtain⟨xs,j,h1,h2,h3⟩:=h;exact zjt aa s σ H _ _ v ov iv u Q I ro ri rv ⟨_,xs,_,j,rfl,rfl,h1,h2,h3⟩
 ·exact h.elim
def zps (o i:V)(H:Hp)(Q:VK):Prop:=match o,i with
 | .ref p,.int k=>∃xs v,H p=some (.lst xs)/\0≤k/\xs[k.toNat]?=some v/\Q v H
 | _,_=>False
theorem z8m:zre X zps:=by
 intro aa s σ H o i ov iv Q I ro ri h;unfold zps at h
 split at h
 ·rename_i p k;obtain⟨xs,v,h1,h2,h3,h4⟩:=h;cases ro;obtain⟨t,rfl⟩:=ri;obtain⟨its,r,pl,hz⟩:=I.list (SqL.of h1);obtain⟨w,ew,rw'⟩:=r.get h3;have hl:=r.length;have hn:=zbp
  have hk:k.toNat<xs.length:=(y00.mp h3).1;exact wpAny_getItem_list pl.isList h2 (by omega) (by simpa using ew) ⟨v,H,I,rw',h4⟩
 ·exact h.elim
def zdz (x y:V)(H:Hp)(Q:VK):Prop:=match x,y with
 | .int i,.int j=>Q (.int (i+j)) H
 | _,_=>False
def zdf (x y:V)(H:Hp)(Q:VK):Prop:=match x,y with
 | .int i,.int j=>Q (.int (i - j)) H
 | _,_=>False
theorem zcq:PIp X .Add zdz:=by
 intro aa s σ H x y v u Q I r1 r2 h;unfold zdz at h
 split at h
 ·exact zph aa s σ H _ _ v u Q I r1 r2 ⟨_,_,rfl,rfl,h⟩
 ·exact h.elim
theorem za7:PIp X .Sub zdf:=by
 intro aa s σ H x y v u Q I r1 r2 h;unfold zdf at h
 split at h
 ·exact znu aa s σ H _ _ v u Q I r1 r2 ⟨_,_,rfl,rfl,h⟩
 ·exact h.elim
def zqm (ta:TE)(t:TA)(σ:St)(H:Hp)(Q:VK):Prop:=ta σ H λx H1=>match x with
 | .ref l=>(∃xs,H1 l=some (.lst xs))/\t σ H1 λvs H2=>match vs with
  | [y]=>∃xs,H2 l=some (.lst xs)/\xs.length<sizeLine/\Q .non (upd H2 l (.lst (xs ++ [y])))
  | _=>False
 | _=>False
theorem z1b (ho:PE X o ta)(ha:PA X (e::es) t)(bz:attributeBase o "append" X.env (eval o X.env)=eval o X.env:=by rfl)
  (hfew:((backTo aG (starEach (e::es) X.env)).all (λx=>!x.1)&&(backToKw aG (keywordEach [] X.env)).all (λx=>x.1.isSome)
  &&decide ((e::es).length+([]:List Keyword).length+(if ([]:List Keyword).isEmpty then 0 else 1)<30))=true:=by rfl)
  (br:(aK.endLine==aG.line)=true:=by rfl) (hs:starEach (e::es) X.env=(false,eval e X.env)::starEach es X.env:=by rfl) (bO:(backTo aG (starEach es X.env)).any (·.1)=false:=by rfl) :
  PE X (.Call (.Attribute o "append" aK) (e::es) [] aG) (zqm ta t) :=
 z53 (zmr y2z PySem.F.slot_list_append PySem.F.type_list_append zgp (z2d ho) (z6y ha) bz hfew br hs bO) fun σ H Q h=>⟨_,h,λx H1 q=>by
  split at q
  ·obtain⟨⟨xs,h1⟩,h2⟩:=q;refine⟨.inl ⟨rfl,_,SqL.of h1⟩,_,h2,λvs H2 q2=>?_⟩
   split at q2
   ·obtain⟨ys,h3,h4,h5⟩:=q2;exact⟨_,ys,_,rfl,rfl,h3,h4,h5⟩
   ·exact q2.elim
  ·exact q.elim⟩
def zqt (ta:TE)(σ:St)(H:Hp)(Q:VK):Prop:=ta σ H λx H1=>match x with
 | .ref l=>∃xs y,H1 l=some (.lst xs)/\xs[xs.length - 1]?=some y/\Q y (upd H1 l (.lst xs.dropLast))
 | _=>False
theorem z8t (ho:PE X o ta)(bz:attributeBase o "pop" X.env (eval o X.env)=eval o X.env:=by rfl)(br:(aK.endLine==aG.line)=true:=by rfl):PE X (.Call (.Attribute o "pop" aK) [] [] aG) (zqt ta) :=
 z53 (zl7 y2z PySem.F.slot_list_pop PySem.F.type_list_pop zo6 (z2d ho) bz br) fun σ H Q h=>⟨_,h,λx H1 q=>by
  split at q
  ·obtain⟨xs,y,h1,h2,h3⟩:=q;exact⟨.inl ⟨rfl,_,SqL.of h1⟩,_,xs,y,rfl,rfl,h1,h2,h3⟩
  ·exact q.elim⟩
def zhz (ta:TE)(σ:St)(H:Hp)(Q:VK):Prop:=ta σ H λx H1=>match x with
 | .ref l=>∃xs,H1 l=some (.lst xs)/\Q .non (upd H1 l (.lst []))
 | _=>False
theorem zco (ho:PE X o ta)(bz:attributeBase o "clear" X.env (eval o X.env)=eval o X.env:=by rfl)(br:(aK.endLine==aG.line)=true:=by rfl):PE X (.Call (.Attribute o "clear" aK) [] [] aG) (zhz ta) :=
 z53 (zl7 y2z PySem.F.slot_list_clear PySem.F.type_list_clear zj5 (z2d ho) bz br) fun σ H Q h=>⟨_,h,λx H1 q=>by
  split at q
  ·obtain⟨xs,h1,h2⟩:=q;exact⟨.inl ⟨rfl,_,SqL.of h1⟩,_,xs,rfl,rfl,h1,h2⟩
  ·exact q.elim⟩
theorem z3t (h:PE X e ta):PO X (some e) (zn5 ta):=by
 intro aa s σ H Q I hq;have g:=zly (z2d h) aa s σ H Q I ⟨_,hq,λx H1 q=>by
  split at q
  ·exact⟨_,rfl,q⟩
  ·exact q.elim⟩
 exact g
theorem zra:SlR X (uSl X.K):=by
 intro aa s σ H x v vl vu lo hi sl Q I rx hs pl pu q;unfold uSl at q
 split at q
 ·obtain⟨xs,h1,h2⟩:=q;exact zm2 aa s σ H _ v vl vu lo hi sl Q I rx hs pl pu ⟨_,xs,rfl,h1,h2⟩
 ·exact q.elim
def xSl (K:y03)(te:TE)(tl th:TO)(σ:St)(H:Hp)(Q:VK):Prop:=te σ H λx H1=>tl σ H1 λl H2=>th σ H2 λu H3=>uSl K x l u H3 Q
theorem zkc {lo hi:Option Expr}{p2:Pos}{tl th:TO}(he:PE X e ta)(hl:PO X lo tl)(hu:PO X hi th):PE X (.Subscript e (.Slice lo hi none p2) pos) (xSl X.K ta tl th):=zk0 zra he hl hu
end
end L2.EX
namespace L2.EX
open PySem PySem.Spec PyProof.Rows
theorem z06 {H:Hp}{p:Addr}(h:H p=none)(o:HO):Same H (upd H p o):=λb u q=>by rw[z0a (z08 q h)];exact q
mutual
def Is (K:y03)(H:Hp):V->PyData->Prop
 | v,.none=>v = .non
 | v,.bool b=>v = .bl b
 | v,.int i=>v = .int i
 | v,.str x=>v = .str x
 | v,.list ds=>∃a xs,v = .ref a/\H a=some (.lst xs)/\IsAll K H xs ds
 | v,.tuple ds=>∃a xs,v = .ref a/\H a=some (.tup xs)/\IsAll K H xs ds
 | _,.dict _=>False
def IsAll (K:y03)(H:Hp):List V->List PyData->Prop
 | xs,[]=>xs = []
 | xs,d::ds=>∃v vs,xs=v::vs/\Is K H v d/\IsAll K H vs ds
end
mutual
theorem Is.same {K:y03}{H H':Hp}(s:Same H H'):∀(d:PyData) (v:V),Is K H v d->Is K H' v d
 | .none,v,h=>by simp only[Is] at h ⊢;exact h
 | .bool b,v,h=>by simp only[Is] at h ⊢;exact h
 | .int i,v,h=>by simp only[Is] at h ⊢;exact h
 | .str x,v,h=>by simp only[Is] at h ⊢;exact h
 | .list ds,v,h=>by
  simp only[Is] at h ⊢
  obtain⟨a,xs,e,q,r⟩:=h;exact⟨a,xs,e,s _ _ q,IsAll.same s ds xs r⟩
 | .tuple ds,v,h=>by
  simp only[Is] at h ⊢
  obtain⟨a,xs,e,q,r⟩:=h;exact⟨a,xs,e,s _ _ q,IsAll.same s ds xs r⟩
 | .dict _,v,h=>by simp only[Is] at h
theorem IsAll.same {K:y03}{H H':Hp}(s:Same H H'):∀(ds:List PyData) (xs:List V),IsAll K H xs ds->IsAll K H' xs ds
 | [],xs,h=>by simp only[IsAll] at h ⊢;exact h
 | d::ds,xs,h=>by
  simp only[IsAll] at h ⊢
  obtain⟨v,vs,e,q,r⟩:=h;exact⟨v,vs,e,Is.same s d v q,IsAll.same s ds vs r⟩
end
section
variable {X:Cx}{aa:List (Addr×Obj)}{σ:St}{H:Hp}{s:Shared}
mutual
theorem Is.reads (I:Inv X aa σ H s):∀(d:PyData) (v:V) (u:Value),Is X.K H v d->RelV v u->∃as,Reads s.heap u d as
 | .none,v,u,h,r=>by
  simp only[Is] at h;subst h;cases r;exact⟨_,.none⟩
 | .bool b,v,u,h,r=>by
  simp only[Is] at h;subst h;cases r;exact⟨_,.bool b⟩
 | .int i,v,u,h,r=>by
  simp only[Is] at h;subst h;obtain⟨t,rfl⟩:=r;exact⟨_,.int i t⟩
 | .str x,v,u,h,r=>by
  simp only[Is] at h;subst h;obtain⟨t,rfl⟩:=r;exact⟨_,.str x t⟩
 | .list ds,v,u,h,r=>by
  simp only[Is] at h;obtain⟨a,xs,rfl,q,al⟩:=h;cases r;obtain⟨its,rv,⟨o,n,e,c,_,hd⟩,_⟩:=I.list (SqL.of q);obtain⟨as,ra⟩:=IsAll.reads I ds xs its al rv;exact⟨_,.list e c hd (by simpa using ra)⟩
 | .tuple ds,v,u,h,r=>by
  simp only[Is] at h;obtain⟨a,xs,rfl,q,al⟩:=h;cases r;obtain⟨its,rv,⟨o,e,c,n,hd⟩,_⟩:=I.tuple (SqT.of q);obtain⟨as,ra⟩:=IsAll.reads I ds xs its al rv;exact⟨_,.tuple e c hd (by simpa using ra)⟩
 | .dict _,v,u,h,r=>by simp only[Is] at h
theorem IsAll.reads (I:Inv X aa σ H s):∀(ds:List PyData) (xs:List V) (us:List Value),IsAll X.K H xs ds->Vals xs us->∃as,ReadsAll s.heap us ds as
 | [],xs,us,h,r=>by
  simp only[IsAll] at h;subst h;cases r;exact⟨_,.nil⟩
 | d::ds,xs,us,h,r=>by
  simp only[IsAll] at h;obtain⟨v,vs,rfl,q,al⟩:=h;cases r with
  | cons r1 r2 =>
   obtain⟨as,ra⟩:=Is.reads I d v _ q r1;obtain⟨bs,rb⟩:=IsAll.reads I ds vs _ al r2;exact⟨_,.cons ra rb⟩
end
end
theorem z0c {K:y03}{H:Hp}:∀{ds:List PyData} {xs:List V},IsAll K H xs ds->xs.length=ds.length
 | [],xs,h=>by simp only[IsAll] at h;subst h;rfl
 | d::ds,xs,h=>by
  simp only[IsAll] at h;obtain⟨v,vs,rfl,q,al⟩:=h;simp[z0c al]
theorem zaf {K:y03}{H:Hp}:∀{ds:List PyData} {xs:List V} {i:Nat} {x:V},IsAll K H xs ds->xs[i]?=some x->∃d,ds[i]?=some d/\Is K H x d
 | [],xs,i,x,h,e=>by simp only[IsAll] at h;subst h;simp at e
 | d::ds,xs,i,x,h,e=>by
  simp only[IsAll] at h;obtain⟨v,vs,rfl,q,al⟩:=h;cases i with
  | zero=>simp at e;subst e;exact⟨d,rfl,q⟩
  | succ i =>
   obtain⟨d',h1,h2⟩:=zaf (i:=i) al (by simpa using e)
   exact⟨d',by simpa using h1,h2⟩
theorem z0z {K:y03}{H:Hp}:∀{ds:List PyData} {xs:List V} {i:Nat} {d:PyData},IsAll K H xs ds->ds[i]?=some d->∃x,xs[i]?=some x/\Is K H x d
 | [],xs,i,x,h,e=>by simp at e
 | d::ds,xs,i,x,h,e=>by
  simp only[IsAll] at h;obtain⟨v,vs,rfl,q,al⟩:=h;cases i with
  | zero=>simp at e;subst e;exact⟨v,rfl,q⟩
  | succ i =>
   obtain⟨d',h1,h2⟩:=z0z (i:=i) al (by simpa using e)
   exact⟨d',by simpa using h1,h2⟩
theorem z7w {K:y03}{H:Hp}:∀{ds es:List PyData} {xs ys:List V},IsAll K H xs ds->IsAll K H ys es->IsAll K H (xs++ys) (ds++es)
 | [],es,xs,ys,h,g=>by simp only[IsAll] at h;subst h;exact g
 | d::ds,es,xs,ys,h,g=>by
  simp only[IsAll] at h;obtain⟨v,vs,rfl,q,al⟩:=h;show IsAll K H (v::(vs++ys)) (d::(ds++es));simp only[IsAll];exact⟨v,vs++ys,rfl,q,z7w al g⟩
theorem z50 {K:y03}{H:Hp}{v:V}{d:PyData}(h:Is K H v d):IsAll K H [v] [d]:=by
 simp only[IsAll];exact⟨v,[],rfl,h,rfl⟩
theorem z0p {K:y03}{H:Hp}:IsAll K H [] []:=by simp only[IsAll]
theorem z1o {K:y03}{H:Hp}{v:V}{vs:List V}{d:PyData}{ds:List PyData}(h:Is K H v d)(g:IsAll K H vs ds):IsAll K H (v::vs) (d::ds):=by
 simp only[IsAll];exact⟨v,vs,rfl,h,g⟩
theorem z1l {K:y03}{H:Hp}{v:V}{vs:List V}{d:PyData}{ds:List PyData}(g:IsAll K H vs ds)(h:Is K H v d):IsAll K H (vs ++ [v]) (ds ++ [d]):=z7w g (z50 h)
theorem z31 {K:y03}{H:Hp}:∀(ns:List Int),IsAll K H (ns.map V.int) (ns.map PyData.int)
 | []=>z0p
 | n::ns=>z1o (by simp only[Is]) (z31 ns)
theorem z9o {K:y03}{H:Hp}:∀{ns:List Int} {xs:List V},IsAll K H xs (ns.map PyData.int)->xs=ns.map V.int
 | [],xs,h=>by simpa only[IsAll,y3j] using h
 | n::ns,xs,h=>by
  simp only[IsAll,y0n,Is] at h;obtain⟨v,vs,rfl,rfl,al⟩:=h;rw[z9o al];rfl
theorem z9n {K:y03}{H:Hp}:∀{ds:List PyData} {xs:List V} (n:Nat),IsAll K H xs ds->IsAll K H (xs.take n) (ds.take n)
 | [],xs,n,h=>by simp only[IsAll] at h;subst h;simp[z0p]
 | d::ds,xs,n,h=>by
  simp only[IsAll] at h;obtain⟨v,vs,rfl,q,al⟩:=h;cases n with
  | zero=>simp[z0p]
  | succ n=>simpa using z1o q (z9n n al)
theorem is_int {K:y03}{H:Hp}{v:V}{i:Int}:Is K H v (.int i)↔v = .int i:=by simp only[Is]
theorem is_list {K:y03}{H:Hp}{v:V}{ds:List PyData}:Is K H v (.list ds)↔∃a xs,v = .ref a/\H a=some (.lst xs)/\IsAll K H xs ds:=by simp only[Is]
theorem is_tuple {K:y03}{H:Hp}{v:V}{ds:List PyData}:Is K H v (.tuple ds)↔∃a xs,v = .ref a/\H a=some (.tup xs)/\IsAll K H xs ds:=by simp only[Is]
def z2b (n d:Int):PyData:=.tuple [.int n,.int d]
theorem is_frac {K:y03}{H:Hp}{v:V}{n d:Int}:Is K H v (z2b n d)↔∃a,v = .ref a/\H a=some (.tup [.int n,.int d]):=by
 unfold z2b;rw[is_tuple];constructor
 ·rintro⟨a,xs,rfl,h,al⟩;simp only[IsAll,Is] at al;obtain⟨_,_,rfl,rfl,_,_,rfl,rfl,rfl⟩:=al;exact⟨a,rfl,h⟩
 ·rintro⟨a,rfl,h⟩;exact⟨a,_,rfl,h,z31 [n,d]⟩
def Sh (n:Nat)(d:PyData):Prop:=d.canLay0=true/\d.depth≤n
theorem z6l {n:Nat}(i:Int):Sh n (.int i):=⟨by simp only[PyData.canLay0],by simp only[PyData.depth];omega⟩
theorem zdd {n:Nat}{ds:List PyData}(h:∀d∈ds,Sh n d):PyData.canLayAll0 ds=true/\PyData.depthAll ds≤n:=by
 induction ds with
 | nil=>exact⟨by simp only[PyData.canLayAll0],by simp only[PyData.depthAll];omega⟩
 | cons d ds ih =>
  obtain⟨h1,h2⟩:=h d y0h;obtain⟨h3,h4⟩:=ih λx hx=>h x (y0b _ hx);refine⟨by simp only[PyData.canLayAll0,h1,h3,Bool.and_self],?_⟩
  simp only[PyData.depthAll];omega
theorem z3j {n:Nat}{ds:List PyData}(h:∀d∈ds,Sh n d):Sh (n+1) (.list ds):=⟨by simp only[PyData.canLay0];exact(zdd h).1,by simp only[PyData.depth];have:=(zdd h).2;omega⟩
theorem zdh {n:Nat}{ds:List PyData}(h:∀d∈ds,Sh n d):Sh (n+1) (.tuple ds):=⟨by simp only[PyData.canLay0];exact(zdd h).1,by simp only[PyData.depth];have:=(zdd h).2;omega⟩
theorem zcu {n:Nat}(a b:Int):Sh (n+1) (z2b a b):=zdh λd hd=>by
 simp only[y0m,y1g,or_false] at hd;rcases hd with rfl | rfl<;>exact z6l _
theorem Sh.shaped {d:PyData}(h:Sh 60 d):y6h d=true:=by
 unfold y6h;rw[h.1,decide_eq_true (y13 h.2 (by decide))]
 rfl
theorem Sh.le {m n:Nat}{d:PyData}(h:Sh m d)(k:m≤n):Sh n d:=⟨h.1,y13 h.2 k⟩
theorem z58 {d:PyData}(h:Sh 60 d):PyData.eqv d d=true:=PySem.SeqAt.eqv_refl d h.1
theorem zdn (a b c d:Int):PyData.eqv (z2b a b) (z2b c d)=(decide (a=c)&&decide (b=d)):=by
 unfold z2b;simp only[PyData.eqv,PyData.eqvAll];rw[y2o];simp
section
variable {X:Cx}
def zq9 (K:y03)(x y:V)(H:Hp)(Q:VK):Prop:=∃d d',Is K H x d/\Is K H y d'/\Sh 60 d/\Sh 60 d'/\Q (.bl (PyData.eqv d d')) H
def zqi (K:y03)(x y:V)(H:Hp)(Q:VK):Prop:=∃d d',Is K H x d/\Is K H y d'/\Sh 60 d/\Sh 60 d'/\Q (.bl (!PyData.eqv d d')) H
theorem zpw {k:Nat}{A:Around}(hr:Room k A):A.units+64<cLine:=by have:=hr.un;omega
theorem zdj {k:Nat}(hr:Room k X.A):OpR X (compareOp .Eq) (zq9 X.K):=by
 intro aa s σ H x y v u Q I rx ry h;obtain⟨d,d',h1,h2,s1,s2,q⟩:=h;obtain⟨as,ra⟩:=Is.reads I d x v h1 rx;obtain⟨bs,rb⟩:=Is.reads I d' y u h2 ry;exact PySem.SeqAt.compareEq_shaped ra rb s1.shaped s2.shaped (zpw hr) ⟨.bl (PyData.eqv d d'),H,I,rfl,q⟩
theorem zbv {k:Nat}(hr:Room k X.A):OpR X (compareOp .NotEq) (zqi X.K):=by
 intro aa s σ H x y v u Q I rx ry h;obtain⟨d,d',h1,h2,s1,s2,q⟩:=h;obtain⟨as,ra⟩:=Is.reads I d x v h1 rx;obtain⟨bs,rb⟩:=Is.reads I d' y u h2 ry;exact PySem.SeqAt.compareNe_shaped ra rb s1.shaped s2.shaped (zpw hr) ⟨.bl (!PyData.eqv d d'),H,I,rfl,q⟩
def zg5:TS:=λ_ _ _=>False
theorem zjq {st:Stmt}:PS X st zg5:=λ_ _ _ _ _ _ h=>h.elim
def zd5 (c:TT)(tb:TS)(D:Ends)(σ:St)(H:Hp):Prop:=∃W:Nat->St->Hp->Prop,(∃m,W m σ H)/\∀m σ H,W m σ H ->
 c σ H λb H1=>if b=true then tb { D with nx:=fun σ' H'=>∃m',m'<m/\W m' σ' H',ct:=fun σ' H'=>∃m',m'<m/\W m' σ' H',bk:=D.nx } σ H1 else D.nx σ H1
theorem z4g {c:Expr}{body:List Stmt}{tc:TT}{tb:TS}{pos:Pos}(hc:PT X c tc)(hb:PSs X body tb)(hp:PassesOwn (model X.prog X.w) X.A X.env X.xe:=by exact PassesOwn.never):PS X (.While c body [] pos) (zd5 tc tb):=by
 intro aa s σ H D I h;obtain⟨W,⟨m0,w0⟩,turn⟩:=h;refine wpAny_While (codeAny_whileLoop (λn s'=>∃ σ' H',Inv X aa σ' H' s'/\W n σ' H') ?_ m0 ⟨σ,H,I,w0⟩);rintro n s1 ⟨σ1,H1,I1,w1⟩;refine wpAny_passesOwn hp (thn (hc aa s1 σ1 H1 _ I1 (turn n σ1 H1 w1)) λb s2 h2=>?_);obtain⟨H2,I2,q2⟩:=h2;cases b with
 | true =>
  rw[if_pos rfl] at q2 ⊢
  refine wpAny_passesOwn hp (thn (hb aa s2 σ1 H2 _ I2 q2) λf s3 q3=>?_);cases f with
  | next =>
   obtain⟨σ3,H3,I3,m',l3,n3⟩:=q3;exact⟨m',l3,σ3,H3,I3,n3⟩
  | cont =>
   obtain⟨σ3,H3,I3,m',l3,n3⟩:=q3;exact⟨m',l3,σ3,H3,I3,n3⟩
  | brk=>exact q3
  | ret v=>exact q3
 | false =>
  rw[if_neg y15] at q2 ⊢
  exact wpAny_execs_nil ⟨σ1,H2,I2,q2⟩
end
end L2.EX
set_option Elab.async false
set_option linter.all false
set_option maxRecDepth 100000
namespace L2.EX
open PySem PySem.Spec PyProof.Rows
section
variable {X:Cx}
theorem zer {A:Around}(h:A.handled=none):A.in1.handled=none:=h
theorem walked {aa:List (Addr×Obj)}{σ:St}{H:Hp}{s:Shared}(I:Inv X aa σ H s){o:Obj}{h':Heap}{tk:Nat}(hk:∀b ob,b ∉ [s.heap.objs.size]->(s.heap.push o).get? b=some ob->h'.get? b=some ob):Inv X aa σ H { s with heap:=h',toks:=tk } :=
 I.kept (t':=tk) λb ob e=>hk b ob (by
  intro z;have e1:b=s.heap.objs.size:=y0e.mp z;have e2:=Heap.lt_size e
  rw[e1] at e2;exact y2v _ e2) (Heap.get?_push_of_some _ e)
theorem zi0:∀{bs:List Bool} {us:List Value},Vals (bs.map V.bl) us->us=bs.map Value.bool
 | [],_,.nil=>rfl
 | b::bs,_,.cons r t=>by
  cases r;rw[zi0 t];rfl
theorem z2f:∀{ns:List Int} {us:List Value} {i:Nat} {u:Value},Vals (ns.map V.int) us->us[i]?=some u->∃t,u = .int (ns.getD i 0) t
 | [],_,_,_,.nil,h=>by simp at h
 | n::ns,_,0,_,.cons r t,h=>by
  simp at h;subst h;exact r
 | n::ns,_,i+1,_,.cons r t,h=>by
  obtain⟨t',e⟩:=z2f (i:=i) t (by simpa using h)
  exact⟨t',by simpa using e⟩
def zpu (K:y03)(xs:List V)(H:Hp)(Q:VK):Prop:=match xs with
 | [.ref p]=>∃bs:List Bool,SqL K H p (bs.map V.bl)/\Q (.bl (bs.any id)) H
 | _=>False
theorem zi7 (bs:List Bool):((y0d bs.length).any λi=>bs.getD i false)=bs.any id:=by
 rw[y2o,y1v,y1v];constructor
 ·rintro⟨i,hi,e⟩;have hl:=y1j.mp hi;refine⟨true,?_,rfl⟩;have:bs[i]?=some true:=by
   rw[y06,y01 hl] at e;rw[y01 hl];exact congrArg some e
  exact y02 this
 ·rintro⟨b,hb,e⟩;obtain⟨i,hi⟩:=y0a hb;refine⟨i,y1j.mpr (y00.mp hi).1,?_⟩;rw[y06,hi];exact e
theorem zlq (hc:X.calm=true:=by rfl):z4l X (.builtin "any") (zpu X.K):=by
 intro aa s σ H xs us Q I r h;unfold zpu at h
 split at h
 ·rename_i p;obtain⟨bs,hS,q⟩:=h;obtain⟨u,rfl,ru⟩:=z6t r;cases ru;obtain⟨its,rv,pl,hz⟩:=I.list hS;have e:=zi0 rv;subst e;have hlt:p<s.heap.objs.size:=by
   obtain⟨o,n,e,_⟩:=pl;exact Heap.lt_size e
  refine call_any_walk (wpAny_pyIter_list pl.isList ?_);refine⟨s.heap.objs.size,_,_,_,_,_,λi=>bs.getD i false,rfl,Walks.list (zer (I.ok.hd hc)) s.heap.objs.size p (y0t hlt) _,⟨⟨_,Heap.get?_push_size _ rfl,rfl,rfl⟩,pl.isList.push _⟩,λi v s' Q' E' hv hq=>?_,λh' tk hk=>?_⟩
  ·have hv':(bs.map Value.bool)[i]?=some v:=by simpa using hv
   rw[y05] at hv';cases hb:bs[i]? with
   | none=>rw[hb] at hv';cases hv'
   | some b =>
    rw[hb] at hv';cases hv';have hq':Q' (bs.getD i false) s':=hq;rw[y06,hb] at hq';exact wpAny_truthy_bool hq'
  ·refine⟨.bl (bs.any id),H,walked I hk,?_,q⟩;rw[←zi7 bs];simp[RelV]
 ·exact h.elim
@[reducible] def zrj (K:y03)(xs:List V)(H:Hp)(Q:VK):Prop:=match xs with
 | [.ref p]=>∃ns:List Int,(SqL K H p (ns.map V.int))/\Q (.int ns.sum) H
 | _=>False
theorem z94 (ns:List Int):∀n,n≤ns.length->preSum (λi=>ns.getD i 0) n=(ns.take n).sum
 | 0,_=>by simp[preSum]
 | n+1,h=>by
  have ih:=z94 ns n (by omega)
  have hn:n<ns.length:=by omega
  have e:ns.take (n+1)=ns.take n ++ [ns[n]]:=(y5f hn).symm;rw[preSum,ih,y06,y01 hn,e,y27];simp
theorem zes (ns:List Int):preSum (λi=>ns.getD i 0) ns.length=ns.sum:=by
 rw[z94 ns _ (y09 _),List.take_length]
theorem zpk (hc:X.calm=true:=by rfl):z4l X (.builtin "sum") (zrj X.K):=by
 intro aa s σ H xs us Q I r h;unfold zrj at h
 split at h
 ·rename_i p;obtain⟨ns,hS,q⟩:=h;obtain⟨u,rfl,ru⟩:=z6t r;cases ru;obtain⟨its,rv,pl,hz⟩:=I.list hS;have hlen:=rv.length;have hlt:p<s.heap.objs.size:=by
   obtain⟨o,n,e,_⟩:=pl;exact Heap.lt_size e
  refine call_sum_walkG (wpAny_pyIter_list pl.isList ?_);refine⟨s.heap.objs.size,_,_,_,_,_,λi=>ns.getD i 0,rfl,Walks.list (zer (I.ok.hd hc)) s.heap.objs.size p (y0t hlt) _,⟨⟨_,Heap.get?_push_size _ rfl,rfl,rfl⟩,pl.isList.push _⟩,λb hb=>?_,λi v hv=>?_,λh' tk t' hk=>?_⟩
  ·rw[Heap.size_push];simp only[y0m,y1g,or_false] at hb;rcases hb with rfl | rfl
   ·exact y38 _
   ·exact y4c hlt
  ·exact z2f rv (by simpa using hv)
  ·refine⟨.int ns.sum,H,walked I hk,⟨t',?_⟩,q⟩;have e:its.toArray.size=ns.length:=by simpa using hlen.symm
   rw[e,zes]
 ·exact h.elim
@[reducible] def zoe (K:y03)(xs:List V)(H:Hp)(Q:VK):Prop:=match xs with
 | [.ref p]=>∃ns:List Int,SqL K H p (ns.map V.int)/\ns ≠ []/\∀z,z∈ns->(∀y∈ns,z≤y)->Q (.int z) H
 | _=>False
theorem z76 (bt:Nat->Nat->Bool):∀k,argBest bt k≤k
 | 0=>y09 _
 | k+1=>by
  have:=z76 bt k;unfold argBest
  split<;>omega
theorem z5z (ns:List Int):∀k,∀j≤k,ns.getD (argBest (λi j=>decide (ns.getD i 0<ns.getD j 0)) k) 0≤ns.getD j 0
 | 0,j,h=>by
  have:j=0:=by omega
  subst this;exact y2e _
 | k+1,j,h=>by
  have ih:=z5z ns k;unfold argBest
  split
  ·rename_i c;have c':=of_decide_eq_true c
   by_cases e:j=k+1
   ·subst e;exact y2e _
   ·have:=ih j (by omega)
    omega
  ·rename_i c
   by_cases e:j=k+1
   ·subst e;have:¬ns.getD (k+1) 0<ns.getD (argBest (λi j=>decide (ns.getD i 0<ns.getD j 0)) k) 0:=λz=>c (decide_eq_true z);omega
   ·exact ih j (by omega)
theorem zo9 (hc:X.calm=true:=by rfl):z4l X (.builtin "min") (zoe X.K):=by
 intro aa s σ H xs us Q I r h;unfold zoe at h
 split at h
 ·rename_i p;obtain⟨ns,hS,hne,q⟩:=h;obtain⟨u,rfl,ru⟩:=z6t r;cases ru;obtain⟨its,rv,pl,hz⟩:=I.list hS;have hlen:=rv.length;have esz:its.toArray.size=ns.length:=by simpa using hlen.symm
  have hpos:0<ns.length:=y0v.mpr hne;have hlt:p<s.heap.objs.size:=by
   obtain⟨o,n,e,_⟩:=pl;exact Heap.lt_size e
  refine call_min_walk (wpAny_pyIter_list pl.isList ?_);refine⟨s.heap.objs.size,_,_,_,_,_,λi j=>decide (ns.getD i 0<ns.getD j 0),rfl,Walks.list (zer (I.ok.hd hc)) s.heap.objs.size p (y0t hlt) _,⟨⟨_,Heap.get?_push_size _ rfl,rfl,rfl⟩,pl.isList.push _⟩,λb hb=>?_,by omega,λi j vi vj s' Q' E' hi hj hq=>?_,λv h' tk hv hk=>?_⟩
  ·rw[Heap.size_push];simp only[y0m,y1g,or_false] at hb;rcases hb with rfl | rfl
   ·exact y38 _
   ·exact y4c hlt
  ·obtain⟨t1,rfl⟩:=z2f rv (by simpa using hi)
   obtain⟨t2,rfl⟩:=z2f rv (by simpa using hj)
   exact lt_int hq
  ·have hv':its[argBest (λi j=>decide (ns.getD i 0<ns.getD j 0)) (its.length - 1)]?=some v:=by simpa using hv
   obtain⟨t,rfl⟩:=z2f rv hv';have esz':its.length=ns.length:=by simpa using esz
   rw[esz'];have hb:=z76 (λi j=>decide (ns.getD i 0<ns.getD j 0)) (ns.length - 1);refine⟨.int _,H,walked I hk,⟨t,rfl⟩,q _ ?_ λy hy=>?_⟩
   ·rw[y06,y01 (by omega)]
    exact y39 _
   ·obtain⟨j,hj⟩:=y0a hy;have hjl:=(y00.mp hj).1;have:=z5z ns (ns.length - 1) j (by omega)
    rw[show ns.getD j 0=y by rw[y06,hj];rfl] at this
    exact this
 ·exact h.elim
end
end L2.EX
namespace PM
structure Net where
 G:Nat
 nE:Nat
 ends:List (Nat×Nat)
 at':List (List Nat)
structure Net.WF (N:Net):Prop where
 gle:N.G≤N.nE
 len:N.at'.length=N.nE
 lo:∀(k:Nat) p,N.ends[k]?=some p->p.1<N.G/\N.G≤p.2/\p.2<N.nE
 mem:∀(e:Nat) l k,N.at'[e]?=some l->(k∈l↔∃p,N.ends[k]?=some p/\(p.1=e∨p.2=e))
def inc (p:Nat×Nat)(e:Nat):Bool:=decide (p.1=e∨p.2=e)
def load:List (Nat×Nat)->List Int->Nat->Int
 | p::r,s::q,e=>(if inc p e then s else 0)+load r q e
 | _,_,_=>0
theorem zea:∀{ends:List (Nat×Nat)} {sent:List Int} {k:Nat} {v s:Int} {p:Nat×Nat} {e:Nat},ends[k]?=some p->sent[k]?=some s->load ends (sent.set k v) e=load ends sent e+(if inc p e then v - s else 0)
 | [],_,_,_,_,_,_,h,_=>by simp at h
 | _::_,[],_,_,_,_,_,_,h=>by simp at h
 | p::r,s::q,0,v,s',p',e,h1,h2=>by
  simp at h1 h2;subst h1 h2;simp only[y42,load]
  split<;>omega
 | p::r,s::q,k+1,v,s',p',e,h1,h2=>by
  have ih:=zea (ends:=r) (sent:=q) (k:=k) (v:=v) (s:=s') (p:=p') (e:=e) (by simpa using h1) (by simpa using h2)
  simp only[y43,load,ih];omega
def addAll (a:Int)(sent:List Int)(l:List Nat):List Int:=l.foldl (λs k=>s.set k (s.getD k 0+a)) sent
theorem addAll_len (a:Int):∀(l:List Nat) (sent:List Int),(addAll a sent l).length=sent.length
 | [],_=>rfl
 | k::r,sent=>by
  show(addAll a (sent.set k _) r).length=_;rw[addAll_len a r,y25]
def z3n (ends:List (Nat×Nat))(e:Nat):List Nat->Int
 | []=>0
 | k::r=>(match ends[k]? with | some p=>if inc p e then 1 else 0 | none=>0)+z3n ends e r
theorem z5s {ends:List (Nat×Nat)}{a:Int}{e:Nat}:∀{l:List Nat} {sent:List Int},sent.length=ends.length->(∀k∈l,k<ends.length)->load ends (addAll a sent l) e=load ends sent e+a*z3n ends e l
 | [],sent,_,_=>by simp[addAll,z3n]
 | k::r,sent,hl,hk=>by
  have hk0:k<ends.length:=hk k y0h;have hs:sent[k]?=some (sent[k]'(by omega)):=y01 (by omega)
  have hp:ends[k]?=some ends[k]:=y01 hk0;have ih:=z5s (ends:=ends) (a:=a) (e:=e) (l:=r) (sent:=sent.set k (sent.getD k 0+a)) (by simpa using hl) (λj hj=>hk j (y0b _ hj))
  show load ends (addAll a (sent.set k (sent.getD k 0+a)) r) e=_;rw[ih,zea hp hs,z3n,hp];have hg:sent.getD k 0=sent[k]'(by omega):=by simp[y1n,hs]
  rw[hg]
  by_cases hc:inc ends[k] e=true
  ·simp only[hc,if_true,y4x,y4r];omega
  ·simp only[hc,if_false,y4x,Int.mul_zero];simp
theorem z66 {a:Int}:∀{l:List Nat} {sent:List Int} {k:Nat} {s:Int},sent[k]?=some s->(addAll a sent l)[k]?=some (s+a*(l.count k:Int))
 | [],sent,k,s,h=>by simp[addAll,h]
 | j::r,sent,k,s,h=>by
  have hk:k<sent.length:=(y00.mp h).1;show(addAll a (sent.set j (sent.getD j 0+a)) r)[k]?=_
  by_cases e:j=k
  ·subst e;have h':(sent.set j (sent.getD j 0+a))[j]?=some (s+a):=by
    rw[y0q hk];simp[y1n,h]
   rw[z66 h',List.count_cons_self]
   push_cast
   rw[y4x];simp;omega
  ·have h':(sent.set j (sent.getD j 0+a))[k]?=some s:=by rw[y10 e];exact h
   rw[z66 h',List.count_cons_of_ne (by simpa using e)]
def alt {α:Type}:Bool->List α->List α
 | _,[]=>[]
 | true,x::r=>x::alt false r
 | false,_::r=>alt true r
theorem alt_mem {α:Type}{x:α}:∀{b:Bool} {l:List α},x∈alt b l->x∈l
 | _,[],h=>by cases ‹Bool›<;>simp[alt] at h
 | true,y::r,h=>by
  rcases y0m.mp h with rfl | h
  ·exact y0h
  ·exact y0b _ (alt_mem h)
 | false,y::r,h=>y0b _ (alt_mem (b:=true) h)
theorem zdo {α:Type}{x:α}:∀{b:Bool} {l:List α},x∈alt b l->∃i,l[i]?=some x/\i % 2=(if b then 0 else 1)
 | b,[],h=>by cases b<;>simp[alt] at h
 | true,y::r,h=>by
  rcases y0m.mp h with rfl | h
  ·exact⟨0,rfl,rfl⟩
  ·obtain⟨i,h1,h2⟩:=zdo (b:=false) h;exact⟨i+1,by simpa using h1,by simp at h2 ⊢;omega⟩
 | false,y::r,h=>by
  obtain⟨i,h1,h2⟩:=zdo (b:=true) h;exact⟨i+1,by simpa using h1,by simp at h2 ⊢;omega⟩
theorem zir {l:List Nat}(hn:l.Nodup)(b:Bool)(k:Nat):(alt b l).count k≤1:=by
 have hs:∀(b:Bool) (l:List Nat),(alt b l).Sublist l:=by
  intro b l
  induction l generalizing b with
  | nil=>cases b<;>simp[alt]
  | cons x r ih =>
   cases b
   ·exact List.Sublist.cons _ (ih true)
   ·exact List.Sublist.cons_cons _ (ih false)
 exact y4p.mp (hn.sublist (hs b l)) k
def Tie (N:Net)(a k b:Nat):Prop:=∃p,N.ends[k]?=some p/\((p.1=a/\p.2=b)∨(p.2=a/\p.1=b))
def znf (N:Net):Nat->List Nat->Nat->Prop
 | e,[],f=>e=f
 | e,k::r,f=>∃b,Tie N e k b/\znf N b r f
def one (c:Prop) [Decidable c]:Int:=if c then 1 else 0
theorem znn {N:Net}(W:N.WF){a k b x:Nat}(h:Tie N a k b):(match N.ends[k]? with | some p=>if inc p x then (1:Int) else 0 | none=>0)=one (x=a)+one (x=b):=by
 obtain⟨p,e,h⟩:=h;have hw:=W.lo k p e;rw[e];simp only[inc,one,decide_eq_true_eq];rcases h with ⟨rfl,rfl⟩ | ⟨rfl,rfl⟩
 ·by_cases h1:p.1=x<;>by_cases h2:p.2=x<;>simp[h1,h2,eq_comm]<;>omega
 ·by_cases h1:p.1=x<;>by_cases h2:p.2=x<;>simp[h1,h2,eq_comm]<;>omega
theorem z8e {N:Net}(W:N.WF){f x:Nat}:∀{way:List Nat} {e:Nat},znf N e way f->z3n N.ends x (alt true way) - z3n N.ends x (alt false way)=one (x=e)+(if way.length % 2=0 then - one (x=f) else one (x=f))
 | [],e,h=>by
  have h':e=f:=h;subst h';simp[alt,z3n];omega
 | k::r,e,h=>by
  obtain⟨b,t,c⟩:=h;have ih:=z8e W (x:=x) c;have hi:=znn W (x:=x) t
  show((match N.ends[k]? with | some p=>if inc p x then (1:Int) else 0 | none=>0)+z3n N.ends x (alt false r)) - z3n N.ends x (alt true r)=_
  rw[hi];simp only[y1f]
  by_cases hp:r.length % 2=0
  ·rw[if_pos hp] at ih;rw[if_neg (by omega)]
   omega
  ·rw[if_neg hp] at ih;rw[if_pos (by omega)]
   omega
structure Flow (N:Net)(cap sent spare:List Int):Prop where
 ls:sent.length=N.ends.length
 lc:cap.length=N.nE
 lp:spare.length=N.nE
 nn:∀(k:Nat) s,sent[k]?=some s->0≤s
 eq:∀(e:Nat) c s,cap[e]?=some c->spare[e]?=some s->s=c - load N.ends sent e
 sp:∀(e:Nat) s,spare[e]?=some s->0≤s
def Go (N:Net)(sent:List Int)(a k:Nat):Prop:=a<N.G∨∃s,sent[k]?=some s/\0<s
def Lv (steps:List Int)(e:Nat):Int:=steps.getD e (-1)
structure Path (N:Net)(steps sent:List Int)(es way:List Nat):Prop where
 len:es.length=way.length+1
 link:∀(i:Nat) k,way[i]?=some k->∃a b,es[i]?=some a/\es[i+1]?=some b/\Tie N a k b/\Go N sent a k/\Lv steps b=Lv steps a+1
theorem ze4 {N:Net}:∀{way es:List Nat} {g f:Nat},es.length=way.length+1->es[0]?=some g->es[way.length]?=some f->(∀(i:Nat) k,way[i]?=some k->∃a b,es[i]?=some a/\es[i+1]?=some b/\Tie N a k b)->znf N g way f
 | [],es,g,f,_,h0,h1,_=>by
  have h1':es[0]?=some f:=h1;rw[h0] at h1';exact y11 h1'
 | k::r,[],g,f,hl,_,_,_=>by simp at hl
 | k::r,e::es,g,f,hl,h0,h1,h=>by
  obtain⟨a,b,ea,eb,t⟩:=h 0 k rfl;have e1:e=g:=by simpa using h0
  have e2:e=a:=by simpa using ea
  subst e1 e2;refine⟨b,t,ze4 (es:=es) (by simpa using hl) (by simpa using eb) (by simpa using h1) λi k' hk=>?_⟩
  obtain⟨a',b',ea',eb',t'⟩:=h (i+1) k' (by simpa using hk)
  exact⟨a',b',by simpa using ea',by simpa using eb',t'⟩
theorem Path.lev {N:Net}{steps sent:List Int}{es way:List Nat}(P:Path N steps sent es way){g:Nat}(h0:es[0]?=some g):∀{i e:Nat},es[i]?=some e->Lv steps e=Lv steps g+i
 | 0,e,h=>by
  rw[h0] at h;cases h;simp
 | i+1,e,h=>by
  have hi:i+1<es.length:=(y00.mp h).1;have hw:i<way.length:=by have:=P.len;omega
  obtain⟨a,b,ea,eb,_,_,hl⟩:=P.link i way[i] (y01 hw);rw[h] at eb;cases eb;have:=P.lev h0 ea;rw[hl,this]
  push_cast
  omega
theorem Tie.side {N:Net}(W:N.WF){a k b:Nat}(t:Tie N a k b):(a<N.G↔¬b<N.G):=by
 obtain⟨p,e,h⟩:=t;have:=W.lo k p e;rcases h with ⟨rfl,rfl⟩ | ⟨rfl,rfl⟩<;>omega
theorem Path.side {N:Net}(W:N.WF){steps sent:List Int}{es way:List Nat}(P:Path N steps sent es way){g:Nat}(h0:es[0]?=some g)(hg:g<N.G):∀{i e:Nat},es[i]?=some e->(e<N.G↔i % 2=0)
 | 0,e,h=>by
  rw[h0] at h;cases h;simp[hg]
 | i+1,e,h=>by
  have hi:i+1<es.length:=(y00.mp h).1;have hw:i<way.length:=by have:=P.len;omega
  obtain⟨a,b,ea,eb,t,_,_⟩:=P.link i way[i] (y01 hw);rw[h] at eb;cases eb;have h1:=P.side W h0 hg ea;have h2:=t.side W
  by_cases ha:a<N.G
  ·have:¬e<N.G:=h2.mp ha;have:i % 2=0:=h1.mp ha
   constructor<;>intro q<;>omega
  ·have q1:e<N.G:=Classical.byContradiction λz=>ha (h2.mpr z);have q2:¬i % 2=0:=λz=>ha (h1.mpr z)
   constructor
   ·intro _;omega
   ·intro _;exact q1
theorem Path.nodup {N:Net}{steps sent:List Int}{es way:List Nat}(P:Path N steps sent es way):way.Nodup:=by
 cases h0:es[0]? with
 | none =>
  have:=P.len;rw[y3b] at h0;omega
 | some g =>
  rw[List.Nodup,y2j];intro i j hi hj hij e;obtain⟨a,b,ea,eb,⟨p,ep,hp⟩,_,l1⟩:=P.link i way[i] (y01 hi);obtain⟨c,d,ec,ed,⟨q,eq,hq⟩,_,l2⟩:=P.link j way[j] (y01 hj);rw[←e,ep] at eq;cases eq;have v1:=P.lev h0 ea;have v2:=P.lev h0 ec
  rcases hp with ⟨rfl,rfl⟩ | ⟨rfl,rfl⟩<;>rcases hq with ⟨rfl,rfl⟩ | ⟨rfl,rfl⟩<;>omega
theorem Path.lt {N:Net}{steps sent:List Int}{es way:List Nat}(P:Path N steps sent es way){k:Nat}(h:k∈way):k<N.ends.length:=by
 obtain⟨i,hi⟩:=y0a h;obtain⟨a,b,_,_,⟨p,ep,_⟩,_,_⟩:=P.link i k hi;exact(y00.mp ep).1
def sendBy (a:Int)(sent:List Int)(way:List Nat):List Int:=addAll (-a) (addAll a sent (alt true way)) (alt false way)
theorem send_len (a:Int)(sent:List Int)(way:List Nat):(sendBy a sent way).length=sent.length:=by
 unfold sendBy;rw[addAll_len,addAll_len]
theorem zgx {N:Net}(W:N.WF){steps sent:List Int}{es way:List Nat}(P:Path N steps sent es way){g f:Nat}{a:Int}(h0:es[0]?=some g)(h1:es[way.length]?=some f)(hg:g<N.G)(hf:¬f<N.G)(hl:sent.length=N.ends.length)(x:Nat) :
  load N.ends (sendBy a sent way) x=load N.ends sent x+a*(one (x=g)+one (x=f)):=by
 have c:=ze4 P.len h0 h1 λi k hk=>let ⟨a,b,e1,e2,t,_⟩:=P.link i k hk;⟨a,b,e1,e2,t⟩
 have d:=z8e W (x:=x) c;have hodd:way.length % 2=1:=by
  have:=P.side W h0 hg h1;have:¬way.length % 2=0:=λz=>hf (this.mpr z)
  omega
 rw[if_neg (by omega)] at d
 unfold sendBy;rw[z5s (by rw[addAll_len];exact hl) (λk hk=>P.lt (alt_mem hk)),z5s hl (λk hk=>P.lt (alt_mem hk))]
 rw[←d,Int.mul_sub,y79];omega
theorem zig {a:Int}{sent:List Int}{way:List Nat}{k:Nat}{s:Int}(h:sent[k]?=some s):(sendBy a sent way)[k]?=some (s+a*((alt true way).count k:Int) - a*((alt false way).count k:Int)):=by
 unfold sendBy;rw[z66 (z66 h),y79];rfl
theorem Flow.send {N:Net}(W:N.WF){cap steps sent spare:List Int}{es way:List Nat}(F:Flow N cap sent spare)(P:Path N steps sent es way){g f:Nat}{a x y:Int}(h0:es[0]?=some g)(h1:es[way.length]?=some f)(hg:g<N.G)(hf:¬f<N.G)
  (hx:spare[g]?=some x) (hy:spare[f]?=some y) (ha:0≤a) (hax:a≤x) (hay:a≤y) (hb:∀k∈alt false way,∀s,sent[k]?=some s->a≤s):Flow N cap (sendBy a sent way) ((spare.set g (x - a)).set f (y - a)):=by
 have hne:g≠f:=by omega
 have hgl:g<spare.length:=(y00.mp hx).1;have hfl:f<spare.length:=(y00.mp hy).1
 refine⟨by rw[send_len];exact F.ls,F.lc,by simpa using F.lp,λk s' h=>?_,λe c s' hc h=>?_,λe s' h=>?_⟩
 ·have hk:k<sent.length:=by
   have:=(y00.mp h).1;rw[send_len] at this;exact this
  have hs:sent[k]?=some sent[k]:=y01 hk;rw[zig hs] at h;cases h;have n0:=F.nn k _ hs
  have c1:(0:Int)≤a*((alt true way).count k:Int):=y29 ha (y6i _)
  by_cases hm:k∈alt false way
  ·have hq:=hb k hm _ hs;have h2:=zir P.nodup false k
   have c2:a*((alt false way).count k:Int)≤a*1:=y2y (by omega) ha
   omega
  ·have z:(alt false way).count k=0:=y6j.mpr hm;rw[z];simp;omega
 ·rw[zgx W P h0 h1 hg hf F.ls]
  by_cases e1:e=f
  ·subst e1;rw[y0q (by simpa using hfl)] at h
   cases h;have:=F.eq e c y hc hy;simp[one,Ne.symm hne];omega
  ·rw[y10 (Ne.symm e1)] at h
   by_cases e2:e=g
   ·subst e2;rw[y0q hgl] at h;cases h;have:=F.eq e c x hc hx;simp[one,hne];omega
   ·rw[y10 (Ne.symm e2)] at h;have:=F.eq e c s' hc h;simp[one,e1,e2];omega
 ·by_cases e1:e=f
  ·subst e1;rw[y0q (by simpa using hfl)] at h
   cases h;omega
  ·rw[y10 (Ne.symm e1)] at h
   by_cases e2:e=g
   ·subst e2;rw[y0q hgl] at h;cases h;omega
   ·rw[y10 (Ne.symm e2)] at h;exact F.sp e s' h
structure Steps (N:Net)(sent spare steps:List Int):Prop where
 len:steps.length=N.nE
 zero:∀e,Lv steps e=0->e<N.G/\∃x,spare[e]?=some x/\0<x
 src:∀(g:Nat) x,g<N.G->spare[g]?=some x->0<x->Lv steps g=0
 pred:∀e,1≤Lv steps e->∃a k,Tie N a k e/\Go N sent a k/\Lv steps a+1=Lv steps e
def Room (N:Net)(spare:List Int)(e:Nat):Prop:=N.G≤e/\∃x,spare[e]?=some x/\0<x
def zor (N:Net)(sent steps:List Int):Prop:=∀a k b,Tie N a k b->Go N sent a k->0≤Lv steps a->0≤Lv steps b
def Leads (N:Net)(sent steps:List Int)(a k b:Nat):Prop:=Tie N a k b/\Go N sent a k/\Lv steps b=Lv steps a+1
def Exh (N:Net)(spare tried:List Int)(e:Nat):Prop:=¬Room N spare e/\∃l,N.at'[e]?=some l/\tried[e]?=some (l.length:Int)
def Dead (N:Net)(sent spare steps tried:List Int):Prop:=∀(e:Nat) l (j:Nat) k t,N.at'[e]?=some l->l[j]?=some k->tried[e]?=some t->(j:Int)<t->∀b,Leads N sent steps e k b->Exh N spare tried b
theorem Tie.mem {N:Net}(W:N.WF){a k b:Nat}{l:List Nat}(t:Tie N a k b)(h:N.at'[a]?=some l):k∈l:=by
 obtain⟨p,e,q⟩:=t;refine(W.mem a l k h).mpr ⟨p,e,?_⟩;rcases q with ⟨q,_⟩ | ⟨q,_⟩
 ·exact .inl q
 ·exact .inr q
theorem Dead.next {N:Net}(W:N.WF){sent spare steps tried:List Int}(D:Dead N sent spare steps tried){a k b:Nat}(x:Exh N spare tried a)(h:Leads N sent steps a k b):Exh N spare tried b:=by
 obtain⟨_,l,h1,h2⟩:=x;have hm:=h.1.mem W h1;obtain⟨j,hj⟩:=y0a hm;have hjl:j<l.length:=(y00.mp hj).1
 exact D a l j k _ h1 hj h2 (by omega) b h
theorem Dead.all {N:Net}(W:N.WF){sent spare steps tried:List Int}(S:Steps N sent spare steps)(D:Dead N sent spare steps tried)(h:∀g,Lv steps g=0->Exh N spare tried g):∀(d:Nat) e,Lv steps e=d->Exh N spare tried e
 | 0,e,he=>h e (by simpa using he)
 | d+1,e,he=>by
  obtain⟨a,k,t,g,l⟩:=S.pred e (by rw[he];push_cast;omega)
  have ha:Lv steps a=d:=by push_cast at he;omega
  exact D.next W (Dead.all W S D h d a ha) ⟨t,g,by omega⟩
theorem Steps.least {N:Net}{sent spare steps:List Int}(S:Steps N sent spare steps)(T:Nat->Prop)(h1:∀(g:Nat) x,g<N.G->spare[g]?=some x->0<x->T g)(h2:∀a k b,Tie N a k b->Go N sent a k->T a->T b):∀(d:Nat) e,Lv steps e=d->T e
 | 0,e,he=>by
  obtain⟨hg,x,hx,h0⟩:=S.zero e (by simpa using he)
  exact h1 e x hg hx h0
 | d+1,e,he=>by
  obtain⟨a,k,t,g,l⟩:=S.pred e (by rw[he];push_cast;omega)
  exact h2 a k e t g (Steps.least S T h1 h2 d a (by push_cast at he;omega))
theorem Tie.symm {N:Net}{a k b:Nat}(t:Tie N a k b):Tie N b k a:=by
 obtain⟨p,e,h⟩:=t;exact⟨p,e,h.symm.imp (λz=>⟨z.2,z.1⟩) (λz=>⟨z.2,z.1⟩)⟩
structure Rows (N:Net)(sent spare:List Int)(d:Nat)(row:List Nat)(steps:List Int):Prop where
 st:Steps N sent spare steps
 row:∀e,e∈row↔Lv steps e=d
 top:∀e,Lv steps e≤d
 exp:∀a k b,Tie N a k b->Go N sent a k->0≤Lv steps a->Lv steps a<d->0≤Lv steps b
 dry:∀e,0≤Lv steps e->Lv steps e<d->¬Room N spare e
structure Behind (N:Net)(sent:List Int)(d:Nat)(row:List Nat)(aq:List Int)(done:Nat->Nat->Prop)(steps:List Int)(behind:List Nat):Prop where
 len:steps.length=aq.length
 old:∀e,0≤Lv aq e->Lv steps e=Lv aq e
 new:∀e,Lv aq e<0->(Lv steps e=d+1/\e∈behind/\∃a k,a∈row/\Tie N a k e/\Go N sent a k)∨(Lv steps e<0/\e ∉ behind)
 beh:∀e∈behind,Lv aq e<0
 cl:∀a k b,done a k->Tie N a k b->Go N sent a k->0≤Lv steps b
theorem lv_set {steps:List Int}{i e:Nat}{v:Int}(h:i<steps.length):Lv (steps.set i v) e=if e=i then v else Lv steps e:=by
 unfold Lv;rw[y06,y06]
 by_cases he:e=i
 ·subst he;rw[y0q h,if_pos rfl];rfl
 ·rw[y10 (Ne.symm he),if_neg he]
theorem Behind.start {N:Net}{sent:List Int}{d:Nat}{row:List Nat}{aq:List Int}:Behind N sent d row aq (λ_ _=>False) aq [] :=
 ⟨rfl,λ_ _=>rfl,λe h=>.inr ⟨h,by simp⟩,λe h=>by simp at h,λ_ _ _ h=>h.elim⟩
theorem Behind.weak {N:Net}{sent:List Int}{d:Nat}{row:List Nat}{aq steps:List Int}{behind:List Nat}{P Q:Nat->Nat->Prop}(B:Behind N sent d row aq P steps behind)(h:∀a k,Q a k->P a k):Behind N sent d row aq Q steps behind :=
 ⟨B.len,B.old,B.new,B.beh,λa k b q=>B.cl a k b (h a k q)⟩
theorem Behind.skip {N:Net}(W:N.WF){sent:List Int}{d:Nat}{row:List Nat}{aq steps:List Int}{behind:List Nat}{P:Nat->Nat->Prop}{a k b:Nat}(B:Behind N sent d row aq P steps behind)(t:Tie N a k b)(h:0≤Lv steps b∨¬Go N sent a k) :
  Behind N sent d row aq (λx y=>P x y∨(x=a/\y=k)) steps behind:=by
 refine⟨B.len,B.old,B.new,B.beh,λx y z q t' g=>?_⟩;rcases q with q | ⟨rfl,rfl⟩
 ·exact B.cl x y z q t' g
 ·have e:z=b:=by
   obtain⟨p,e1,h1⟩:=t;obtain⟨p',e2,h2⟩:=t';rw[e1] at e2;cases e2;have:=W.lo y p e1;rcases h1 with ⟨h1,h1'⟩ | ⟨h1,h1'⟩<;>rcases h2 with ⟨h2,h2'⟩ | ⟨h2,h2'⟩<;>omega
  subst e;rcases h with h | h
  ·exact h
  ·exact absurd g h
theorem Behind.mark {N:Net}(W:N.WF){sent:List Int}{d:Nat}{row:List Nat}{aq steps:List Int}{behind:List Nat}{P:Nat->Nat->Prop}{a k b:Nat}(B:Behind N sent d row aq P steps behind)(t:Tie N a k b)(g:Go N sent a k)(ha:a∈row)(hb:Lv steps b<0)(hl:b<steps.length) :
  Behind N sent d row aq (λx y=>P x y∨(x=a/\y=k)) (steps.set b (d+1)) (behind ++ [b]):=by
 have hb0:Lv aq b<0:=by
  rcases y28 (Lv aq b) 0 with z | z
  ·exact z
  ·have:=B.old b z;omega
 refine⟨by simpa using B.len,λe he=>?_,λe he=>?_,λe he=>?_,λx y z q t' g'=>?_⟩
 ·rw[lv_set hl,if_neg (by rintro rfl;omega)]
  exact B.old e he
 ·rw[lv_set hl]
  by_cases e1:e=b
  ·subst e1;rw[if_pos rfl];exact .inl ⟨rfl,by simp,a,k,ha,t,g⟩
  ·rw[if_neg e1];rcases B.new e he with ⟨h1,h2,h3⟩ | ⟨h1,h2⟩
   ·exact .inl ⟨h1,by simp[h2],h3⟩
   ·exact .inr ⟨h1,by simp[h2,e1]⟩
 ·rcases y0z.mp he with he | he
  ·exact B.beh e he
  ·have:e=b:=by simpa using he
   subst this;exact hb0
 ·rw[lv_set hl]
  split
  ·omega
  ·rename_i hz;rcases q with q | ⟨rfl,rfl⟩
   ·exact B.cl x y z q t' g'
   ·exfalso;apply hz;obtain⟨p,e1,h1⟩:=t;obtain⟨p',e2,h2⟩:=t';rw[e1] at e2;cases e2;have:=W.lo y p e1;rcases h1 with ⟨h1,h1'⟩ | ⟨h1,h1'⟩<;>rcases h2 with ⟨h2,h2'⟩ | ⟨h2,h2'⟩<;>omega
theorem Rows.next {N:Net}{sent spare:List Int}{d:Nat}{row:List Nat}{aq steps:List Int}{behind:List Nat}(R:Rows N sent spare d row aq)(B:Behind N sent d row aq (λa _=>a∈row) steps behind)(hd:∀e∈row,¬Room N spare e):Rows N sent spare (d+1) behind steps:=by
 have up:∀e,0≤Lv steps e->0≤Lv aq e∨(Lv steps e=d+1/\e∈behind/\∃a k,a∈row/\Tie N a k e/\Go N sent a k):=λe he=>by
  rcases y28 (Lv aq e) 0 with z | z
  ·rcases B.new e z with h | ⟨h,_⟩
   ·exact .inr h
   ·omega
  ·exact .inl z
 refine⟨⟨by rw[B.len];exact R.st.len,λe he=>?_,λg x hg hx h0=>?_,λe he=>?_⟩,λe=>⟨λhe=>?_,λhe=>?_⟩,λe=>?_,λa k b t g h0 h1=>?_,λe h0 h1=>?_⟩
 ·rcases up e (by omega) with z | ⟨z,_⟩
  ·exact R.st.zero e (by rw[←B.old e z];exact he)
  ·omega
 ·have:=R.st.src g x hg hx h0;rw[B.old g (by omega)]
  exact this
 ·rcases up e (by omega) with z | ⟨z,_,a,k,ha,t,g⟩
  ·obtain⟨a,k,t,g,l⟩:=R.st.pred e (by rw[←B.old e z];exact he)
   have h1:=B.old e z;have h2:=B.old a (by omega)
   exact⟨a,k,t,g,by omega⟩
  ·have h1:=(R.row a).mp ha;have h2:=B.old a (by omega)
   exact⟨a,k,t,g,by omega⟩
 ·rcases B.new e (B.beh e he) with ⟨h,_⟩ | ⟨_,h⟩
  ·push_cast;exact h
  ·exact absurd he h
 ·push_cast at he
  rcases up e (by omega) with z | ⟨_,z,_⟩
  ·have:=B.old e z;have:=R.top e
   omega
  ·exact z
 ·rcases y28 (Lv steps e) 0 with z | z
  ·omega
  ·rcases up e z with z' | ⟨z',_⟩
   ·have:=B.old e z';have:=R.top e
    push_cast;omega
   ·push_cast;omega
 ·push_cast at h1
  rcases up a h0 with z | ⟨z,_⟩
  ·have h2:=B.old a z;rcases y28 (Lv steps a) d with h3 | h3
   ·have:=R.exp a k b t g z (by omega)
    have:=B.old b this;omega
   ·exact B.cl a k b ((R.row a).mpr (by omega)) t g
  ·omega
 ·push_cast at h1
  rcases up e h0 with z | ⟨z,_⟩
  ·have h2:=B.old e z;rcases y28 (Lv steps e) d with h3 | h3
   ·exact R.dry e z (by omega)
   ·exact hd e ((R.row e).mpr (by omega))
  ·omega
def unr (steps:List Int):Nat:=steps.countP λs=>decide (s<0)
end PM
set_option linter.all false
namespace PM
structure Tr (N:Net)(tried:List Int):Prop where
 len:tried.length=N.nE
 ok:∀(e:Nat) l t,N.at'[e]?=some l->tried[e]?=some t->0≤t/\t≤l.length
theorem set_at {l:List Int}{e b:Nat}{v:Int}(h:b≠e):(l.set e v)[b]?=l[b]?:=y10 (Ne.symm h)
theorem Exh.keep {N:Net}{spare tried:List Int}{e b:Nat}{l:List Nat}{t v:Int}(x:Exh N spare tried b)(h1:N.at'[e]?=some l)(h2:tried[e]?=some t)(h3:t<l.length):Exh N spare (tried.set e v) b:=by
 obtain⟨n,l',h4,h5⟩:=x;refine⟨n,l',h4,?_⟩;have hne:b≠e:=by
  rintro rfl;rw[h1] at h4;cases h4;rw[h2] at h5;cases h5;omega
 rw[set_at hne];exact h5
theorem Dead.step {N:Net}{sent spare steps tried:List Int}(D:Dead N sent spare steps tried){e:Nat}{l:List Nat}{t k:Nat}(h1:N.at'[e]?=some l)(h2:tried[e]?=some (t:Int))(h3:l[t]?=some k)
  (h:∀b,Leads N sent steps e k b->Exh N spare tried b):Dead N sent spare steps (tried.set e ((t:Int)+1)):=by
 have hl:t<l.length:=(y00.mp h3).1;have he:e<tried.length:=(y00.mp h2).1
 intro e' l' j k' t' g1 g2 g3 g4 b L;have kp:Exh N spare tried b->Exh N spare (tried.set e ((t:Int)+1)) b:=λx=>x.keep h1 h2 (by omega)
 by_cases q:e'=e
 ·subst q;rw[h1] at g1;cases g1;rw[y0q he] at g3;cases g3
  by_cases q:j=t
  ·subst q;rw[h3] at g2;cases g2;exact kp (h b L)
  ·exact kp (D e' l j k' t h1 g2 h2 (by omega) b L)
 ·rw[set_at q] at g3;exact kp (D e' l' j k' t' g1 g2 g3 g4 b L)
theorem Tr.step {N:Net}{tried:List Int}(T:Tr N tried){e:Nat}{l:List Nat}{t:Nat}(h1:N.at'[e]?=some l)(h2:tried[e]?=some (t:Int))(h3:t<l.length):Tr N (tried.set e ((t:Int)+1)):=by
 have he:e<tried.length:=(y00.mp h2).1;refine⟨by simpa using T.len,λe' l' t' g1 g2=>?_⟩
 by_cases q:e'=e
 ·subst q;rw[h1] at g1;cases g1;rw[y0q he] at g2;cases g2;constructor<;>omega
 ·rw[set_at q] at g2;exact T.ok e' l' t' g1 g2
def pot:List (List Nat)->List Int->Nat
 | l::r,t::q=>(l.length - t.toNat)+pot r q
 | _,_=>0
theorem pot_step:∀{at':List (List Nat)} {tried:List Int} {e:Nat} {l:List Nat} {t:Nat},at'[e]?=some l->tried[e]?=some (t:Int)->t<l.length->pot at' (tried.set e ((t:Int)+1))+1=pot at' tried
 | [],_,_,_,_,h,_,_=>by simp at h
 | _::_,[],_,_,_,_,h,_=>by simp at h
 | l::r,x::q,0,l',t,h1,h2,h3=>by
  simp at h1 h2;subst h1 h2;simp only[y42,pot];omega
 | l::r,x::q,e+1,l',t,h1,h2,h3=>by
  have ih:=pot_step (at':=r) (tried:=q) (e:=e) (l:=l') (t:=t) (by simpa using h1) (by simpa using h2) h3
  simp only[y43,pot];omega
theorem lv_top:∀(steps:List Int),∃B:Nat,∀e,Lv steps e≤B
 | []=>⟨0,λe=>by simp[Lv]⟩
 | x::r=>by
  obtain⟨B,h⟩:=lv_top r;refine⟨B+x.toNat,λe=>?_⟩;cases e with
  | zero=>simp[Lv];omega
  | succ e =>
   have:=h e;simp[Lv] at this ⊢
   omega
structure Walk (N:Net)(sent spare steps:List Int)(g:Nat)(tried:List Int)(es way:List Nat):Prop where
 tr:Tr N tried
 dead:Dead N sent spare steps tried
 path:es ≠ []->Path N steps sent es way/\es[0]?=some g
 none:es = []->way = []/\Exh N spare tried g
 on:∀(i:Nat) k e,way[i]?=some k->es[i]?=some e->¬Room N spare e/\∃l t,N.at'[e]?=some l/\tried[e]?=some ((t:Nat):Int)/\l[t]?=some k
theorem Tie.uniq {N:Net}(W:N.WF){a k b c:Nat}(t:Tie N a k b)(t':Tie N a k c):b=c:=by
 obtain⟨p,e1,h1⟩:=t;obtain⟨p',e2,h2⟩:=t';rw[e1] at e2;cases e2;have:=W.lo k p e1;rcases h1 with ⟨h1,h1'⟩ | ⟨h1,h1'⟩<;>rcases h2 with ⟨h2,h2'⟩ | ⟨h2,h2'⟩<;>omega
theorem Path.inj {N:Net}{steps sent:List Int}{es way:List Nat}(P:Path N steps sent es way){g:Nat}(h0:es[0]?=some g){i j e:Nat}(h1:es[i]?=some e)(h2:es[j]?=some e):i=j:=by
 have a:=P.lev h0 h1;have b:=P.lev h0 h2
 omega
theorem Walk.skip {N:Net}{sent spare steps tried:List Int}{g:Nat}{es way:List Nat}(w:Walk N sent spare steps g tried es way){e:Nat}{l:List Nat}{t k:Nat}(he:es.getLast?=some e)(h1:N.at'[e]?=some l)(h2:tried[e]?=some (t:Int))(h3:l[t]?=some k)
  (h:∀b,¬Leads N sent steps e k b):Walk N sent spare steps g (tried.set e ((t:Int)+1)) es way:=by
 have hl:t<l.length:=(y00.mp h3).1;have hne:es ≠ []:=by
  rintro rfl;simp at he
 obtain⟨P,h0⟩:=w.path hne;refine⟨w.tr.step h1 h2 hl,w.dead.step h1 h2 h3 λb L=>absurd L (h b),w.path,λq=>absurd q hne,λi k' e' hk hi=>?_⟩;obtain⟨n,l',t',g1,g2,g3⟩:=w.on i k' e' hk hi;refine⟨n,l',t',g1,?_,g3⟩;have hw:i<way.length:=(y00.mp hk).1;have hlast:es[way.length]?=some e:=by
  rw[y1c] at he;have:=P.len;rw[show es.length - 1=way.length by omega] at he
  exact he
 rw[set_at (by rintro rfl;have:=P.inj h0 hi hlast;omega)]
 exact g2
theorem Walk.push {N:Net}{sent spare steps tried:List Int}{g:Nat}{es way:List Nat}(w:Walk N sent spare steps g tried es way){e b:Nat}{l:List Nat}{t k:Nat}(he:es.getLast?=some e)(h1:N.at'[e]?=some l)(h2:tried[e]?=some (t:Int))(h3:l[t]?=some k)
  (h:Leads N sent steps e k b) (hr:¬Room N spare e):Walk N sent spare steps g tried (es ++ [b]) (way ++ [k]):=by
 have hne:es ≠ []:=by
  rintro rfl;simp at he
 obtain⟨P,h0⟩:=w.path hne;have hlast:es[way.length]?=some e:=by
  rw[y1c] at he;have:=P.len;rw[show es.length - 1=way.length by omega] at he
  exact he
 have hpos:0<es.length:=y0v.mpr hne;refine⟨w.tr,w.dead,λ_=>⟨⟨by simp[P.len],λi k' hk=>?_⟩,?_⟩,λq=>absurd q (by simp),λi k' e' hk hi=>?_⟩
 ·rcases y34 i way.length with q | q | q
  ·rw[y0u q] at hk;obtain⟨a,c,ea,ec,r⟩:=P.link i k' hk;have:=P.len;exact⟨a,c,by rw[y0u (by omega)];exact ea,by rw[y0u (by omega)];exact ec,r⟩
  ·subst q;rw[y17 (y09 _)] at hk;simp at hk;subst hk;have:=P.len;refine⟨e,b,by rw[y0u (by omega)];exact hlast,?_,h.1,h.2.1,h.2.2⟩
   rw[y17 (by omega),show way.length+1 - es.length=0 by omega]
   rfl
  ·rw[y17 (by omega)] at hk
   rw[y0w (by simp;omega)] at hk
   cases hk
 ·rw[y0u hpos];exact h0
 ·rcases y34 i way.length with q | q | q
  ·rw[y0u q] at hk;have:=P.len;rw[y0u (by omega)] at hi
   exact w.on i k' e' hk hi
  ·subst q;rw[y17 (y09 _)] at hk;simp at hk;subst hk;have:=P.len;rw[y0u (by omega),hlast] at hi
   cases hi;exact⟨hr,l,t,h1,h2,h3⟩
  ·rw[y17 (by omega)] at hk
   rw[y0w (by simp;omega)] at hk
   cases hk
theorem Walk.pop {N:Net}(W:N.WF){sent spare steps tried:List Int}{g:Nat}{es way:List Nat}(w:Walk N sent spare steps g tried es way){e f:Nat}{l:List Nat}(hes:es.getLast?=some e)(he:es.dropLast.getLast?=some f)(h1:N.at'[e]?=some l)(h2:tried[e]?=some (l.length:Int))
  (hr:¬Room N spare e):∃(t:Nat) (l':List Nat),N.at'[f]?=some l'/\tried[f]?=some (t:Int)/\t<l'.length/\Walk N sent spare steps g (tried.set f ((t:Int)+1)) es.dropLast way.dropLast:=by
 have hne:es ≠ []:=by
  rintro rfl;simp at hes
 obtain⟨P,h0⟩:=w.path hne;have pl:=P.len;have hlast:es[way.length]?=some e:=by
  rw[y1c] at hes;rw[show es.length - 1=way.length by omega] at hes
  exact hes
 have hd:es.dropLast.length=way.length:=by simp;omega
 have hwpos:0<way.length:=by
  rcases y2f way.length with z | z
  ·rw[z] at hd;rw[y1x.mp hd] at he;simp at he
  ·exact z
 have hf:es[way.length - 1]?=some f:=by
  rw[y1c,hd] at he;rw[y2s,if_pos (by omega)] at he
  exact he
 obtain⟨k,hk⟩:∃k,way[way.length - 1]?=some k:=⟨_,y01 (by omega)⟩
 obtain⟨a,b,ea,eb,t,gg,lv⟩:=P.link _ k hk;rw[hf] at ea;cases ea;rw[show way.length - 1+1=way.length by omega,hlast] at eb
 cases eb;obtain⟨n,l',t',g1,g2,g3⟩:=w.on _ k f hk hf;have htl:t'<l'.length:=(y00.mp g3).1;have hx:Exh N spare tried e:=⟨hr,l,h1,h2⟩
 refine⟨t',l',g1,g2,htl,w.tr.step g1 g2 htl,w.dead.step g1 g2 g3 λb L=>?_,λ_=>⟨⟨by simp;omega,λi k' hk'=>?_⟩,?_⟩,λq=>?_,λi k' e' hk' hi=>?_⟩
 ·have:=t.uniq W L.1;subst this;exact hx
 ·rw[y2s] at hk'
  split at hk'
  ·rename_i hi;obtain⟨a,c,ea,ec,r⟩:=P.link i k' hk';exact⟨a,c,by rw[y2s,if_pos (by omega)];exact ea,by rw[y2s,if_pos (by omega)];exact ec,r⟩
  ·cases hk'
 ·rw[y2s,if_pos (by omega)]
  exact h0
 ·have:=congrArg y68 q;simp at this;omega
 ·rw[y2s] at hk' hi
  split at hk'
  ·rename_i hi';rw[if_pos (by omega)] at hi
   obtain⟨n',l2,t2,q1,q2,q3⟩:=w.on i k' e' hk' hi;refine⟨n',l2,t2,q1,?_,q3⟩;rw[set_at (by rintro rfl;have:=P.inj h0 hi hf;omega)]
   exact q2
  ·cases hk'
theorem Walk.fin {N:Net}{sent spare steps tried:List Int}{g:Nat}{es way:List Nat}(w:Walk N sent spare steps g tried es way){e:Nat}{l:List Nat}(hes:es.getLast?=some e)(he:es.dropLast = [])(h1:N.at'[e]?=some l)(h2:tried[e]?=some (l.length:Int))
  (hr:¬Room N spare e):way = []/\Walk N sent spare steps g tried [] []:=by
 have hne:es ≠ []:=by
  rintro rfl;simp at hes
 obtain⟨P,h0⟩:=w.path hne;have pl:=P.len;have hl:es.length=1:=by
  have:=congrArg y68 he;simp at this;have:0<es.length:=y0v.mpr hne
  omega
 have hw:way = []:=y1x.mp (by omega)
 have hg:e=g:=by
  rw[y1c,hl] at hes;have:es[0]?=some e:=hes;rw[h0] at this;cases this;rfl
 subst hg;exact⟨hw,w.tr,w.dead,λq=>absurd rfl q,λ_=>⟨rfl,hr,l,h1,h2⟩,λi k e' hk=>by simp at hk⟩
theorem Walk.short {N:Net}{sent spare steps tried:List Int}{g:Nat}{es way:List Nat}(w:Walk N sent spare steps g tried es way)(hg:Lv steps g=0){B:Nat}(hB:∀e,Lv steps e≤B):es.length≤B+1:=by
 by_cases hne:es = []
 ·subst hne;simp
 ·obtain⟨P,h0⟩:=w.path hne;have hpos:0<es.length:=y0v.mpr hne;have h:=P.lev h0 (i:=es.length - 1) (y01 (by omega))
  have:=hB (es[es.length - 1]'(by omega))
  omega
def wm (B:Nat)(at':List (List Nat))(tried:List Int)(es:List Nat):Nat:=if es = [] then 0 else pot at' tried*(B+3)+(B+2 - es.length)+1
end PM
set_option linter.all false
namespace PM
theorem znj {α:Type}{x:α}{way:List α}(h:x∈alt false way):∃i,way[i]?=some x/\i % 2=1:=by
 obtain⟨i,h1,h2⟩:=zdo h;exact⟨i,h1,by simpa using h2⟩
theorem zje {α:Type}{x:α}{way:List α}(h:x∈alt true way):∃i,way[i]?=some x/\i % 2=0:=by
 obtain⟨i,h1,h2⟩:=zdo h;exact⟨i,h1,by simpa using h2⟩
theorem Path.back {N:Net}(W:N.WF){steps sent:List Int}{es way:List Nat}(P:Path N steps sent es way){g:Nat}(h0:es[0]?=some g)(hg:g<N.G){k:Nat}(h:k∈alt false way):∃s,sent[k]?=some s/\0<s:=by
 obtain⟨i,hk,hi⟩:=znj h;obtain⟨a,b,ea,eb,t,go,_⟩:=P.link i k hk;have:=P.side W h0 hg ea;rcases go with go | go
 ·omega
 ·exact go
theorem Leads.before {N:Net}(W:N.WF){steps sent:List Int}{es way:List Nat}(P:Path N steps sent es way){g:Nat}(h0:es[0]?=some g)(hg:g<N.G){x:Int}(hx:0≤x)(hl:sent.length=N.ends.length){a k b:Nat}(L:Leads N (sendBy x sent way) steps a k b):Leads N sent steps a k b:=by
 obtain⟨t,go,lv⟩:=L;refine⟨t,?_,lv⟩;rcases go with go | ⟨s',h1,h2⟩
 ·exact .inl go
 by_cases ha:a<N.G
 ·exact .inl ha
 have hk:k<sent.length:=by
  have:=(y00.mp h1).1;rw[send_len] at this;exact this
 have hs:sent[k]?=some sent[k]:=y01 hk;refine .inr ⟨_,hs,?_⟩;rw[zig hs] at h1;cases h1;have c2:(0:Int)≤x*((alt false way).count k:Int):=y29 hx (y6i _)
 by_cases hm:k∈alt true way
 ·exfalso;obtain⟨i,hk',hi⟩:=zje hm;obtain⟨c,d,ec,ed,t',_,lv'⟩:=P.link i k hk';have hc:c<N.G:=(P.side W h0 hg ec).mpr hi;obtain⟨p,e1,q1⟩:=t;obtain⟨p',e2,q2⟩:=t';rw[e1] at e2;cases e2;have:=W.lo k p e1
  have hcb:c=b/\d=a:=by
   rcases q1 with ⟨q1,q1'⟩ | ⟨q1,q1'⟩<;>rcases q2 with ⟨q2,q2'⟩ | ⟨q2,q2'⟩<;>constructor<;>omega
  obtain⟨rfl,rfl⟩:=hcb;omega
 ·have z:(alt true way).count k=0:=y6j.mpr hm;rw[z] at h2;simp at h2;omega
theorem Room.le {N:Net}{spare au:List Int}(h:∀(e:Nat) x y,spare[e]?=some x->au[e]?=some y->y≤x)(hl:spare.length=au.length){e:Nat}(r:Room N au e):Room N spare e:=by
 obtain⟨h1,y,h2,h3⟩:=r;have he:e<spare.length:=by
  have:=(y00.mp h2).1;omega
 have hx:spare[e]?=some spare[e]:=y01 he;have:=h e _ _ hx h2
 exact⟨h1,_,hx,by omega⟩
theorem Dead.send {N:Net}(W:N.WF){steps sent spare au tried:List Int}{es way:List Nat}(P:Path N steps sent es way){g:Nat}(h0:es[0]?=some g)(hg:g<N.G){x:Int}(hx:0≤x)(hl:sent.length=N.ends.length)
  (h:∀(e:Nat) x y,spare[e]?=some x->au[e]?=some y->y≤x) (hl':spare.length=au.length) (D:Dead N sent spare steps tried):Dead N (sendBy x sent way) au steps tried:=by
 intro e l j k t h1 h2 h3 h4 b L;obtain⟨n,r⟩:=D e l j k t h1 h2 h3 h4 b (L.before W P h0 hg hx hl);exact⟨λq=>n (q.le h hl'),r⟩
theorem zcn:∀{l:List Int} {i:Nat} {x v:Int},l[i]?=some x->(l.set i v).sum=l.sum+v - x
 | [],_,_,_,h=>by simp at h
 | y::r,0,x,v,h=>by
  simp at h;subst h;simp only[y42,y0s];omega
 | y::r,i+1,x,v,h=>by
  have ih:=zcn (l:=r) (i:=i) (x:=x) (v:=v) (by simpa using h)
  simp only[y43,y0s,ih];omega
theorem sum_nn:∀{l:List Int},(∀(i:Nat) x,l[i]?=some x->0≤x)->0≤l.sum
 | [],_=>by simp
 | y::r,h=>by
  have h0:=h 0 y rfl;have ih:=sum_nn (l:=r) λi x hx=>h (i+1) x (by simpa using hx)
  simp only[y0s];omega
structure Sent (N:Net)(cap:List Int)(sent spare:List Int)(way:List Nat)(g f:Nat)(a:Int)(au:List Int):Prop where
 flow:Flow N cap (sendBy a sent way) au
 le:∀(e:Nat) x y,spare[e]?=some x->au[e]?=some y->y≤x
 sum:au.sum=spare.sum - 2*a
theorem Flow.sent {N:Net}(W:N.WF){cap steps sent spare:List Int}{es way:List Nat}(F:Flow N cap sent spare)(P:Path N steps sent es way){g f:Nat}{a x y:Int}(h0:es[0]?=some g)(h1:es[way.length]?=some f)(hg:g<N.G)(hf:¬f<N.G)
  (hx:spare[g]?=some x) (hy:spare[f]?=some y) (ha:0≤a) (hax:a≤x) (hay:a≤y) (hb:∀k∈alt false way,∀s,sent[k]?=some s->a≤s):Sent N cap sent spare way g f a ((spare.set g (x - a)).set f (y - a)):=by
 have hne:f≠g:=by omega
 have hgl:g<spare.length:=(y00.mp hx).1;have hfl:f<spare.length:=(y00.mp hy).1
 have hy':(spare.set g (x - a))[f]?=some y:=by rw[set_at hne];exact hy
 refine⟨F.send W P h0 h1 hg hf hx hy ha hax hay hb,λe u v hu hv=>?_,?_⟩
 ·by_cases e1:e=f
  ·subst e1;rw[y0q (by simpa using hfl)] at hv
   cases hv;rw[hy] at hu;cases hu;omega
  ·rw[set_at e1] at hv
   by_cases e2:e=g
   ·subst e2;rw[y0q hgl] at hv;cases hv;rw[hx] at hu;cases hu;omega
   ·rw[set_at e2,hu] at hv;cases hv;omega
 ·rw[zcn hy',zcn hx];omega
structure Phase (N:Net)(cap steps aE ao:List Int)(done:List Nat)(sent spare tried:List Int):Prop where
 flow:Flow N cap sent spare
 tr:Tr N tried
 dead:Dead N sent spare steps tried
 le:∀(e:Nat) x y,ao[e]?=some x->spare[e]?=some y->y≤x
 prog:(sent=aE/\spare=ao/\∀g∈done,Exh N spare tried g)∨spare.sum<ao.sum
theorem Phase.walked {N:Net}{cap steps aE ao sent spare tried av:List Int}{done:List Nat}(p:Phase N cap steps aE ao done sent spare tried)(T:Tr N av)(D:Dead N sent spare steps av)(h:∀b,Exh N spare tried b->Exh N spare av b) :
  Phase N cap steps aE ao done sent spare av :=
 ⟨p.flow,T,D,p.le,p.prog.imp (λ⟨a,b,c⟩=>⟨a,b,λg hg=>h g (c g hg)⟩) id⟩
theorem Phase.sent {N:Net}(W:N.WF){cap steps aE ao sent spare tried au:List Int}{done:List Nat}(p:Phase N cap steps aE ao done sent spare tried){es way:List Nat}(P:Path N steps sent es way){g f:Nat}{a:Int}(h0:es[0]?=some g)(hg:g<N.G)(ha:0<a)
  (S:Sent N cap sent spare way g f a au):Phase N cap steps aE ao done (sendBy a sent way) au tried:=by
 have hl:spare.length=au.length:=by rw[p.flow.lp,S.flow.lp]
 refine⟨S.flow,p.tr,p.dead.send W P h0 hg (y1u ha) p.flow.ls S.le hl,λe x y hx hy=>?_,.inr ?_⟩
 ·have he:e<spare.length:=by
   have:=(y00.mp hy).1;omega
  have hz:spare[e]?=some spare[e]:=y01 he;have h1:=p.le e _ _ hx hz
  have h2:=S.le e _ _ hz hy;omega
 ·have:=S.sum;rcases p.prog with ⟨_,rfl,_⟩ | q
  ·omega
  ·omega
theorem Phase.one {N:Net}{cap steps aE ao sent spare tried:List Int}{done:List Nat}(p:Phase N cap steps aE ao done sent spare tried){g:Nat}(h:Exh N spare tried g∨spare.sum<ao.sum):Phase N cap steps aE ao (done ++ [g]) sent spare tried:=by
 refine⟨p.flow,p.tr,p.dead,p.le,?_⟩;rcases p.prog with ⟨a,b,c⟩ | q
 ·rcases h with h | h
  ·refine .inl ⟨a,b,λx hx=>?_⟩;rcases y0z.mp hx with hx | hx
   ·exact c x hx
   ·have:x=g:=by simpa using hx
    subst this;exact h
  ·exact .inr h
 ·exact .inr q
theorem Phase.less {N:Net}(W:N.WF){cap steps aE ao sent spare tried:List Int}{done:List Nat}(p:Phase N cap steps aE ao done sent spare tried)(S:Steps N aE ao steps)(hd:∀g,Lv steps g=0->g∈done){e:Nat}(he:0≤Lv steps e)(hr:Room N ao e):spare.sum<ao.sum:=by
 rcases p.prog with ⟨rfl,rfl,c⟩ | q
 ·exact absurd hr (Dead.all W S p.dead (λg hg=>c g (hd g hg)) (Lv steps e).toNat e (by omega)).1
 ·exact q
structure Done (N:Net)(cap sent spare steps:List Int):Prop where
 flow:Flow N cap sent spare
 st:Steps N sent spare steps
 cl:zor N sent steps
 dry:∀e,0≤Lv steps e->¬Room N spare e
theorem Rows.done {N:Net}{cap sent spare steps:List Int}{d:Nat}{row:List Nat}(R:Rows N sent spare d row steps)(F:Flow N cap sent spare)(h:row = []∨∃e∈row,Room N spare e)(hd:∀e,0≤Lv steps e->¬Room N spare e):Done N cap sent spare steps:=by
 have hr:row = []:=by
  rcases h with h | ⟨e,he,hr⟩
  ·exact h
  ·exact absurd hr (hd e (by rw[(R.row e).mp he];omega))
 subst hr;refine⟨F,R.st,λa k b t g h0=>?_,hd⟩;have h1:=R.top a;have h2:Lv steps a≠d:=λq=>by
  have:=(R.row a).mpr q;simp at this
 exact R.exp a k b t g h0 (by omega)
def nr (steps:List Int)(e:Nat):Bool:=decide (0≤Lv steps e)
def upTo (f:Nat->Int):Nat->Int
 | 0=>0
 | n+1=>upTo f n+f n
theorem za0 (f g:Nat->Int):∀n,upTo (λe=>f e+g e) n=upTo f n+upTo g n
 | 0=>rfl
 | n+1=>by
  simp only[upTo,za0 f g n];omega
theorem upTo_zero:∀n,upTo (λ_=>0) n=0
 | 0=>rfl
 | n+1=>by simp[upTo,upTo_zero n]
theorem za6 (a:Nat)(v:Int):∀n,upTo (λe=>if e=a then v else 0) n=if a<n then v else 0
 | 0=>rfl
 | n+1=>by
  simp only[upTo,za6 a v n]
  by_cases h1:a<n
  ·have h2:n≠a:=by omega
   have h3:a<n+1:=by omega
   simp[h1,h2,h3]
  ·by_cases h2:n=a
   ·subst h2;simp
   ·have h3:¬a<n+1:=by omega
    simp[h1,h2,h3]
theorem upTo_congr {f g:Nat->Int}:∀{n},(∀e<n,f e=g e)->upTo f n=upTo g n
 | 0,_=>rfl
 | n+1,h=>by
  simp only[upTo];rw[upTo_congr (n:=n) λe he=>h e (by omega),h n (by omega)]
theorem load_over {S:Nat->Bool}{n:Nat}:∀{ends:List (Nat×Nat)} {sent:List Int},(∀p∈ends,p.1≠p.2/\p.1<n/\p.2<n)->sent.length=ends.length ->
  upTo (λe=>if S e then load ends sent e else 0) n=((ends.zip sent).map λq=>(if S q.1.1 then q.2 else 0)+(if S q.1.2 then q.2 else 0)).sum
 | [],[],_,_=>by
  simp[load,upTo_zero]
 | [],_::_,_,h=>by simp at h
 | _::_,[],_,h=>by simp at h
 | p::r,s::q,h,hl=>by
  have ih:=load_over (S:=S) (n:=n) (ends:=r) (sent:=q) (λx hx=>h x (y0b _ hx)) (by simpa using hl)
  obtain⟨h1,h2,h3⟩:=h p y0h;have e:(λe=>if S e then load (p::r) (s::q) e else 0)=λe=>((if e=p.1 then (if S p.1 then s else 0) else 0)+(if e=p.2 then (if S p.2 then s else 0) else 0))+(if S e then load r q e else 0):=by
   funext e;simp only[load,inc]
   by_cases a:e=p.1
   ·subst a
    by_cases c:S p.1=true<;>simp[c,h1]
   ·by_cases b:e=p.2
    ·subst b
     by_cases c:S p.2=true<;>simp[c,a]
    ·have a':¬p.1=e:=λz=>a z.symm;have b':¬p.2=e:=λz=>b z.symm
     simp[a,b,a',b']
  rw[e,za0,za0,ih,za6,za6,if_pos h2,if_pos h3];simp
theorem z1t {α:Type}{f g:α->Int}:∀{l:List α},(∀x∈l,f x=g x)->(l.map f).sum=(l.map g).sum
 | [],_=>rfl
 | x::r,h=>by
  simp only[y0n,y0s];rw[h x y0h,z1t λy hy=>h y (y0b _ hy)]
theorem zip_snd:∀{α:Type} {xs:List α} {ys:List Int},ys.length=xs.length->((xs.zip ys).map λq=>q.2).sum=ys.sum
 | _,[],[],_=>rfl
 | _,[],_::_,h=>by simp at h
 | _,_::_,[],h=>by simp at h
 | _,x::r,y::q,h=>by
  have ih:=zip_snd (xs:=r) (ys:=q) (by simpa using h)
  simp only[y3a,y0n,y0s,ih]
theorem Done.bound {N:Net}(W:N.WF){cap sent spare steps:List Int}(D:Done N cap sent spare steps) :
  sent.sum=upTo (λe=>if (if e<N.G then !nr steps e else nr steps e) then cap.getD e 0 else 0) N.nE:=by
 have hw:∀p∈N.ends,p.1≠p.2/\p.1<N.nE/\p.2<N.nE:=λp hp=>by
  obtain⟨k,hk⟩:=y0a hp;have:=W.lo k p hk;have:=W.gle
  refine⟨?_,?_,?_⟩<;>omega
 have h1:upTo (λe=>if (if e<N.G then !nr steps e else nr steps e) then cap.getD e 0 else 0) N.nE=upTo (λe=>if (if e<N.G then !nr steps e else nr steps e) then load N.ends sent e else 0) N.nE:=by
  refine upTo_congr λe he=>?_
  by_cases c:(if e<N.G then !nr steps e else nr steps e)=true
  ·rw[if_pos c,if_pos c];have hc:cap[e]?=some (cap[e]'(by rw[D.flow.lc];exact he)):=y01 _
   have hs:spare[e]?=some (spare[e]'(by rw[D.flow.lp];exact he)):=y01 _
   have q:=D.flow.eq e _ _ hc hs;have n0:=D.flow.sp e _ hs
   have hz:(spare[e]'(by rw[D.flow.lp];exact he))=0:=by
    by_cases hg:e<N.G
    ·rw[if_pos hg] at c;have c':¬ 0≤Lv steps e:=by simpa [nr] using c
     rcases y28 0 (spare[e]'(by rw[D.flow.lp];exact he)) with z | z
     ·have:=D.st.src e _ hg hs z;omega
     ·omega
    ·rw[if_neg hg] at c;have c':0≤Lv steps e:=by simpa [nr] using c
     rcases y28 0 (spare[e]'(by rw[D.flow.lp];exact he)) with z | z
     ·exact absurd ⟨by omega,_,hs,z⟩ (D.dry e c')
     ·omega
   have:cap.getD e 0=cap[e]'(by rw[D.flow.lc];exact he):=by simp[y1n,hc]
   omega
  ·rw[if_neg c,if_neg c]
 rw[h1,load_over hw D.flow.ls,←zip_snd D.flow.ls];refine z1t λq hq=>?_;obtain⟨k,hk⟩:=y0a hq;obtain⟨p,s⟩:=q;have hz:=y0l.mp hk;obtain⟨hp,hs⟩:=hz;have hlo:=W.lo k p hp
 have n0:=D.flow.nn k s hs;have t:Tie N p.1 k p.2:=⟨p,hp,.inl ⟨rfl,rfl⟩⟩
 have c1:=D.cl p.1 k p.2 t (.inl hlo.1);have c2:0≤Lv steps p.2->0<s->0≤Lv steps p.1:=λh z=>D.cl p.2 k p.1 t.symm (.inr ⟨s,hs,z⟩) h
 have g1:p.1<N.G:=hlo.1;have g2:¬p.2<N.G:=by omega
 simp only[g1,g2,if_true,if_false,nr]
 by_cases a:0≤Lv steps p.1<;>by_cases b:0≤Lv steps p.2<;>simp[a,b]
 ·exact absurd (c1 a) b
 ·have:¬ 0<s:=λz=>a (c2 b z);omega
end PM
set_option linter.all false
namespace PM
theorem z9i {α:Type}{f g:α->Int}:∀{l:List α},(∀x∈l,f x≤g x)->(l.map f).sum≤(l.map g).sum
 | [],_=>by simp
 | x::r,h=>by
  have:=h x y0h;have:=z9i (f:=f) (g:=g) (l:=r) λy hy=>h y (y0b _ hy)
  simp only[y0n,y0s];omega
theorem zl3 {α:Type}{f g:α->Int}:∀{l:List α},(∀x∈l,f x≤g x)->(l.map g).sum≤(l.map f).sum->∀x∈l,f x=g x
 | [],_,_=>λ_ h=>by simp at h
 | x::r,h,e=>by
  have h0:=h x y0h;have hr:∀y∈r,f y≤g y:=λy hy=>h y (y0b _ hy)
  have h1:=z9i hr;simp only[y0n,y0s] at e;have ih:=zl3 hr (by omega)
  intro y hy;rcases y0m.mp hy with rfl | hy
  ·omega
  ·exact ih y hy
theorem zac {f g:Nat->Int}:∀{n},(∀e<n,f e≤g e)->upTo f n≤upTo g n
 | 0,_=>y2e _
 | n+1,h=>by
  have:=zac (f:=f) (g:=g) (n:=n) λe he=>h e (by omega)
  have:=h n (by omega)
  simp only[upTo];omega
theorem z74 {f g:Nat->Int}:∀{n},(∀e<n,f e≤g e)->upTo g n≤upTo f n->∀e<n,f e=g e
 | 0,_,_=>λe he=>by omega
 | n+1,h,q=>by
  have h0:∀e<n,f e≤g e:=λe he=>h e (by omega)
  have h1:=zac h0;have h2:=h n (by omega)
  simp only[upTo] at q;have ih:=z74 h0 (by omega)
  intro e he
  by_cases c:e=n
  ·subst c;omega
  ·exact ih e (by omega)
def side (N:Net)(S:Nat->Bool)(e:Nat):Bool:=if e<N.G then !S e else S e
def bnd (N:Net)(cap:List Int)(S:Nat->Bool):Int:=upTo (λe=>if side N S e then cap.getD e 0 else 0) N.nE
theorem Flow.load_le {N:Net}{cap sent spare:List Int}(F:Flow N cap sent spare){e:Nat}(he:e<N.nE):load N.ends sent e≤cap.getD e 0/\(spare.getD e 0=cap.getD e 0 - load N.ends sent e):=by
 have hc:cap[e]?=some (cap[e]'(by rw[F.lc];exact he)):=y01 _
 have hs:spare[e]?=some (spare[e]'(by rw[F.lp];exact he)):=y01 _
 have q:=F.eq e _ _ hc hs;have n0:=F.sp e _ hs
 have:cap.getD e 0=cap[e]'(by rw[F.lc];exact he):=by simp[y1n,hc]
 have:spare.getD e 0=spare[e]'(by rw[F.lp];exact he):=by simp[y1n,hs]
 omega
theorem Net.WF.two {N:Net}(W:N.WF):∀p∈N.ends,p.1≠p.2/\p.1<N.nE/\p.2<N.nE:=λp hp=>by
 obtain⟨k,hk⟩:=y0a hp;have:=W.lo k p hk;have:=W.gle
 refine⟨?_,?_,?_⟩<;>omega
theorem Done.bnd {N:Net}(W:N.WF){cap sent spare steps:List Int}(D:Done N cap sent spare steps):sent.sum=bnd N cap (nr steps):=D.bound W
theorem Done.ties {N:Net}{cap sent spare steps:List Int}(D:Done N cap sent spare steps):∀a k b,Tie N a k b->a<N.G->nr steps a=true->nr steps b=true:=λa k b t hg h =>
 decide_eq_true (D.cl a k b t (.inl hg) (of_decide_eq_true h))
theorem Done.sub {N:Net}{cap sent spare steps:List Int}(D:Done N cap sent spare steps){S:Nat->Bool}(h1:∀(g:Nat) x,g<N.G->spare[g]?=some x->0<x->S g=true)(h2:∀a k b,Tie N a k b->Go N sent a k->S a=true->S b=true){e:Nat}(h:nr steps e=true):S e=true:=by
 have h':0≤Lv steps e:=of_decide_eq_true h;exact D.st.least (λe=>S e=true) h1 h2 (Lv steps e).toNat e (by omega)
end PM
set_option linter.all false
namespace PM
def z43 (f:Nat->Int)(S:Nat->Bool)(n:Nat):Int:=upTo (λe=>if S e then f e else 0) n
theorem zmn {f g:Nat->Int}{S:Nat->Bool}{n:Nat}(h:∀e<n,S e=true->f e≤g e):z43 f S n≤z43 g S n:=zac λe he=>by
 by_cases c:S e=true
 ·simp only[c,if_true];exact h e he c
 ·simp[c]
theorem zcs {f g:Nat->Int}{S:Nat->Bool}{n:Nat}(h:∀e<n,S e=true->f e=g e):z43 f S n=z43 g S n:=upTo_congr λe he=>by
 by_cases c:S e=true
 ·simp only[c,if_true];exact h e he c
 ·simp[c]
theorem z6x {N:Net}(W:N.WF){cap sent spare:List Int}(F:Flow N cap sent spare)(S T:Nat->Bool)(hS:∀e,S e=true->e<N.G)(hT:∀e,T e=true->¬e<N.G) :
  z43 (load N.ends sent) S N.nE=((N.ends.zip sent).map λq=>if S q.1.1 then q.2 else 0).sum/\z43 (load N.ends sent) T N.nE=((N.ends.zip sent).map λq=>if T q.1.2 then q.2 else 0).sum:=by
 constructor
 ·unfold z43;rw[load_over W.two F.ls];refine z1t λq hq=>?_;obtain⟨k,hk⟩:=y0a hq;obtain⟨p,s⟩:=q;obtain⟨hp,_⟩:=y0l.mp hk;have:=W.lo k p hp;have hn:S p.2=false:=by
   rcases y1s (S p.2) with z | z
   ·have:=hS _ z;omega
   ·exact z
  simp[hn]
 ·unfold z43;rw[load_over W.two F.ls];refine z1t λq hq=>?_;obtain⟨k,hk⟩:=y0a hq;obtain⟨p,s⟩:=q;obtain⟨hp,_⟩:=y0l.mp hk;have:=W.lo k p hp;have hn:T p.1=false:=by
   rcases y1s (T p.1) with z | z
   ·exact absurd this.1 (hT _ z)
   ·exact z
  simp[hn]
theorem Done.full {N:Net}(W:N.WF){cap sent spare steps:List Int}(D:Done N cap sent spare steps){e:Nat}(he:e<N.nE)(h:(e<N.G/\nr steps e=false)∨(¬e<N.G/\nr steps e=true)):load N.ends sent e=cap.getD e 0:=by
 have q:=(D.flow.load_le he).2;have hs:spare[e]?=some (spare[e]'(by rw[D.flow.lp];exact he)):=y01 _
 have n0:=D.flow.sp e _ hs;have hg:spare.getD e 0=spare[e]'(by rw[D.flow.lp];exact he):=by simp[y1n,hs]
 have hz:¬ 0<(spare[e]'(by rw[D.flow.lp];exact he)):=λz=>by
  rcases h with ⟨h1,h2⟩ | ⟨h1,h2⟩
  ·have:=D.st.src e _ h1 hs z;have:¬ 0≤Lv steps e:=of_decide_eq_false h2
   omega
  ·exact D.dry e (of_decide_eq_true h2) ⟨by omega,_,hs,z⟩
 omega
theorem Done.none_sent {N:Net}(W:N.WF){cap sent spare steps:List Int}(D:Done N cap sent spare steps){k:Nat}{p:Nat×Nat}{s:Int}(hp:N.ends[k]?=some p)(hs:sent[k]?=some s)(h1:nr steps p.1=false)(h2:nr steps p.2=true):s=0:=by
 have n0:=D.flow.nn k s hs;rcases y28 0 s with z | z
 ·have t:Tie N p.2 k p.1:=⟨p,hp,.inr ⟨rfl,rfl⟩⟩;have:=D.cl p.2 k p.1 t (.inr ⟨s,hs,z⟩) (of_decide_eq_true h2)
  have:¬ 0≤Lv steps p.1:=of_decide_eq_false h1;omega
 ·omega
theorem Done.hi {N:Net}(W:N.WF){cap sent spare steps:List Int}(D:Done N cap sent spare steps)(S T:Nat->Bool)(hS:∀e,S e=true->e<N.G/\nr steps e=false)(hT:∀e,T e=true->¬e<N.G)
  (h:∀(k:Nat) (p:Nat×Nat),N.ends[k]?=some p->S p.1=true->nr steps p.2=false->T p.2=true):z43 (λe=>cap.getD e 0) S N.nE≤z43 (λe=>cap.getD e 0) T N.nE:=by
 obtain⟨l1,l2⟩:=z6x W D.flow S T (λe he=>(hS e he).1) hT;have e1:z43 (λe=>cap.getD e 0) S N.nE=z43 (load N.ends sent) S N.nE:=zcs λe he c=>(D.full W he (.inl (hS e c))).symm;have e2:z43 (load N.ends sent) T N.nE≤z43 (λe=>cap.getD e 0) T N.nE:=zmn λe he _=>(D.flow.load_le he).1
 rw[e1,l1];refine y3k ?_ e2;rw[l2];refine z9i λq hq=>?_;obtain⟨k,hk⟩:=y0a hq;obtain⟨p,s⟩:=q;obtain⟨hp,hs⟩:=y0l.mp hk;have n0:=D.flow.nn k s hs
 by_cases a:S p.1=true
 ·rcases y1s (nr steps p.2) with z | z
  ·have:=D.none_sent W hp hs (hS _ a).2 z;subst this;simp
  ·have:=h k p hp a z;simp[a,this]
 ·by_cases b:T p.2=true<;>simp[a,b]<;>omega
theorem Done.lo {N:Net}(W:N.WF){cap sent spare steps:List Int}(D:Done N cap sent spare steps)(S T:Nat->Bool)(hS:∀e,S e=true->e<N.G)(hT:∀e,T e=true->¬e<N.G/\nr steps e=true)
  (h:∀(k:Nat) (p:Nat×Nat),N.ends[k]?=some p->nr steps p.1=true->T p.2=true->S p.1=true) (hne:∃e,e<N.nE/\T e=true):z43 (λe=>cap.getD e 0) T N.nE<z43 (λe=>cap.getD e 0) S N.nE:=by
 obtain⟨l1,l2⟩:=z6x W D.flow S T hS (λe he=>(hT e he).1);have e1:z43 (λe=>cap.getD e 0) T N.nE=z43 (load N.ends sent) T N.nE:=zcs λe he c=>(D.full W he (.inr (hT e c))).symm;have le2:∀e<N.nE,(if S e then load N.ends sent e else 0)≤(if S e then cap.getD e 0 else 0):=λe he=>by
  by_cases c:S e=true
  ·simp only[c,if_true];exact(D.flow.load_le he).1
  ·simp[c]
 have e2:z43 (load N.ends sent) S N.nE≤z43 (λe=>cap.getD e 0) S N.nE:=zac le2;have tm:∀q∈N.ends.zip sent,(if T q.1.2 then q.2 else 0)≤(if S q.1.1 then q.2 else 0):=λq hq=>by
  obtain⟨k,hk⟩:=y0a hq;obtain⟨p,s⟩:=q;obtain⟨hp,hs⟩:=y0l.mp hk;have n0:=D.flow.nn k s hs
  by_cases b:T p.2=true
  ·rcases y1s (nr steps p.1) with z | z
   ·have:=h k p hp z b;simp[b,this]
   ·have:=D.none_sent W hp hs z (hT _ b).2;subst this;simp
  ·by_cases a:S p.1=true<;>simp[a,b]<;>omega
 have e3:=z9i tm;rw[←l1,←l2] at e3;rcases y28 (z43 (λe=>cap.getD e 0) T N.nE) (z43 (λe=>cap.getD e 0) S N.nE) with z | z
 ·exact z
 exfalso;have q1:=z74 le2 (by show z43 _ S _≤z43 _ S _;omega)
 have q2:=zl3 tm (by rw[←l1,←l2];omega)
 obtain⟨t,ht,hTt⟩:=hne;have near:=(hT t hTt).2;have sub:=D.sub (S:=λe=>nr steps e && !S e && !T e) (λg x hg hx h0=>?_) (λa k b tie go ha=>?_) near
 ·simp[hTt] at sub
 ·have n:nr steps g=true:=decide_eq_true (by rw[D.st.src g x hg hx h0];exact y2e _)
  have hgl:g<N.nE:=by have:=W.gle;omega
  have nT:T g=false:=by
   rcases y1s (T g) with z | z
   ·exact absurd hg (hT g z).1
   ·exact z
  have nS:S g=false:=by
   rcases y1s (S g) with z | z
   ·have:=q1 g hgl;simp only[z,if_true] at this;have w:=(D.flow.load_le hgl).2
    have:spare.getD g 0=x:=by simp[y1n,hx]
    omega
   ·exact z
  simp[n,nT,nS]
 ·simp only[y1h,y5g] at ha ⊢
  obtain⟨⟨a1,a2⟩,a3⟩:=ha;have nb:nr steps b=true:=decide_eq_true (D.cl a k b tie go (of_decide_eq_true a1));obtain⟨p,hp,q⟩:=tie;have hlo:=W.lo k p hp
  refine⟨⟨nb,?_⟩,?_⟩
  ·rcases y1s (S b) with z | z
   ·exfalso;have hb:=hS b z;have hab:p.2=a/\p.1=b:=by
     rcases q with ⟨q1,q2⟩ | q
     ·omega
     ·exact q
    obtain⟨rfl,rfl⟩:=hab;rcases go with go | ⟨s,hs,h0⟩
    ·omega
    ·have hm:(p,s)∈N.ends.zip sent:=y02 (i:=k) (y0l.mpr ⟨hp,hs⟩);have:=q2 _ hm
     simp only[z,a3,if_true] at this;simp at this;omega
   ·exact z
  ·rcases y1s (T b) with z | z
   ·exfalso;have hb:=(hT b z).1;have hab:p.1=a/\p.2=b:=by
     rcases q with q | ⟨q1,q2⟩
     ·exact q
     ·omega
    obtain⟨rfl,rfl⟩:=hab;have:=h k p hp a1 z;rw[a2] at this;cases this
   ·exact z
theorem zjc {N:Net}(W:N.WF){cap sent spare:List Int}(F:Flow N cap sent spare):z43 (load N.ends sent) (λe=>decide (e<N.G)) N.nE=sent.sum/\z43 (load N.ends sent) (λe=>!decide (e<N.G)) N.nE=sent.sum:=by
 obtain⟨l1,l2⟩:=z6x W F (λe=>decide (e<N.G)) (λe=>!decide (e<N.G)) (λe h=>of_decide_eq_true h) (λe h=>by simpa using h)
 have c1:((N.ends.zip sent).map λq=>if (decide (q.1.1<N.G))=true then q.2 else 0).sum=sent.sum:=by
  rw[←zip_snd F.ls];refine z1t λq hq=>?_;obtain⟨k,hk⟩:=y0a hq;obtain⟨p,s⟩:=q;obtain⟨hp,hs⟩:=y0l.mp hk;have:=W.lo k p hp;simp[this.1]
 have c2:((N.ends.zip sent).map λq=>if (!decide (q.1.2<N.G))=true then q.2 else 0).sum=sent.sum:=by
  rw[←zip_snd F.ls];refine z1t λq hq=>?_;obtain⟨k,hk⟩:=y0a hq;obtain⟨p,s⟩:=q;obtain⟨hp,hs⟩:=y0l.mp hk;have:=W.lo k p hp;have:¬p.2<N.G:=by omega
  simp[this]
 exact⟨l1.trans c1,l2.trans c2⟩
theorem Done.far {N:Net}(W:N.WF){cap sent spare steps:List Int}(D:Done N cap sent spare steps)(hs:z43 (λe=>cap.getD e 0) (λe=>decide (e<N.G)) N.nE≤z43 (λe=>cap.getD e 0) (λe=>!decide (e<N.G)) N.nE)
  (hn:∃e,nr steps e=true):∃e,¬e<N.G/\e<N.nE/\nr steps e=false:=by
 apply Classical.byContradiction;intro hc;have hall:∀e,¬e<N.G->e<N.nE->nr steps e=true:=λe h1 h2=>by
  rcases y1s (nr steps e) with z | z
  ·exact z
  ·exact absurd ⟨e,h1,h2,z⟩ hc
 obtain⟨a1,a2⟩:=zjc W D.flow;have e1:z43 (λe=>cap.getD e 0) (λe=>!decide (e<N.G)) N.nE=sent.sum:=by
  rw[←a2];refine zcs λe he c=>(D.full W he (.inr ⟨?_,hall e ?_ he⟩)).symm
  ·simpa using c
  ·simpa using c
 have le:∀e<N.nE,(if (decide (e<N.G))=true then load N.ends sent e else 0)≤(if (decide (e<N.G))=true then cap.getD e 0 else 0):=λe he=>by
  by_cases c:(decide (e<N.G))=true
  ·simp only[c,if_true];exact(D.flow.load_le he).1
  ·simp[c]
 have q:=z74 le (by show z43 _ _ _≤z43 _ _ _;rw[a1];omega)
 obtain⟨e,he⟩:=hn;have hl:0≤Lv steps e:=of_decide_eq_true he;have:∀(d:Nat) e,Lv steps e=d->False:=by
  intro d
  induction d with
  | zero =>
   intro e h;obtain⟨hg,x,hx,h0⟩:=D.st.zero e (by simpa using h)
   have hgl:e<N.nE:=by have:=W.gle;omega
   have:=q e hgl;simp only[hg,decide_true,if_true] at this;have w:=(D.flow.load_le hgl).2
   have:spare.getD e 0=x:=by simp[y1n,hx]
   omega
  | succ d ih =>
   intro e h;obtain⟨a,k,t,g,l⟩:=D.st.pred e (by rw[h];push_cast;omega)
   exact ih a (by push_cast at h;omega)
 exact this (Lv steps e).toNat e (by omega)
end PM
set_option linter.all false
namespace PM
theorem z9r (f:Nat->Int):∀n,upTo f (n+1)=f 0+upTo (λe=>f (e+1)) n
 | 0=>by simp[upTo]
 | n+1=>by
  rw[upTo,z9r f n];simp only[upTo];omega
theorem upTo_split (f:Nat->Int)(a:Nat):∀b,upTo f (a+b)=upTo f a+upTo (λe=>f (a+e)) b
 | 0=>by simp[upTo]
 | b+1=>by
  rw[←Nat.add_assoc,upTo,upTo_split f a b];simp only[upTo];omega
theorem upTo_list {φ:Nat->Int}:∀(l:List Nat),upTo (λe=>φ (l.getD e 0)) l.length=(l.map φ).sum
 | []=>rfl
 | x::r=>by
  rw[y1f,z9r];have ih:=upTo_list (φ:=φ) r;simp only[y0n,y0s,←ih];congr 1
def netOf (g t:Nat)(ties:List (Nat×Nat))(at':List (List Nat)):Net:=⟨g,g+t,ties.map λp=>(p.1,g+p.2),at'⟩
theorem zhv {f:Nat->Int}{A:Nat->Bool}{l:List Nat}{t:Nat}{φ:Nat->Int}(h:∀e<l.length,f e = φ (l.getD e 0)):z43 f (λe=>decide (e<l.length)&&A (l.getD e 0)) (l.length+t)=(l.map λc=>if A c then φ c else 0).sum:=by
 unfold z43;rw[upTo_split,←upTo_list (φ:=λc=>if A c then φ c else 0)]
 have z:upTo (λe=>if (decide (l.length+e<l.length)&&A (l.getD (l.length+e) 0))=true then f (l.length+e) else 0) t=0:=by
  refine(upTo_congr λe _=>?_).trans (upTo_zero t);have:¬l.length+e<l.length:=by omega
  simp[this]
 rw[z,y5y];refine upTo_congr λe he=>?_;simp[he,h e he]
theorem zgr {f:Nat->Int}{A:Nat->Bool}{l:List Nat}{g:Nat}{φ:Nat->Int}(h:∀e<l.length,f (g+e) = φ (l.getD e 0)):z43 f (λe=>!decide (e<g)&&A (l.getD (e - g) 0)) (g+l.length)=(l.map λc=>if A c then φ c else 0).sum:=by
 unfold z43;rw[upTo_split,←upTo_list (φ:=λc=>if A c then φ c else 0)]
 have z:upTo (λe=>if (!decide (e<g)&&A (l.getD (e - g) 0))=true then f e else 0) g=0:=by
  refine(upTo_congr λe he=>?_).trans (upTo_zero g);simp[he]
 rw[z,y31];refine upTo_congr λe he=>?_;have:¬g+e<g:=by omega
 have k:g+e - g=e:=by omega
 simp[this,k,h e he]
section
variable {wk:Nat->Int}{dr:Nat->List Nat}{hands chores:List Nat}
def TiesOk (dr:Nat->List Nat)(hands chores:List Nat)(ties:List (Nat×Nat)):Prop:=∀g t:Nat,(g,t)∈ties↔∃c h,chores[g]?=some c/\hands[t]?=some h/\h∈dr c
structure Cut (wk:Nat->Int)(dr:Nat->List Nat)(hands chores:List Nat)(m W:Int)(nc nh:Nat->Bool):Prop where
 up:∀c∈chores,∀h∈hands,h∈dr c->nc c=true->nh h=true
 hi:∀T:Nat->Bool,(chores.map λc=>if (!nc c&&hands.all λh=>(nh h || !(dr c).contains h||T h)) then wk c*m else 0).sum≤(hands.map λh=>if (!nh h&&T h) then W else 0).sum
 lo:∀T:Nat->Bool,(∃h∈hands,nh h=true/\T h=true)->(hands.map λh=>if (nh h&&T h) then W else 0).sum<(chores.map λc=>if (nc c&&hands.any λh=>((dr c).contains h&&T h)) then wk c*m else 0).sum
 far:(∃h∈hands,nh h=true)->∃h∈hands,nh h=false
theorem getD_of {l:List Nat}{i x:Nat}(h:l[i]?=some x):l.getD i 0=x:=by simp[y1n,h]
theorem get_of_lt {l:List Nat}{i:Nat}(h:i<l.length):l[i]?=some (l.getD i 0):=by
 rw[y01 h];simp[y1n,y01 h]
theorem zsj {m:Int}{W:Int}:(∀e<chores.length,(chores.map (λc=>wk c*m)++y08 hands.length W).getD e 0=wk (chores.getD e 0)*m)/\∀e<hands.length,(chores.map (λc=>wk c*m)++y08 hands.length W).getD (chores.length+e) 0=W:=by
 constructor
 ·intro e he;rw[y06,y0u (by simpa using he),y05,get_of_lt he]
  rfl
 ·intro e he;rw[y06,y17 (by simp),y04,Nat.add_sub_cancel_left,y1a,if_pos he]
  rfl
theorem cut_of {m W:Int}{ties:List (Nat×Nat)}{at':List (List Nat)}{sent spare steps:List Int}{nc nh:Nat->Bool}(hok:TiesOk dr hands chores ties)(WF:(netOf chores.length hands.length ties at').WF)
  (D:Done (netOf chores.length hands.length ties at') (chores.map (λc=>wk c*m)++y08 hands.length W) sent spare steps) (hc:∀(i c:Nat),chores[i]?=some c->nc c=nr steps i) (hh:∀(i h:Nat),hands[i]?=some h->nh h=nr steps (chores.length+i))
  (hsum:(chores.map λc=>wk c*m).sum=(hands.map λ_=>W).sum):Cut wk dr hands chores m W nc nh:=by
 obtain⟨cp1,cp2⟩:=zsj (wk:=wk) (hands:=hands) (chores:=chores) (m:=m) (W:=W);have tie:∀(k:Nat) (p:Nat×Nat),(netOf chores.length hands.length ties at').ends[k]?=some p->∃t c h,p.2=chores.length+t/\chores[p.1]?=some c/\hands[t]?=some h/\h∈dr c:=λk p hp=>by
  have hp':(ties.map λp=>(p.1,chores.length+p.2))[k]?=some p:=hp;rw[y05] at hp';cases q:ties[k]? with
  | none=>rw[q] at hp';cases hp'
  | some x =>
   rw[q] at hp';cases hp';obtain⟨c,h,h1,h2,h3⟩:=(hok x.1 x.2).mp (y02 q);exact⟨x.2,c,h,rfl,h1,h2,h3⟩
 have mk:∀(g t c h:Nat),chores[g]?=some c->hands[t]?=some h->h∈dr c->∃k:Nat,(netOf chores.length hands.length ties at').ends[k]?=some (g,chores.length+t):=λg t c h h1 h2 h3=>by
  obtain⟨k,hk⟩:=y0a ((hok g t).mpr ⟨c,h,h1,h2,h3⟩);refine⟨k,?_⟩;show(ties.map λp=>(p.1,chores.length+p.2))[k]?=_;rw[y05,hk];rfl
 refine⟨λc hc' h hh' hd hn=>?_,λT=>?_,λT hT=>?_,λhn=>?_⟩
 ·obtain⟨g,hg⟩:=y0a hc';obtain⟨t,ht⟩:=y0a hh';obtain⟨k,hk⟩:=mk g t c h hg ht hd;rw[hh t h ht];refine D.ties g k (chores.length+t) ⟨_,hk,.inl ⟨rfl,rfl⟩⟩ (y00.mp hg).1 ?_;rw[←hc g c hg];exact hn
 ·have q:=D.hi WF (λe=>decide (e<chores.length)&&(λc=>!nc c&&hands.all λh=>(nh h || !(dr c).contains h||T h)) (chores.getD e 0)) (λe=>!decide (e<chores.length)&&(λh=>!nh h&&T h) (hands.getD (e - chores.length) 0)) (λe he=>?_) (λe he=>?_) (λk p hp hS hn=>?_)
  ·have g1:=zhv (f:=λe=>(chores.map (λc=>wk c*m)++y08 hands.length W).getD e 0) (A:=λc=>!nc c&&hands.all λh=>(nh h || !(dr c).contains h||T h)) (l:=chores) (t:=hands.length) (φ:=λc=>wk c*m) cp1
   have g2:=zgr (f:=λe=>(chores.map (λc=>wk c*m)++y08 hands.length W).getD e 0) (A:=λh=>!nh h&&T h) (l:=hands) (g:=chores.length) (φ:=λ_=>W) cp2;exact y3k (y3l g1.symm) (y3k q (y3l g2))
  ·rw[y1h] at he;have h1:e<chores.length:=of_decide_eq_true he.1;refine⟨h1,?_⟩;have h2:=he.2
   simp only[y1h,y5g] at h2;rw[←hc e _ (get_of_lt h1)];exact h2.1
  ·rw[y1h] at he;show ¬e<chores.length;simpa using he.1
  ·obtain⟨t,c,h,e2,h1,h2,h3⟩:=tie k p hp;rw[y1h] at hS;have hS2:=hS.2;rw[getD_of h1] at hS2;simp only[y1h,y3w,y5w,y5g] at hS2;have nn:nh h=false:=by rw[hh t h h2,←e2];exact hn
   have hx:=hS2.2 h (y02 h2);have hT:T h=true:=by
    rcases hx with (z | z) | z
    ·rw[nn] at z;cases z
    ·rw[y26.mpr h3] at z;cases z
    ·exact z
   have hlt:¬p.2<chores.length:=by omega
   have hsub:p.2 - chores.length=t:=by omega
   show(!decide (p.2<chores.length)&&(!nh (hands.getD (p.2 - chores.length) 0)&&T (hands.getD (p.2 - chores.length) 0)))=true;rw[hsub,getD_of h2,nn,hT,decide_eq_false hlt];rfl
 ·have q:=D.lo WF (λe=>decide (e<chores.length)&&(λc=>nc c&&hands.any λh=>((dr c).contains h&&T h)) (chores.getD e 0)) (λe=>!decide (e<chores.length)&&decide (e<chores.length+hands.length)&&(λh=>nh h&&T h) (hands.getD (e - chores.length) 0)) (λe he=>?_) (λe he=>?_) (λk p hp hn hS=>?_) ?_
  ·have g1:=zhv (f:=λe=>(chores.map (λc=>wk c*m)++y08 hands.length W).getD e 0) (A:=λc=>nc c&&hands.any λh=>((dr c).contains h&&T h)) (l:=chores) (t:=hands.length) (φ:=λc=>wk c*m) cp1;have g2:=zgr (f:=λe=>(chores.map (λc=>wk c*m)++y08 hands.length W).getD e 0) (A:=λh=>nh h&&T h) (l:=hands) (g:=chores.length) (φ:=λ_=>W) cp2
   have e2:z43 (λe=>(chores.map (λc=>wk c*m)++y08 hands.length W).getD e 0) (λe=>!decide (e<chores.length)&&decide (e<chores.length+hands.length)&&(λh=>nh h&&T h) (hands.getD (e - chores.length) 0)) (chores.length+hands.length)
    =z43 (λe=>(chores.map (λc=>wk c*m)++y08 hands.length W).getD e 0) (λe=>!decide (e<chores.length)&&(λh=>nh h&&T h) (hands.getD (e - chores.length) 0)) (chores.length+hands.length):=by
    refine upTo_congr λe he=>?_;simp[he]
   exact Int.lt_of_le_of_lt (y3l (g2.symm.trans e2.symm)) (y44 q (y3l g1))
  ·rw[y1h] at he;exact of_decide_eq_true he.1
  ·rw[y1h,y1h] at he;have h1:¬e<chores.length:=by simpa using he.1.1
   have h0:e<chores.length+hands.length:=of_decide_eq_true he.1.2;refine⟨h1,?_⟩;have h2:=he.2
   simp only[y1h] at h2;have h3:=hh (e - chores.length) _ (get_of_lt (by omega))
   rw[show chores.length+(e - chores.length)=e by omega] at h3
   rw[←h3];exact h2.1
  ·obtain⟨t,c,h,e2,h1,h2,h3⟩:=tie k p hp;rw[y1h] at hS;have hS2:=hS.2;have hsub:p.2 - chores.length=t:=by omega
   rw[hsub,getD_of h2] at hS2;simp only[y1h] at hS2;have hlt:p.1<chores.length:=(y00.mp h1).1;have nc1:nc c=true:=by rw[hc p.1 c h1];exact hn
   have an:(hands.any λh=>((dr c).contains h&&T h))=true:=y1v.mpr ⟨h,y02 h2,by rw[y26.mpr h3,hS2.2];rfl⟩
   simp only[hlt,decide_true,y7l,getD_of h1,nc1,an]
  ·obtain⟨h,h1,h2,h3⟩:=hT;obtain⟨t,ht⟩:=y0a h1;have htl:=(y00.mp ht).1;refine⟨chores.length+t,by show _<chores.length+hands.length;omega,?_⟩
   have:¬chores.length+t<chores.length:=by omega
   have k2:chores.length+t - chores.length=t:=by omega
   have k3:chores.length+t<chores.length+hands.length:=by omega
   show(!decide (chores.length+t<chores.length)&&decide (chores.length+t<chores.length+hands.length)&&(nh (hands.getD (chores.length+t - chores.length) 0)&&T (hands.getD (chores.length+t - chores.length) 0)))=true;rw[k2,getD_of ht,h2,h3,decide_eq_false this,decide_eq_true k3];rfl
 ·obtain⟨h,h1,h2⟩:=hn;obtain⟨t,ht⟩:=y0a h1;have hside:z43 (λe=>(chores.map (λc=>wk c*m)++y08 hands.length W).getD e 0) (λe=>decide (e<(netOf chores.length hands.length ties at').G)) (netOf chores.length hands.length ties at').nE≤z43 (λe=>(chores.map (λc=>wk c*m)++y08 hands.length W).getD e 0) (λe=>!decide (e<(netOf chores.length hands.length ties at').G)) (netOf chores.length hands.length ties at').nE:=by
   show z43 _ _ (chores.length+hands.length)≤z43 _ _ (chores.length+hands.length);have g1:=zhv (f:=λe=>(chores.map (λc=>wk c*m)++y08 hands.length W).getD e 0) (A:=λ_=>true) (l:=chores) (t:=hands.length) (φ:=λc=>wk c*m) cp1;have g2:=zgr (f:=λe=>(chores.map (λc=>wk c*m)++y08 hands.length W).getD e 0) (A:=λ_=>true) (l:=hands) (g:=chores.length) (φ:=λ_=>W) cp2
   simp only[Bool.and_true,if_true] at g1 g2;have g1':z43 (λe=>(chores.map (λc=>wk c*m)++y08 hands.length W).getD e 0) (λe=>decide (e<(netOf chores.length hands.length ties at').G)) (chores.length+hands.length)=_:=g1;have g2':z43 (λe=>(chores.map (λc=>wk c*m)++y08 hands.length W).getD e 0) (λe=>!decide (e<(netOf chores.length hands.length ties at').G)) (chores.length+hands.length)=_:=g2
   rw[g1',g2',hsum];exact y2e _
  obtain⟨e,e1,e2,e3⟩:=D.far WF hside ⟨chores.length+t,by rw[←hh t h ht];exact h2⟩
  have e1':¬e<chores.length:=e1;have e2':e<chores.length+hands.length:=e2
  have hg:=get_of_lt (l:=hands) (i:=e - chores.length) (by omega)
  refine⟨_,y02 hg,?_⟩;rw[hh _ _ hg,show chores.length+(e - chores.length)=e by omega]
  exact e3
end
end PM
set_option linter.all false
namespace PM
abbrev Cr:=List Nat×List Nat
section
variable (wk:Nat->Int)(dr:Nat->List Nat)
def zfl (c:Cr)(T:Nat->Bool):Int:=(c.2.map λx=>if (c.1.any λh=>((dr x).contains h&&T h)) then wk x else 0).sum
def inside (c:Cr)(T:Nat->Bool):Int:=(c.2.map λx=>if (c.1.all λh=>(!(dr x).contains h||T h)) then wk x else 0).sum
def cnt (c:Cr)(T:Nat->Bool):Int:=(c.1.map λh=>if T h then 1 else 0).sum
def tot (c:Cr):Int:=(c.2.map wk).sum
def Lo (c:Cr)(p q:Int):Prop:=∀T:Nat->Bool,(∃h∈c.1,T h=true)->p*cnt c T<q*zfl wk dr c T
def Hi (c:Cr)(p q:Int):Prop:=∀T:Nat->Bool,q*inside wk dr c T≤p*cnt c T
def zqp (x y:Cr):Prop:=∃p q:Int,0<q/\Lo wk dr x p q/\Hi wk dr y p q
end
def nearOf (c:Cr)(nc nh:Nat->Bool):Cr:=(c.1.filter nh,c.2.filter nc)
def restOf (c:Cr)(nc nh:Nat->Bool):Cr:=(c.1.filter λh=>!nh h,c.2.filter λx=>!nc x)
theorem z2o {p:Nat->Bool}{f:Nat->Int}:∀(l:List Nat),((l.filter p).map f).sum=(l.map λx=>if p x then f x else 0).sum
 | []=>rfl
 | x::r=>by
  rw[y2l]
  by_cases h:p x=true
  ·simp[h,z2o r]
  ·simp[h,z2o r]
theorem mul_sum (k:Int)(f:Nat->Int):∀(l:List Nat),k*(l.map f).sum=(l.map λx=>k*f x).sum
 | []=>by simp
 | x::r=>by
  simp only[y0n,y0s,y4x,mul_sum k f r]
theorem any_filter {p q:Nat->Bool}(l:List Nat):((l.filter p).any q)=l.any λh=>(p h&&q h):=by
 rw[List.any_filter]
theorem all_filter {p q:Nat->Bool}(l:List Nat):((l.filter p).all q)=l.all λh=>(!p h||q h):=by
 rw[List.all_filter]
theorem zb0 {p q:Nat->Bool}{l:List Nat}(h:∀x∈l,p x=q x):l.any p=l.any q:=by
 rw[y2o,y1v,y1v];constructor
 ·rintro⟨x,hx,e⟩;exact⟨x,hx,by rw[←h x hx];exact e⟩
 ·rintro⟨x,hx,e⟩;exact⟨x,hx,by rw[h x hx];exact e⟩
theorem zbw {p q:Nat->Bool}{l:List Nat}(h:∀x∈l,p x=q x):l.all p=l.all q:=by
 rw[y2o,y3w,y3w];constructor
 ·intro g x hx;rw[←h x hx];exact g x hx
 ·intro g x hx;rw[h x hx];exact g x hx
section
variable {wk:Nat->Int}{dr:Nat->List Nat}{c:Cr}{m W:Int}{nc nh:Nat->Bool}
theorem zee (T:Nat->Bool):cnt (nearOf c nc nh) T=cnt c (λh=>nh h&&T h):=by
 unfold cnt nearOf;rw[z2o];refine z1t λh _=>?_
 by_cases a:nh h=true<;>simp[a]
theorem zdp (T:Nat->Bool):cnt (restOf c nc nh) T=cnt c (λh=>!nh h&&T h):=by
 unfold cnt restOf;rw[z2o];refine z1t λh _=>?_
 by_cases a:nh h=true<;>simp[a]
theorem zik:cnt c (λ_=>true)=c.1.length:=by
 have g:∀l:List Nat,(l.map λ_=>(1:Int)).sum=l.length:=λl=>by
  induction l with
  | nil=>rfl
  | cons x r ih =>
   simp only[y0n,y0s,y1f,ih];omega
 unfold cnt;simp only[if_true];exact g _
theorem znz (T:Nat->Bool):W*cnt c T=(c.1.map λh=>if T h then W else 0).sum:=by
 unfold cnt;rw[mul_sum];refine z1t λh _=>?_
 by_cases a:T h=true<;>simp[a]
theorem Cut.touch_near (C:Cut wk dr c.1 c.2 m W nc nh)(T:Nat->Bool):zfl wk dr (nearOf c nc nh) T=(c.2.map λx=>if (nc x&&c.1.any λh=>((dr x).contains h&&T h)) then wk x else 0).sum:=by
 unfold zfl nearOf;rw[z2o];refine z1t λx hx=>?_
 by_cases a:nc x=true
 ·have e:(c.1.filter nh).any (λh=>((dr x).contains h&&T h))=c.1.any (λh=>((dr x).contains h&&T h)):=by
   rw[any_filter];refine zb0 λh hh=>?_
   by_cases d:(dr x).contains h=true
   ·rw[C.up x hx h hh (y26.mp d) a];rfl
   ·have d':(dr x).contains h=false:=by simpa using d
    rw[d'];simp
  rw[a,e];simp
 ·simp[a]
theorem Cut.lo_near (C:Cut wk dr c.1 c.2 m W nc nh):Lo wk dr (nearOf c nc nh) W m:=by
 intro T hT;obtain⟨h,h1,h2⟩:=hT;have h1':h∈c.1.filter nh:=h1;obtain⟨h3,h4⟩:=y12.mp h1';have q:=C.lo T ⟨h,h3,h4,h2⟩
 rw[zee,znz,C.touch_near,mul_sum];refine y44 q (y3l (z1t λx _=>?_))
 split<;>simp[y1k]
theorem Cut.hi_rest (C:Cut wk dr c.1 c.2 m W nc nh):Hi wk dr (restOf c nc nh) W m:=by
 intro T;have q:=C.hi T;rw[zdp,znz];refine y3k (y3l ?_) q;unfold inside restOf;rw[z2o,mul_sum];refine z1t λx hx=>?_;have e:(c.1.filter λh=>!nh h).all (λh=>(!(dr x).contains h||T h))=c.1.all (λh=>(nh h || !(dr x).contains h||T h)):=by
  rw[all_filter];refine zbw λh _=>?_
  by_cases a:nh h=true<;>simp[a]
 rw[e]
 by_cases a:nc x=true
 ·simp[a]
 ·have a':nc x=false:=by simpa using a
  by_cases b:c.1.all (λh=>(nh h || !(dr x).contains h||T h))=true
  ·rw[b,a'];simp[y1k]
  ·rw[eq_false_of_ne_true b,a'];simp
theorem zkg (hw:∀x∈c.2,0≤wk x)(T:Nat->Bool):zfl wk dr c T≤tot wk c:=by
 unfold zfl tot;refine z9i λx hx=>?_;have:=hw x hx
 split<;>omega
theorem zf9:inside wk dr c (λ_=>true)=tot wk c:=by
 unfold inside tot;refine z1t λx _=>?_;have:(c.1.all λh=>(!(dr x).contains h||true))=true:=by simp
 rw[if_pos this]
theorem Lo.avg {p q:Int}(h:Lo wk dr c p q)(hq:0<q)(hne:c.1 ≠ [])(hw:∀x∈c.2,0≤wk x):p*c.1.length<q*tot wk c:=by
 obtain⟨x,hx⟩:=List.exists_mem_of_ne_nil _ hne;have:=h (λ_=>true) ⟨x,hx,rfl⟩;rw[zik] at this;exact y44 this (y2y (zkg hw _) (y1u hq))
theorem Hi.avg {p q:Int}(h:Hi wk dr c p q):q*tot wk c≤p*c.1.length:=by
 have:=h (λ_=>true);rw[zik,zf9] at this;exact this
theorem Cut.lo_rest (C:Cut wk dr c.1 c.2 m W nc nh){p q:Int}(h:Lo wk dr c p q):Lo wk dr (restOf c nc nh) p q:=by
 intro T hT;obtain⟨k,h1,h2⟩:=hT;have h1':k∈c.1.filter λh=>!nh h:=h1;obtain⟨h3,h4⟩:=y12.mp h1';have g:=h (λh=>!nh h&&T h) ⟨k,h3,by rw[h4,h2];rfl⟩
 rw[zdp];refine y44 g (y3l ?_);congr 1;unfold zfl restOf;rw[z2o];refine z1t λx hx=>?_
 by_cases a:nc x=true
 ·have e:c.1.any (λh=>((dr x).contains h&&(!nh h&&T h)))=false:=by
   rw[y6n];intro h hh
   by_cases d:(dr x).contains h=true
   ·rw[C.up x hx h hh (y26.mp d) a];simp
   ·have d':(dr x).contains h=false:=by simpa using d
    rw[d'];simp
  rw[e];simp[a]
 ·have e:(c.1.filter λh=>!nh h).any (λh=>((dr x).contains h&&T h))=c.1.any (λh=>((dr x).contains h&&(!nh h&&T h))):=by
   rw[any_filter];refine zb0 λh _=>?_;cases (dr x).contains h<;>cases nh h<;>cases T h<;>rfl
  rw[e];simp[a]
theorem Cut.hi_near (C:Cut wk dr c.1 c.2 m W nc nh){p q:Int}(hq:0<q)(hw:∀x∈c.2,0≤wk x)(h:Hi wk dr c p q):Hi wk dr (nearOf c nc nh) p q:=by
 intro T;have g:=h (λh=>nh h&&T h);rw[zee];refine y3k (y2y ?_ (y1u hq)) g;unfold inside nearOf;rw[z2o];refine z9i λx hx=>?_;have w0:=hw x hx
 by_cases a:nc x=true
 ·have e:(c.1.filter nh).all (λh=>(!(dr x).contains h||T h))=c.1.all (λh=>(!(dr x).contains h||(nh h&&T h))):=by
   rw[all_filter];refine zbw λh hh=>?_
   by_cases d:(dr x).contains h=true
   ·rw[C.up x hx h hh (y26.mp d) a,d];simp
   ·have d':(dr x).contains h=false:=by simpa using d
    rw[d'];simp
  rw[e,if_pos a];exact y2e _
 ·rw[if_neg a]
  split<;>omega
end
structure Crowds (wk:Nat->Int)(dr:Nat->List Nat)(many chores:Nat)(L:List Cr):Prop where
 ord:∀(i:Nat) x y,L[i]?=some x->L[i+1]?=some y->zqp wk dr x y
 ne:∀c∈L,c.1 ≠ []
 own:∀c∈L,∀x∈c.2,∃h∈c.1,h∈dr x
 up:∀(i:Nat) c,L[i]?=some c->∀x∈c.2,∀h∈dr x,∃(j:Nat) (d:Cr),j≤i/\L[j]?=some d/\h∈d.1
 hs:∀h:Nat,(L.map λc=>c.1.count h).sum=if h<many then 1 else 0
 cs:∀x:Nat,(L.map λc=>c.2.count x).sum=if x<chores then 1 else 0
 hr:∀c∈L,c.1.Pairwise (· < ·)
 cr:∀c∈L,c.2.Pairwise (· < ·)
theorem z8q {p:Nat->Bool}{l:List Nat}(h:Nat):(l.filter p).count h+(l.filter λx=>!p x).count h=l.count h:=by
 induction l with
 | nil=>rfl
 | cons x r ih =>
  rw[y2l,y2l]
  by_cases a:p x=true
  ·simp only[a,if_true,Bool.not_true,y3e,if_false,y5z];omega
  ·have a':p x=false:=by simpa using a
   simp only[a',y3e,if_false,Bool.not_false,if_true,y5z];omega
theorem z2l {α:Type}{A B:List α}{c:α}(i:Nat):(A++c::B)[i]?=if i<A.length then A[i]? else if i=A.length then some c else B[i - A.length - 1]?:=by
 split
 ·rename_i h;exact y0u h
 ·rename_i h;rw[y17 (by omega)]
  split
  ·rename_i h2;subst h2;simp
  ·rename_i h2;rw[show i - A.length=(i - A.length - 1)+1 by omega]
   simp
theorem z5b {α:Type}{A B:List α}{c d:α}(i:Nat):(A++c::d::B)[i]?=if i<A.length then A[i]? else if i=A.length then some c else if i=A.length+1 then some d else B[i - A.length - 2]?:=by
 rw[z2l]
 split
 ·rfl
 ·split
  ·rfl
  ·rename_i h1 h2
   split
   ·rename_i h3;subst h3;simp
   ·rename_i h3;rw[show i - A.length - 1=(i - A.length - 2)+1 by omega]
    simp
theorem Crowds.cut {wk:Nat->Int}{dr:Nat->List Nat}{many chores:Nat}{A B:List Cr}{c:Cr}(hw:∀x,0<wk x)(K:Crowds wk dr many chores (A++c::B)){nc nh:Nat->Bool}(C:Cut wk dr c.1 c.2 c.1.length (tot wk c) nc nh)(hn:∃h∈c.1,nh h=true) :
  Crowds wk dr many chores (A++nearOf c nc nh::restOf c nc nh::B):=by
 have hc:c∈A++c::B:=by simp
 have hcn:=K.ne c hc;have m0:(0:Int)<c.1.length:=by
  have:=y0v.mpr hcn;omega
 have w0:∀x∈c.2,0≤wk x:=λx _=>y1u (hw x);have mem:∀d,d∈A++nearOf c nc nh::restOf c nc nh::B->d=nearOf c nc nh∨d=restOf c nc nh∨d∈A++c::B:=λd hd=>by
  rcases y0z.mp hd with h | h
  ·exact .inr (.inr (y0z.mpr (.inl h)))
  ·rcases y0m.mp h with h | h
   ·exact .inl h
   ·rcases y0m.mp h with h | h
    ·exact .inr (.inl h)
    ·exact .inr (.inr (y0z.mpr (.inr (y0b _ h))))
 obtain⟨hf,hf1,hf2⟩:=C.far hn;obtain⟨hh,hh1,hh2⟩:=hn;have nowork:∀x∈c.2,nc x=false->∃h∈c.1,nh h=false/\h∈dr x:=λx hx hnx=>by
  apply Classical.byContradiction;intro hno;have q:=C.hi (λ_=>false);have z:(c.1.map λh=>if (!nh h&&false)=true then tot wk c else 0).sum=0:=by
   have:(c.1.map λh=>if (!nh h&&false)=true then tot wk c else 0)=c.1.map λ_=>0:=by
    refine y0r λh _=>?_;simp
   rw[this];clear this
   induction c.1 with
   | nil=>rfl
   | cons a r ih=>simp[ih]
  rw[z] at q;have pos:(0:Int)<wk x*c.1.length:=y3m (hw x) m0;have one:wk x*c.1.length≤(c.2.map λy=>if (!nc y&&c.1.all λh=>(nh h || !(dr y).contains h||false))=true then wk y*c.1.length else 0).sum:=by
   have nn:∀y∈c.2,(0:Int)≤(if (!nc y&&c.1.all λh=>(nh h || !(dr y).contains h||false))=true then wk y*c.1.length else 0):=λy _=>by
    split
    ·exact y29 (y1u (hw y)) (y1u m0)
    ·exact y2e _
   have at':(if (!nc x&&c.1.all λh=>(nh h || !(dr x).contains h||false))=true then wk x*c.1.length else 0)=wk x*c.1.length:=by
    have:c.1.all (λh=>(nh h || !(dr x).contains h||false))=true:=by
     rw[y3w];intro h hh'
     by_cases a:nh h=true
     ·simp[a]
     ·by_cases d:(dr x).contains h=true
      ·exact absurd ⟨h,hh',by simpa using a,y26.mp d⟩ hno
      ·have d':(dr x).contains h=false:=by simpa using d
       rw[d'];simp
    rw[this,hnx];rfl
   have key:∀(l:List Nat) (f:Nat->Int),(∀y∈l,0≤f y)->x∈l->f x≤(l.map f).sum:=by
    intro l f hl hm
    induction l with
    | nil=>simp at hm
    | cons a r ih =>
     simp only[y0n,y0s];have ha:=hl a y0h;have hr:∀y∈r,0≤f y:=λy hy=>hl y (y0b _ hy)
     have hs:0≤(r.map f).sum:=sum_nn λi v hv=>by
      obtain⟨y,hy,rfl⟩:=y1i.mp (y02 hv);exact hr y hy
     rcases y0m.mp hm with rfl | hm
     ·omega
     ·have:=ih hr hm;omega
   exact y3k (y3l at'.symm) (key c.2 (λy=>if (!nc y&&c.1.all λh=>(nh h || !(dr y).contains h||false))=true then wk y*c.1.length else 0) nn hx)
  omega
 refine⟨λi x y hx hy=>?_,λd hd=>?_,λd hd=>?_,λi d hd x hx h hh'=>?_,λh=>?_,λx=>?_,λd hd=>?_,λd hd=>?_⟩
 ·rw[z5b] at hx hy;have old:=λ(i:Nat) (x y:Cr) (h1:(A++c::B)[i]?=some x) (h2:(A++c::B)[i+1]?=some y)=>K.ord i x y h1 h2;rcases y34 (i+1) A.length with h | h | h
  ·rw[if_pos (by omega)] at hx
   rw[if_pos (by omega)] at hy
   exact old i x y (by rw[z2l,if_pos (by omega)];exact hx) (by rw[z2l,if_pos (by omega)];exact hy)
  ·rw[if_pos (by omega)] at hx
   rw[if_neg (by omega),if_pos (by omega)] at hy
   cases hy;obtain⟨p,q,q0,l,u⟩:=old i x c (by rw[z2l,if_pos (by omega)];exact hx) (by rw[z2l,if_neg (by omega),if_pos (by omega)])
   exact⟨p,q,q0,l,C.hi_near q0 w0 u⟩
  ·rcases y34 i A.length with h' | h' | h'
   ·omega
   ·rw[if_neg (by omega),if_pos h'] at hx
    rw[if_neg (by omega),if_neg (by omega),if_pos (by omega)] at hy
    cases hx;cases hy;exact⟨tot wk c,c.1.length,m0,C.lo_near,C.hi_rest⟩
   ·rw[if_neg (by omega),if_neg (by omega)] at hx
    rw[if_neg (by omega),if_neg (by omega),if_neg (by omega)] at hy
    by_cases h2:i=A.length+1
    ·rw[if_pos h2] at hx;cases hx;obtain⟨p,q,q0,l,u⟩:=old A.length c y (by rw[z2l,if_neg (by omega),if_pos rfl]) (by rw[z2l,if_neg (by omega),if_neg (by omega)];rw[show i+1 - A.length - 2=A.length+1 - A.length - 1 by omega] at hy;exact hy)
     exact⟨p,q,q0,C.lo_rest l,u⟩
    ·rw[if_neg h2] at hx;refine old (i - 1) x y ?_ ?_
     ·rw[z2l,if_neg (by omega),if_neg (by omega),show i - 1 - A.length - 1=i - A.length - 2 by omega]
      exact hx
     ·rw[z2l,if_neg (by omega),if_neg (by omega),show i - 1+1 - A.length - 1=i+1 - A.length - 2 by omega]
      exact hy
 ·rcases mem d hd with rfl | rfl | h
  ·intro z;have:hh∈(nearOf c nc nh).1:=y12.mpr ⟨hh1,hh2⟩;rw[z] at this;simp at this
  ·intro z;have:hf∈(restOf c nc nh).1:=y12.mpr ⟨hf1,by rw[hf2];rfl⟩
   rw[z] at this;simp at this
  ·exact K.ne d h
 ·rcases mem d hd with rfl | rfl | h
  ·intro x hx;have hx':x∈c.2.filter nc:=hx;obtain⟨h1,h2⟩:=y12.mp hx';obtain⟨h,h3,h4⟩:=K.own c hc x h1;exact⟨h,y12.mpr ⟨h3,C.up x h1 h h3 h4 h2⟩,h4⟩
  ·intro x hx;have hx':x∈c.2.filter λx=>!nc x:=hx;obtain⟨h1,h2⟩:=y12.mp hx';obtain⟨h,h3,h4,h5⟩:=nowork x h1 (by simpa using h2)
   exact⟨h,y12.mpr ⟨h3,by rw[h4];rfl⟩,h5⟩
  ·exact K.own d h
 ·-- where a doer stands
  have place:∀(j:Nat) (d:Cr) (lim:Nat),(A++c::B)[j]?=some d->h∈d.1->(j<A.length->j≤lim)->(j=A.length->A.length+1≤lim∨(nh h=true/\A.length≤lim))->(A.length<j->j+1≤lim)->∃(j:Nat) (d:Cr),j≤lim/\(A++nearOf c nc nh::restOf c nc nh::B)[j]?=some d/\h∈d.1:=by
   intro j d lim hj hd' b1 b2 b3;rw[z2l] at hj;rcases y34 j A.length with q | q | q
   ·rw[if_pos q] at hj;exact⟨j,d,b1 q,by rw[z5b,if_pos q];exact hj,hd'⟩
   ·rw[if_neg (by omega),if_pos q] at hj
    cases hj
    by_cases a:nh h=true
    ·refine⟨A.length,nearOf c nc nh,?_,by rw[z5b,if_neg (by omega),if_pos rfl],y12.mpr ⟨hd',a⟩⟩
     rcases b2 q with z | z
     ·omega
     ·exact z.2
    ·rcases b2 q with z | z
     ·exact⟨A.length+1,restOf c nc nh,z,by rw[z5b,if_neg (by omega),if_neg (by omega),if_pos rfl],y12.mpr ⟨hd',by simpa using a⟩⟩
     ·exact absurd z.1 a
   ·rw[if_neg (by omega),if_neg (by omega)] at hj
    exact⟨j+1,d,b3 q,by rw[z5b,if_neg (by omega),if_neg (by omega),if_neg (by omega),show j+1 - A.length - 2=j - A.length - 1 by omega];exact hj,hd'⟩
  rw[z5b] at hd;rcases y34 i A.length with q | q | q
  ·rw[if_pos q] at hd;obtain⟨j,e,h1,h2,h3⟩:=K.up i d (by rw[z2l,if_pos q];exact hd) x hx h hh'
   exact place j e i h2 h3 (λ_=>h1) (λz=>by omega) (λz=>by omega)
  ·rw[if_neg (by omega),if_pos q] at hd
   cases hd;have hx':x∈c.2.filter nc:=hx;obtain⟨g1,g2⟩:=y12.mp hx';obtain⟨j,e,h1,h2,h3⟩:=K.up i c (by rw[z2l,if_neg (by omega),if_pos q]) x g1 h hh'
   refine place j e i h2 h3 (λ_=>h1) (λz=>.inr ⟨?_,by omega⟩) (λz=>by omega)
   rw[z2l,if_neg (by omega),if_pos z] at h2
   cases h2;exact C.up x g1 h h3 hh' g2
  ·rw[if_neg (by omega),if_neg (by omega)] at hd
   by_cases h2:i=A.length+1
   ·rw[if_pos h2] at hd;cases hd;have hx':x∈c.2.filter λx=>!nc x:=hx;obtain⟨g1,g2⟩:=y12.mp hx';obtain⟨j,e,h1,h2',h3⟩:=K.up A.length c (by rw[z2l,if_neg (by omega),if_pos rfl]) x g1 h hh'
    exact place j e i h2' h3 (λ_=>by omega) (λz=>.inl (by omega)) (λz=>by omega)
   ·rw[if_neg h2] at hd;obtain⟨j,e,h1,h2',h3⟩:=K.up (i - 1) d (by rw[z2l,if_neg (by omega),if_neg (by omega),show i - 1 - A.length - 1=i - A.length - 2 by omega];exact hd) x hx h hh'
    exact place j e i h2' h3 (λ_=>by omega) (λz=>.inl (by omega)) (λz=>by omega)
 ·have:=K.hs h;rw[←this];simp only[y0f,y0n,y27,y0s];have:=z8q (p:=nh) (l:=c.1) h
  have e1:(nearOf c nc nh).1=c.1.filter nh:=rfl;have e2:(restOf c nc nh).1=c.1.filter λx=>!nh x:=rfl
  rw[e1,e2];omega
 ·have:=K.cs x;rw[←this];simp only[y0f,y0n,y27,y0s];have:=z8q (p:=nc) (l:=c.2) x
  have e1:(nearOf c nc nh).2=c.2.filter nc:=rfl;have e2:(restOf c nc nh).2=c.2.filter λx=>!nc x:=rfl
  rw[e1,e2];omega
 ·rcases mem d hd with rfl | rfl | h
  ·exact(K.hr c hc).filter _
  ·exact(K.hr c hc).filter _
  ·exact K.hr d h
 ·rcases mem d hd with rfl | rfl | h
  ·exact(K.cr c hc).filter _
  ·exact(K.cr c hc).filter _
  ·exact K.cr d h
theorem Crowds.fall {wk:Nat->Int}{dr:Nat->List Nat}{many chores:Nat}{L:List Cr}(hw:∀x,0<wk x)(K:Crowds wk dr many chores L){i:Nat}{x y:Cr}(hx:L[i]?=some x)(hy:L[i+1]?=some y):tot wk y*x.1.length<tot wk x*y.1.length:=by
 obtain⟨p,q,q0,l,u⟩:=K.ord i x y hx hy;have a:=l.avg q0 (K.ne x (y02 hx)) (λz _=>y1u (hw z));have b:=u.avg
 have x0:(0:Int)<x.1.length:=by
  have:=y0v.mpr (K.ne x (y02 hx));omega
 have y0:(0:Int)<y.1.length:=by
  have:=y0v.mpr (K.ne y (y02 hy));omega
 have a1:q*tot wk y*x.1.length≤p*y.1.length*x.1.length:=y1r b (y1u x0);have a2:p*x.1.length*y.1.length<q*tot wk x*y.1.length:=y3n a y0
 have a3:q*(tot wk y*x.1.length)<q*(tot wk x*y.1.length):=by
  have e1:q*(tot wk y*x.1.length)=q*tot wk y*x.1.length:=(y2a _ _ _).symm;have e2:q*(tot wk x*y.1.length)=q*tot wk x*y.1.length:=(y2a _ _ _).symm
  have e3:p*(y.1.length:Int)*x.1.length=p*x.1.length*y.1.length:=by rw[y2a,y1k (y.1.length:Int),←y2a]
  omega
 exact Int.lt_of_mul_lt_mul_left a3 (y1u q0)
end PM
set_option Elab.async false
set_option linter.all false
set_option maxRecDepth 100000
namespace L2.EX
open PySem PySem.Spec PyProof.Rows
def zky (xs:List V)(lo hi st:Option Int):List V:=(sliceRange (sliceBounds lo hi st xs.length).1 (sliceBounds lo hi st xs.length).2.1 (sliceBounds lo hi st xs.length).2.2).filterMap (xs[·]?)
theorem Vals.pick {xs:List V}{us:List Value}(r:Vals xs us):∀ix:List Nat,Vals (ix.filterMap (xs[·]?)) (ix.filterMap (us[·]?))
 | []=>.nil
 | i::ix=>by
  have ih:=Vals.pick r ix;cases h:xs[i]? with
  | none =>
   have h':=r.none_of h;simp only[y2t,h,h'];exact ih
  | some x =>
   obtain⟨u,h',q⟩:=r.get h;simp only[y2t,h,h'];exact .cons q ih
section
variable {X:Cx}{e ste:Expr}{te:TE}{lo hi:Option Expr}{tl th ts:TO}{pos p2:Pos}
def zqc (K:y03)(te:TE)(tl th ts:TO)(σ:St)(H:Hp)(Q:VK):Prop:=te σ H λx H1=>tl σ H1 λl H2=>th σ H2 λu H3=>ts σ H3 λst H4=>match x with
 | .ref a=>∃xs,SqL K H4 a xs/\st≠some 0/\∀p,H4 p=none->Q (.ref p) (upd H4 p (.lst (zky xs l u st)))
 | _=>False
theorem zcd (he:PE X e te)(hl:PO X lo tl)(hu:PO X hi th)(hs:PO X (some ste) ts):PE X (.Subscript e (.Slice lo hi (some ste) p2) pos) (zqc X.K te tl th ts):=by
 intro aa s σ H Q I h;refine Subscript_ (thn (he aa s σ H _ I h) λv s1 ⟨x,H1,I1,r1,q1⟩=>?_);refine wpAny_Slice (thn (hl aa s1 σ H1 _ I1 q1) λvl s2 ⟨l,H2,I2,pl,q2⟩=>thn (hu aa s2 σ H2 _ I2 q2) λvu s3 ⟨u,H3,I3,pu,q3⟩=>thn (hs aa s3 σ H3 _ I3 q3) λvs s4 h4=>?_);obtain⟨st,H4,I4,ps,q4⟩:=h4;have I5:Inv X aa σ H4 { s4 with heap:=s4.heap.push { cls:=.type "slice",data:=.fields #[vl,vu,vs] } }:=I4.kept (t':=s4.toks) λb ob q=>Heap.get?_push_of_some _ q
 obtain⟨a,rfl⟩:∃a,x = .ref a:=by cases x<;>first | exact⟨_,rfl⟩ | exact q4.elim
 obtain⟨xs,hx,h0,q⟩:=q4;cases r1;obtain⟨its,r,ht,hz⟩:=I5.list hx;have hlen:=r.length;show wpAny (model X.prog X.w) X.A (subscriptTail e (.Slice lo hi (some ste) p2) (.ref a) (.ref s4.heap.objs.size)) (EP X aa σ Q) X.xe { s4 with heap:=s4.heap.push { cls:=.type "slice",data:=.fields #[vl,vu,vs] } }
 refine tail_any (ops:=[.ref a,.ref s4.heap.objs.size]) ht.isList.typeIs slot_list_getitem.lookup ?_ (by with_unfolding_all rfl)
 refine wpAny_getItem_list_slice ht.isList (Heap.IsSliceOf.new ..) pl pu ps h0 ?_ (by rw[y0o]<;>omega)
 have e2:slicePick its.toArray l u st=((sliceRange (sliceBounds l u st xs.length).1 (sliceBounds l u st xs.length).2.1 (sliceBounds l u st xs.length).2.2).filterMap (its[·]?)).toArray:=by
  unfold slicePick;rw[y0o,←hlen];simp
 rw[e2];have hz':(zky xs l u st).length≤sizeLine:=by
  have h1:=slicePick_size_le its.toArray l u st;rw[e2] at h1;have h2:=(Vals.pick r (sliceRange (sliceBounds l u st xs.length).1 (sliceBounds l u st xs.length).2.1 (sliceBounds l u st xs.length).2.2)).length
  simp only[y0o] at h1;have:(zky xs l u st).length=((sliceRange (sliceBounds l u st xs.length).1 (sliceBounds l u st xs.length).2.1 (sliceBounds l u st xs.length).2.2).filterMap (its[·]?)).length:=h2;omega
 refine⟨.ref _,_,I5.laid (t':=s4.toks) (o:=.lst (zky xs l u st)) (λb ob q=>Heap.get?_push_of_some _ q) (y09 _) ?_,rfl,q _ (I5.hok.fresh (y09 _))⟩;exact⟨hz',_,0,Vals.pick r _,Heap.get?_push_size _ rfl⟩
end
theorem z9p {α:Type}{x y:α}{r:List α}:∀(c k:Nat),((y0d c).map (λi=>k+2+2*i)).filterMap ((x::y::r)[·]?)=((y0d c).map (λi=>k+2*i)).filterMap (r[·]?):=by
 intro c k;rw[y6k,y6k];congr 1;funext i;simp only[Function.comp];rw[show k+2+2*i=(k+2*i)+1+1 by omega]
 simp
theorem z8d {α:Type}:∀(xs:List α),((y0d ((xs.length+1) / 2)).map (λi=>0+2*i)).filterMap (xs[·]?)=PM.alt true xs/\((y0d (xs.length / 2)).map (λi=>1+2*i)).filterMap (xs[·]?)=PM.alt false xs
 | []=>⟨by simp[PM.alt],by simp[PM.alt]⟩
 | [x]=>⟨by simp[PM.alt],by simp[PM.alt]⟩
 | x::y::r=>by
  obtain⟨h1,h2⟩:=z8d r;have e1:((x::y::r).length+1) / 2=(r.length+1) / 2+1:=by simp only[y1f];omega
  have e2:(x::y::r).length / 2=r.length / 2+1:=by simp only[y1f];omega
  constructor
  ·rw[e1,y5s,y0n,y20,y2t];have e:((λi=>0+2*i)∘Nat.succ)=λi=>0+2+2*i:=by funext i;simp only[Function.comp];omega
   rw[e,z9p,h1];rfl
  ·rw[e2,y5s,y0n,y20,y2t];have e:((λi=>1+2*i)∘Nat.succ)=λi=>1+2+2*i:=by funext i;simp only[Function.comp];omega
   rw[e,z9p,h2];rfl
theorem zh2 (xs:List V):zky xs (some 0) none (some 2)=PM.alt true xs:=by
 rw[←(z8d xs).1];unfold zky sliceRange;congr 1;have e1:(sliceBounds (some 0) none (some 2) xs.length).1=0:=by
  have:max (0:Int) (min 0 (xs.length:Int))=0:=by omega
  simpa [sliceBounds] using this
 have e2:(sliceBounds (some 0) none (some 2) xs.length).2.1=xs.length:=by simp[sliceBounds]
 have e3:(sliceBounds (some 0) none (some 2) xs.length).2.2=2:=by simp[sliceBounds]
 rw[e1,e2,e3];have c:(if (2:Int)>0 then (if (0:Int)<(xs.length:Int) then ((xs.length:Int) - 0+2 - 1) / 2 else 0) else (if (0:Int)>(xs.length:Int) then (0 - (xs.length:Int) - 2 - 1) / (-2) else 0)).toNat=(xs.length+1) / 2:=by
  rw[if_pos (by decide)]
  split<;>omega
 show(y0d (y4i _)).map _=_;rw[c];refine y0r λk _=>?_;omega
theorem ze8 (xs:List V):zky xs (some 1) none (some 2)=PM.alt false xs:=by
 rw[←(z8d xs).2];unfold zky sliceRange;congr 1;have e2:(sliceBounds (some 1) none (some 2) xs.length).2.1=xs.length:=by simp[sliceBounds]
 have e3:(sliceBounds (some 1) none (some 2) xs.length).2.2=2:=by simp[sliceBounds]
 rw[e2,e3];rcases y2f xs.length with z | z
 ·have c:xs.length / 2=0:=by omega
  rw[c,z];rfl
 ·have e1:(sliceBounds (some 1) none (some 2) xs.length).1=1:=by
   have:max (0:Int) (min 1 (xs.length:Int))=1:=by omega
   simpa [sliceBounds] using this
  rw[e1];have c:(if (2:Int)>0 then (if (1:Int)<(xs.length:Int) then ((xs.length:Int) - 1+2 - 1) / 2 else 0) else (if (1:Int)>(xs.length:Int) then (1 - (xs.length:Int) - 2 - 1) / (-2) else 0)).toNat=xs.length / 2:=by
   rw[if_pos (by decide)]
   split<;>omega
  show(y0d (y4i _)).map _=_;rw[c];refine y0r λk _=>?_;omega
end L2.EX
set_option Elab.async false
set_option linter.all false
set_option maxRecDepth 100000
namespace L2.EX
open PySem PySem.Spec PyProof.Rows
def CNx (Pv:Nat->List V->Hp->Prop)(n i:Nat)(ys:List V)(H:Hp):Prop:=∃m',m'<n+1 - i/\m'=n - i/\i≤n/\Pv i ys H
theorem CNx.mk {Pv:Nat->List V->Hp->Prop}{n i:Nat}{ys:List V}{H:Hp}(h:Pv i ys H)(hi:i≤n):CNx Pv n i ys H:=⟨n - i,by omega,rfl,hi,h⟩
section
variable {K:y03}{g:TG}{tt:TT}{te:TE}{σ0:St}{Q:VK}{H:Hp}
theorem z1c {a:Addr}{xs:List V}(Pv:Nat->List V->Hp->Prop)(h0:Pv 0 [] H)(hz:xs.length<sizeLine)(hl:∀i ys H,i≤xs.length->Pv i ys H->SqL K H a xs/\ys.length≤i)
  (hs:∀i x ys H,xs[i]?=some x->Pv i ys H->g x σ0 H fun σ2 H2=>tt σ2 H2 λb H3=>if b=true then te σ2 H3 λy H4=>CNx Pv xs.length (i+1) (ys ++ [y]) H4 else CNx Pv xs.length (i+1) ys H3)
  (hd:∀ys H,Pv xs.length ys H->∀l,H l=none->Q (.ref l) (upd H l (.lst ys))):z4x (Itl K a) g tt te σ0 Q H:=by
 refine⟨λi m ys H=>m=xs.length - i/\i≤xs.length/\Pv i ys H,⟨xs.length,by simp,y2d _,h0⟩,?_⟩
 rintro i m ys H ⟨rfl,hi,p⟩;obtain⟨q,yl⟩:=hl i ys H hi p
 by_cases hlt:i<xs.length
 ·refine .inr ⟨⟨xs,xs[i],q,by simp[hlt]⟩,by omega,λx H' y=>?_⟩
  obtain⟨e1,e2⟩:=y;have e3:=e2 xs q;subst e1;have hx:xs[i]?=some x:=e3
  have z:=hs i x ys H' hx p;rw[show xs.length - i=xs.length+1 - (i+1) by omega]
  exact z
 ·have e:i=xs.length:=by omega
  subst e;exact .inl ⟨⟨xs,q,y09 _⟩,by omega,hd ys H p⟩
theorem zaz {a:Addr}{xs:List V}(Pv:Nat->List V->Hp->Prop)(h0:Pv 0 [] H)(hz:xs.length<sizeLine)(hl:∀i ys H,i≤xs.length->Pv i ys H->SqL K H a xs/\ys.length≤i)
  (hs:∀i x ys H p,xs[i]?=some x->Pv i ys H->H p=none->g (.ref p) σ0 (upd H p (.tup [.int i,x])) fun σ2 H2=>tt σ2 H2 λb H3=>if b=true then te σ2 H3 λy H4=>CNx Pv xs.length (i+1) (ys ++ [y]) H4 else CNx Pv xs.length (i+1) ys H3)
  (hd:∀ys H,Pv xs.length ys H->∀l,H l=none->Q (.ref l) (upd H l (.lst ys))):z4x (Ite K a) g tt te σ0 Q H:=by
 refine⟨λi m ys H=>m=xs.length - i/\i≤xs.length/\Pv i ys H,⟨xs.length,by simp,y2d _,h0⟩,?_⟩
 rintro i m ys H ⟨rfl,hi,p⟩;obtain⟨q,yl⟩:=hl i ys H hi p
 by_cases hlt:i<xs.length
 ·refine .inr ⟨⟨xs,xs[i],q,by simp[hlt]⟩,by omega,λx H' y=>?_⟩
  obtain⟨t,v,ht,e1,e2,e3⟩:=y;subst e1 e2;have z:=hs i v ys H t (e3 xs q) p ht;rw[show xs.length - i=xs.length+1 - (i+1) by omega]
  exact z
 ·have e:i=xs.length:=by omega
  subst e;exact .inl ⟨⟨xs,q,y09 _⟩,by omega,hd ys H p⟩
theorem z6u {lo:Int}{n:Nat}(Pv:Nat->List V->Hp->Prop)(h0:Pv 0 [] H)(hz:n<sizeLine)(hl:∀i ys H,i≤n->Pv i ys H->ys.length≤i)
  (hs:∀i ys H,i<n->Pv i ys H->g (.int (lo+i)) σ0 H fun σ2 H2=>tt σ2 H2 λb H3=>if b=true then te σ2 H3 λy H4=>CNx Pv n (i+1) (ys ++ [y]) H4 else CNx Pv n (i+1) ys H3)
  (hd:∀ys H,Pv n ys H->∀l,H l=none->Q (.ref l) (upd H l (.lst ys))):z4x (Itr lo n) g tt te σ0 Q H:=by
 refine⟨λi m ys H=>m=n - i/\i≤n/\Pv i ys H,⟨n,by simp,y2d _,h0⟩,?_⟩
 rintro i m ys H ⟨rfl,hi,p⟩;have yl:=hl i ys H hi p
 by_cases hlt:i<n
 ·refine .inr ⟨hlt,by omega,λx H' y=>?_⟩
  obtain⟨e1,e2⟩:=y;subst e1 e2;have z:=hs i ys _ hlt p;rw[show n - i=n+1 - (i+1) by omega]
  exact z
 ·have e:i=n:=by omega
  subst e;exact .inl ⟨y09 _,by omega,hd ys H p⟩
end
section
variable {X:Cx}{scope:Scope}{N:List Str}{c:CC}{e:Expr}
theorem pgC {g g':TG}(h:PG (z0v X scope N c) e g)(q:g=g'):PG (z0v X scope N c) e g':=q▸h
theorem peC {g g':TE}(h:PE (z0v X scope N c) e g)(q:g=g'):PE (z0v X scope N c) e g':=q▸h
theorem ptC {g g':TT}(h:PT (z0v X scope N c) e g)(q:g=g'):PT (z0v X scope N c) e g':=q▸h
end
end L2.EX
set_option Elab.async false
set_option linter.all false
set_option maxRecDepth 100000
namespace L2.EX
open PySem PySem.Spec PyProof.Rows
def ItAt (t:Bool)(h:Heap)(i a:Addr)(k:Nat):Prop:=if t then h.IsTupleIter i a k else h.IsListIter i a k
def SeqAt (t:Bool)(h:Heap)(a:Addr)(xs:Array Value):Prop:=if t then h.IsTuple a xs else h.IsList a xs
theorem ItAt.at {t:Bool}{h h':Heap}{i a:Addr}{k:Nat}(x:ItAt t h i a k)(e:∀o,h.get? i=some o->h'.get? i=some o):ItAt t h' i a k:=by
 cases t
 ·exact Heap.IsListIter.at x e
 ·exact Heap.IsTupleIter.at x e
theorem SeqAt.at {t:Bool}{h h':Heap}{a:Addr}{xs:Array Value}(x:SeqAt t h a xs)(e:∀o,h.get? a=some o->h'.get? a=some o):SeqAt t h' a xs:=by
 cases t
 ·obtain⟨o,ho,r⟩:=x;exact⟨o,e _ ho,r⟩
 ·obtain⟨o,ho,r⟩:=x;exact⟨o,e _ ho,r⟩
section
variable {prog:Program}{w:World}{A:Around}{E:Value->Shared->Prop}{s:Shared}
theorem z8g {it t:Addr}{i:Nat}{items:Array Value}{x:Value}{Q:Value->Shared->Prop}(hit:s.heap.IsTupleIter it t i)(ht:s.heap.IsTuple t items)(hx:items[i]?=some x)
  (hQ:∀h',h'.IsTupleIter it t (i+1)->Heap.SameBut it s.heap h'->Q x { s with heap:=h' }):wpAny (model prog w) A (Builtin.SmallTypes.nextOf (.ref it)) Q E s:=by
 obtain⟨o,ho,hc,hd⟩:=id hit;obtain⟨p,hp,_,n,hdp⟩:=ht;unfold Builtin.SmallTypes.nextOf;refine wpAny_bind (wpAny_callSpecial?_slot (name:=Str.ofString "__next__") hit.typeIs F.slot_tuple_iterator_next (wpAny_call_entry F.slot_tuple_iterator_next hit.typeIs F.entry_tuple_iterator_next ?_ (F.args_tuple_iterator_next_1 _)));refine wpAny_bind (m:=field (.ref it) 0) (wpAny_field ho hd (x:=.ref t) rfl ?_);refine wpAny_bind (m:=field (.ref it) 1) (wpAny_field ho hd (x:=.int i 0) rfl ?_);refine wpAny_bind (m:=seqItems? (.ref t)) (wpAny_seqItems hp hdp ?_);simp only[y4b,hx];refine wpAny_bind (wpAny_setField ho hd (by simp) (wpAny_pure ⟨x,rfl,wpAny_pure (hQ _ ?_ (Heap.SameBut.update ..))⟩))
 exact⟨_,Heap.get?_update_self _ ho (Obj.isFreed_of_fields (Obj.data_mapFields hd _)),(Obj.cls_mapFields ..).trans hc,by rw[Obj.data_mapFields hd];simp[rawInt]⟩
theorem z98 {it t:Addr}{i:Nat}{items:Array Value}{Q:Value->Shared->Prop}(hh:A.handled=none)(hit:s.heap.IsTupleIter it t i)(ht:s.heap.IsTuple t items)(hx:items[i]?=none)
  (hE:∀h' e,Heap.ExtBut it s.heap h'->(∃o,h'.get? e=some o/\o.cls = .type "StopIteration")->E (.ref e) { s with heap:=h' }):wpAny (model prog w) A (Builtin.SmallTypes.nextOf (.ref it)) Q E s:=by
 obtain⟨o,ho,hc,hd⟩:=id hit;obtain⟨p,hp,_,n,hdp⟩:=ht;unfold Builtin.SmallTypes.nextOf;refine wpAny_bind (wpAny_callSpecial?_slot (name:=Str.ofString "__next__") hit.typeIs F.slot_tuple_iterator_next (wpAny_call_entry F.slot_tuple_iterator_next hit.typeIs F.entry_tuple_iterator_next ?_ (F.args_tuple_iterator_next_1 _)));refine wpAny_bind (m:=field (.ref it) 0) (wpAny_field ho hd (x:=.ref t) rfl ?_);refine wpAny_bind (m:=field (.ref it) 1) (wpAny_field ho hd (x:=.int i 0) rfl ?_);refine wpAny_bind (m:=seqItems? (.ref t)) (wpAny_seqItems hp hdp ?_);simp only[y4b,hx];refine wpAny_bind (wpAny_rule (wpAny_bind (wpAny_setField ho hd (by simp) ?_)))
 refine wpAny_bind (m:=newExc (.type "StopIteration") []) ?_;simp only[newExc,newTuple];refine wpAny_bind (wpAny_newObj_type ?_ (by size_fits))
 refine wpAny_bind (m:=firstArgMember _ _) (wpAny_of_eq (a:=Value.none) (by first | rfl | (simp only[firstArgMember];rfl)) ?_)
 refine wpAny_newObj_type ?_ (by size_fits)
 simp only[raiseNew];refine wpAny_bind (wpAny_handled ?_)
 first | rw[show A.in1.handled=none from hh] | rw[hh]
 refine wpAny_bind (wpAny_pure (wpAny_throw ?_));exact hE _ _ (((Heap.SameBut.update ..).extBut.push _).push _) ⟨_,Heap.get?_push_size _ rfl,rfl⟩
theorem zcv {t:Bool}{i a:Addr}{k:Nat}{xs:Array Value}{x:Value}{Q:Value->Shared->Prop}(hit:ItAt t s.heap i a k)(hs:SeqAt t s.heap a xs)(hx:xs[k]?=some x)
  (hQ:∀h',ItAt t h' i a (k+1)->Heap.SameBut i s.heap h'->Q x { s with heap:=h' }):wpAny (model prog w) A (Builtin.SmallTypes.nextOf (.ref i)) Q E s:=by
 cases t
 ·exact wpAny_nextOf_list_item hit hs hx hQ
 ·exact z8g hit hs hx hQ
theorem zfe {t:Bool}{i a:Addr}{k:Nat}{xs:Array Value}{Q:Value->Shared->Prop}(hh:A.handled=none)(hit:ItAt t s.heap i a k)(hs:SeqAt t s.heap a xs)(hx:xs[k]?=none)
  (hE:∀h' e,Heap.ExtBut i s.heap h'->(∃o,h'.get? e=some o/\o.cls = .type "StopIteration")->E (.ref e) { s with heap:=h' }):wpAny (model prog w) A (Builtin.SmallTypes.nextOf (.ref i)) Q E s:=by
 cases t
 ·exact wpAny_nextOf_list_end hh hit hs hx hE
 ·exact z98 hh hit hs hx hE
end
end L2.EX
set_option Elab.async false
set_option linter.all false
set_option maxRecDepth 100000
namespace L2.EX
open PySem PySem.Spec PyProof.Rows
abbrev z4a (h:Heap)(T:Addr)(vs:List Value):Prop:=h.get? T=some { cls:=.type "tuple",data:=.seq vs.toArray }
abbrev zfu (b:Nat)(m:Nat):List Value:=(y4y 0 m).map λj=>Value.ref (b+j)
abbrev zgj (h:Heap)(e:Addr):Prop:=∃o,h.get? e=some o/\o.cls = .type "StopIteration"
def Kp (b:Nat)(m:Nat)(c:Nat):Prop:=c<b∨c=b+m∨b+m+2<c
def zld (b:Nat)(m:Nat)(h h':Heap):Prop:=∀(c:Nat) o,Kp b m c->h.get? c=some o->h'.get? c=some o
structure ZSt (b:Nat)(src:List (Bool×Addr))(k:Nat)(f0:Value)(h:Heap):Prop where
 zip:IsZip h (b+src.length+2) (b+src.length) (b+src.length+1) f0
 its:z4a h (b+src.length) (zfu b src.length)
 own:∃old,old.length=src.length/\z4a h (b+src.length+1) old
 it:∀(j:Nat) p,src[j]?=some p->ItAt p.1 h (b+j) p.2 k
section
variable {prog:Program}{w:World}{A:Around}{E:Value->Shared->Prop}
theorem zsc {T:Addr}{old:List Value}{j:Nat}{x:Value}{s:Shared}{Q:Unit->Shared->Prop}(hT:z4a s.heap T old)(hz:old.length≤sizeLine)(h:∀h',z4a h' T (old.set j x)->Heap.SameBut T s.heap h'->Q () { s with heap:=h' }) :
  wpAny (model prog w) A (updateSeq T (·.setIfInBounds j x)) Q E s:=by
 refine wpAny_updateSeq hT rfl (h _ ?_ (Heap.SameBut.update ..)) (by simpa using hz) (by simp;omega)
 show Heap.get? _ _=_;rw[Heap.get?_update_self _ hT rfl];simp[Obj.mapSeq]
abbrev zqk {β:Type}(prog:Program)(w:World)(A:Around)(f:Value×Nat->β->Sem (ForInStep β))(b0:β)(E:Value->Shared->Prop)(b:Nat)(src:List (Bool×Addr))(xss:Nat->Array Value)(k:Nat):Prop :=
 ∀(j:Nat) (p:Bool×Addr) (s:Shared) (old:List Value) (Qf:ForInStep β->Shared->Prop),src[j]?=some p->ItAt p.1 s.heap (b+j) p.2 k->SeqAt p.1 s.heap p.2 (xss j)->old.length=src.length->z4a s.heap (b+src.length+1) old->IsZip s.heap (b+src.length+2) (b+src.length) (b+src.length+1) .ellipsis ->
  (∀x h',(xss j)[k]?=some x->ItAt p.1 h' (b+j) p.2 (k+1)->z4a h' (b+src.length+1) (old.set j x)->(∀(c:Nat) o,c≠b+src.length+1->c≠b+j->s.heap.get? c=some o->h'.get? c=some o)->h'.objs.size=s.heap.objs.size->Qf (.yield b0) { s with heap:=h' }) ->
  ((xss j)[k]?=none->∀h' e,zld b src.length s.heap h'->zgj h' e->E (.ref e) { s with heap:=h' })->wpAny (model prog w) A (f (.ref (b+j),j) b0) Qf E s
theorem zgo {β:Type}{f:Value×Nat->β->Sem (ForInStep β)}{b0:β}{b:Nat}{src:List (Bool×Addr)}{xss:Nat->Array Value}{k:Nat}(cf:∀p∈src,p.2<b)(hb:zqk prog w A f b0 E b src xss k) :
  ∀(r j:Nat),j+r=src.length->∀(done rest:List Value) (s:Shared) (Q:β->Shared->Prop),done.length=j->rest.length=r->z4a s.heap (b+src.length+1) (done++rest)->IsZip s.heap (b+src.length+2) (b+src.length) (b+src.length+1) .ellipsis ->
   (∀(i:Nat) p,src[i]?=some p->ItAt p.1 s.heap (b+i) p.2 (if i<j then k+1 else k))->(∀(i:Nat) p,src[i]?=some p->SeqAt p.1 s.heap p.2 (xss i)) ->
   (∀h' ap,ap.length=r->(∀i:Nat,i<r->(xss (j+i))[k]?=ap[i]?)->z4a h' (b+src.length+1) (done++ap)->IsZip h' (b+src.length+2) (b+src.length) (b+src.length+1) .ellipsis->(∀(i:Nat) p,src[i]?=some p->ItAt p.1 h' (b+i) p.2 (k+1))->zld b src.length s.heap h'->h'.objs.size=s.heap.objs.size->Q b0 { s with heap:=h' }) ->
   ((∃i:Nat,i<src.length/\(xss i)[k]?=none)->∀h' e,zld b src.length s.heap h'->zgj h' e->E (.ref e) { s with heap:=h' }) ->
   wpAny (model prog w) A (forIn ((y4y j r).map λi=>(Value.ref (b+i),i)) b0 f) Q E s
 | 0,j,hj,done,rest,s,Q,hd,hr,hT,hz,hi,hs,hQ,hE=>by
  show wpAny _ _ (forIn [] b0 f) _ _ _;rw[List.forIn_nil];have er:rest = []:=y1x.mp hr;subst er;refine wpAny_pure (hQ s.heap [] rfl (λi hi=>absurd hi (y60 _)) hT hz (λi p hp=>?_) (λc o _ e=>e) rfl);have:=(y00.mp hp).1
  have z:=hi i p hp;rw[if_pos (show i<j by omega)] at z
  exact z
 | r+1,j,hj,done,[],s,Q,hd,hr,hT,hz,hi,hs,hQ,hE=>by simp at hr
 | r+1,j,hj,done,o::rest,s,Q,hd,hr,hT,hz,hi,hs,hQ,hE=>by
  have hjl:j<src.length:=by omega
  have hp:src[j]?=some src[j]:=by simp[hjl]
  have hlp:src[j].2<b:=cf _ (y39 hjl);have h1:=hi j _ hp
  rw[if_neg (y2v _)] at h1;rw[List.range'_succ,y0n,y5x];refine wpAny_bind (hb j src[j] s (done++o::rest) _ hp h1 (hs j _ hp) (by simp only[y0c,y1f] at hr ⊢;omega) hT hz (λx h' hx i1 t1 kk sz=>?_) (λhx h' e kk st=>hE ⟨j,hjl,hx⟩ h' e kk st))
  have eset:(done++o::rest).set j x=(done ++ [x])++rest:=by
   subst hd;simp
  rw[eset] at t1;refine zgo cf hb r (j+1) (by omega) (done ++ [x]) rest { s with heap:=h' } Q (by simp[hd]) (by simpa using hr) t1 (kk _ _ (by omega) (by omega) hz) (λi p hip=>?_) (λi p hip=>?_) (λh2 ap vl vx t2 z2 i2 k2 s2=>?_) (λhex h2 e k2 st=>hE hex h2 e (λc o hc g=>k2 c o hc (kk c o (by unfold Kp at hc;omega) (by unfold Kp at hc;omega) g)) st)
  ·have hil:=(y00.mp hip).1
   by_cases e:i=j
   ·subst e;rw[if_pos (show i<i+1 by omega)]
    rw[hp] at hip;cases hip;exact i1
   ·have z:=(hi i p hip).at (h':=h') λo g=>kk _ _ (by omega) (by omega) g
    by_cases e2:i<j
    ·rw[if_pos e2] at z;rw[if_pos (show i<j+1 by omega)]
     exact z
    ·rw[if_neg e2] at z;rw[if_neg (show ¬i<j+1 by omega)]
     exact z
  ·have hil:=(y00.mp hip).1;have:=cf p (y02 hip)
   exact(hs i p hip).at λo g=>kk _ _ (y0t (y0p this (by omega))) (y0t (y0p this (by omega))) g
  ·refine hQ h2 (x::ap) (by simp[vl]) (λi hi'=>?_) (by simpa using t2) z2 i2 (λc o hc g=>k2 c o hc (kk c o (by unfold Kp at hc;omega) (by unfold Kp at hc;omega) g)) (by rw[s2];exact sz)
   cases i with
   | zero=>simpa using hx
   | succ i =>
    have:=vx i (by omega)
    rw[show j+(i+1)=j+1+i by omega]
    simpa using this
end
end L2.EX
set_option Elab.async false
set_option linter.all false
set_option maxRecDepth 100000
namespace L2.EX
open PySem PySem.Spec PyProof.Rows
theorem zfc (b m:Nat):(zfu b m).toArray.toList.zipIdx=(y4y 0 m).map λi=>(Value.ref (b+i),i):=by
 apply y2u;intro i;simp only[zfu,List.getElem?_zipIdx,y05,Option.map_map]
 by_cases h:i<m
 ·simp[h]
 ·simp[h]
section
variable {prog:Program}{w:World}{A:Around}{E:Value->Shared->Prop}{s:Shared}
theorem zkq {b:Nat}{src:List (Bool×Addr)}{xss:Nat->Array Value}{k:Nat}{Q:Value->Shared->Prop}(hh:A.handled=none)(hne:src.length≠0)(hm:src.length≤100)(cf:∀p∈src,p.2<b)(st:ZSt b src k .none s.heap)
  (hs:∀(i:Nat) p,src[i]?=some p->SeqAt p.1 s.heap p.2 (xss i))
  (hQ:∀h' ap,ap.length=src.length->(∀i:Nat,i<src.length->(xss i)[k]?=ap[i]?)->ZSt b src (k+1) (rawInt s.heap.objs.size) h'->z4a h' s.heap.objs.size ap->h'.objs.size=s.heap.objs.size+1->zld b src.length s.heap h'->Q (.ref s.heap.objs.size) { s with heap:=h' })
  (hE:(∃i:Nat,i<src.length/\(xss i)[k]?=none)->∀h' e,zld b src.length s.heap h'->zgj h' e->E (.ref e) { s with heap:=h' }) :
  wpAny (model prog w) A (Builtin.«zip.__next__» ⟨[.ref (b+src.length+2)],[]⟩) (λfin s'=>∃v,fin = .done (.ret v)/\Q v s') E s:=by
 obtain⟨hz,hTI,⟨old,hol,hTO⟩,hit⟩:=st;refine wpAny_bind (m:=field (.ref (b+src.length+2)) 2) (wpAny_field hz rfl (x:=.bool false) rfl ?_);refine wpAny_bind (m:=field (.ref (b+src.length+2)) 3) (wpAny_field hz rfl (x:=.ref (b+src.length)) rfl ?_);refine wpAny_bind (wpAny_seqItems hTI rfl ?_);show wpAny _ _ (if (zfu b src.length).toArray.isEmpty=true then _ else _) _ _ _
 rw[if_neg (by simp only[List.isEmpty_toArray,List.isEmpty_iff,zfu,y69,List.range'_eq_nil_iff];exact hne)]
 refine wpAny_bind (m:=Builtin.SmallTypes.ownedTupleIsFree (.ref (b+src.length+2))) ?_;unfold Builtin.SmallTypes.ownedTupleIsFree;refine wpAny_bind (wpAny_field hz rfl (x:=.none) rfl (wpAny_pure ?_));simp only[if_true];refine wpAny_bind (wpAny_rule ?_);refine wpAny_bind (wpAny_field hz rfl (x:=.ref (b+src.length+1)) rfl ?_);refine wpAny_bind (wpAny_setField_rec hz (by simp) λh1 hz1 hs1=>?_)
 replace hz1:IsZip h1 (b+src.length+2) (b+src.length) (b+src.length+1) .ellipsis:=hz1;refine wpAny_bind ?_;rw[zfc];have k1:∀(c:Nat) o,c≠b+src.length+2->s.heap.get? c=some o->h1.get? c=some o:=λc o hc e=>hs1.extBut _ _ hc e;have kp1:zld b src.length s.heap h1:=λc o hc e=>k1 c o (by unfold Kp at hc;omega) e
 refine zgo (b:=b) (src:=src) (xss:=xss) (k:=k) cf ?_ src.length 0 (by omega) [] old { s with heap:=h1 } _ rfl hol (k1 _ _ (by omega) hTO) hz1 (λi p hip=>?_) (λi p hip=>?_) (λh2 ap vl vx t2 z2 i2 k2 s2=>?_) (λhex h2 e k2 stp=>hE hex h2 e (λc o hc g=>k2 c o hc (kp1 c o hc g)) stp)
 ·intro j p s old Qf hp hi hq hl hT hzz hi' he';have hjl:=(y00.mp hp).1;refine wpAny_bind (wpAny_onRaise ?_);refine wpAny_bind (m:=Builtin.SmallTypes.nextOf (.ref (b+j))) ?_;cases hx:(xss j)[k]? with
  | none =>
   refine zfe hh hi hq hx λh2 e k2 stp=>?_;obtain⟨oe,hoe,hce⟩:=stp;have hz2:IsZip h2 (b+src.length+2) (b+src.length) (b+src.length+1) .ellipsis:=k2 _ _ (show b+src.length+2≠b+j by omega) hzz
   have hez:e≠b+src.length+2:=λx=>by subst x;rw[hz2] at hoe;cases hoe;simp at hce
   exact wpAny_setField_rec hz2 (by simp) λh3 _ s3=>he' hx h3 e (λc o hc g=>s3.extBut _ _ (show c≠b+src.length+2 by unfold Kp at hc;omega) (k2 _ _ (show c≠b+j by unfold Kp at hc;omega) g)) ⟨oe,s3.extBut _ _ hez hoe,hce⟩
  | some x =>
   refine zcv hi hq hx λh2 i2 s2=>wpAny_pure ?_;have hT2:z4a h2 (b+src.length+1) old:=s2.extBut _ _ (show b+src.length+1≠b+j by omega) hT
   refine wpAny_bind (wpAny_seqItems hT2 rfl ?_);refine wpAny_bind (zsc (s:={ s with heap:=h2 }) hT2 (y13 (by omega) (show 100≤sizeLine by decide)) λh3 hT3 s3=>?_)
   refine wpAny_bind (wpAny_letGo (wpAny_pure ?_));refine hi' x h3 hx (i2.at λo g=>s3.extBut _ _ (show b+j≠b+src.length+1 by omega) g) hT3 (λc o c1 c2 g=>s3.extBut _ _ c1 (s2.extBut _ _ c2 g)) (by rw[s3.1,s2.1])
 ·rw[if_neg (y60 i)];have hil:=(y00.mp hip).1;exact(hit i p hip).at λo g=>k1 _ _ (by omega) g
 ·have:=cf p (y02 hip);exact(hs i p hip).at λo g=>k1 _ _ (y0t (y0p this (by omega))) g
 ·have t2':z4a h2 (b+src.length+1) ap:=t2;refine wpAny_bind (wpAny_seqItems t2' rfl ?_);refine wpAny_bind (wpAny_newTuple ?_ (y13 (show ap.toArray.toList.length≤100 by rw[List.toList_toArray];omega) (show 100≤sizeLine by decide)))
  have hsz:h2.objs.size=s.heap.objs.size:=by rw[s2];exact hs1.1
  refine wpAny_bind (m:=Builtin.SmallTypes.ownedTupleHandOut (.ref (b+src.length+2)) (.ref h2.objs.size)) ?_;unfold Builtin.SmallTypes.ownedTupleHandOut;have z3:IsZip (h2.push { cls:=.type "tuple",data:=.seq ap.toArray.toList.toArray }) (b+src.length+2) (b+src.length) (b+src.length+1) .ellipsis:=Heap.get?_push_of_some _ z2;have lt:b+src.length+2<h2.objs.size:=Heap.lt_size z2
  refine wpAny_bind (wpAny_setField_rec z3 (by simp) λh4 z4 s4=>?_)
  replace z4:IsZip h4 (b+src.length+2) (b+src.length) (b+src.length+1) (rawInt h2.objs.size):=z4;refine wpAny_setField_rec z4 (by simp) λh5 z5 s5=>?_
  replace z5:IsZip h5 (b+src.length+2) (b+src.length) (b+src.length+1) (rawInt h2.objs.size):=z5;have up:∀(c:Nat) o,c≠b+src.length+2->h2.get? c=some o->h5.get? c=some o:=λc o c1 g=>s5.extBut _ _ c1 (s4.extBut _ _ c1 (Heap.get?_push_of_some _ g));have tN:z4a h5 h2.objs.size ap:=s5.extBut _ _ (show h2.objs.size≠b+src.length+2 by omega) (s4.extBut _ _ (show h2.objs.size≠b+src.length+2 by omega) (Heap.get?_push_size _ rfl))
  have sz5:h5.objs.size=h2.objs.size+1:=by rw[s5.1,s4.1,Heap.size_push]
  rw[hsz] at z5 tN sz5;refine wpAny_pure ⟨_,rfl,?_⟩;show Q (.ref h2.objs.size) _;rw[hsz];refine hQ h5 ap vl (λi hi=>by have:=vx i hi;rwa [Nat.zero_add] at this) ⟨z5,up _ _ (by omega) (k2 _ _ (.inr (.inl rfl)) (k1 _ _ (by omega) hTI)),⟨ap,vl,up _ _ (by omega) t2'⟩,λj p hp=>(i2 j p hp).at λo g=>up _ _ ?_ g⟩ tN sz5 (λc o hc g=>up c o (by unfold Kp at hc;omega) (k2 c o hc (kp1 c o hc g)))
  have hil:=(y00.mp hp).1;omega
theorem z9s {b:Nat}{src:List (Bool×Addr)}{xss:Nat->Array Value}{k:Nat}{Q:Option Value->Shared->Prop}(hh:A.handled=none)(hne:src.length≠0)(hm:src.length≤100)(cf:∀p∈src,p.2<b)(st:ZSt b src k .none s.heap)
  (hs:∀(i:Nat) p,src[i]?=some p->SeqAt p.1 s.heap p.2 (xss i))
  (hQ:∀h' ap,ap.length=src.length->(∀i:Nat,i<src.length->(xss i)[k]?=ap[i]?)->ZSt b src (k+1) (rawInt s.heap.objs.size) h'->z4a h' s.heap.objs.size ap->h'.objs.size=s.heap.objs.size+1->zld b src.length s.heap h'->Q (some (.ref s.heap.objs.size)) { s with heap:=h' })
  (hE:(∃i:Nat,i<src.length/\(xss i)[k]?=none)->∀h',zld b src.length s.heap h'->Q none { s with heap:=h' }) :
  wpAny (model prog w) A (pyNext (.ref (b+src.length+2))) Q E s:=by
 have hT:s.TypeIs (.ref (b+src.length+2)) "zip":=⟨_,st.zip,rfl⟩;unfold pyNext;refine wpAny_bind (wpAny_attempt (wpAny_callSpecial?_slot (name:=Str.ofString "__next__") hT F.slot_zip_next
  (wpAny_call_entry F.slot_zip_next hT F.entry_zip_next (zkq hh hne hm cf st hs (λh' ap a1 a2 a3 a4 a5 a6=>wpAny_pure (hQ h' ap a1 a2 a3 a4 a5 a6)) λhex h' e kk stp=>?_) (F.args_zip_next_1 _))))
 obtain⟨o,ho,hc⟩:=stp;exact wpAny_bind (wpAny_isInstance (T:="StopIteration") (b:=true) ⟨o,ho,hc⟩ isSubtype_stop (wpAny_pure (hE hex h' kk)))
end
end L2.EX
set_option Elab.async false
set_option linter.all false
set_option maxRecDepth 100000
namespace L2.EX
open PySem PySem.Spec PyProof.Rows
abbrev z40 (t:Bool)(a:Addr):Obj:={ cls:=.type (if t then "tuple_iterator" else "list_iterator"),data:=.fields #[.ref a,.int 0 0] }
abbrev zhs (I O:Addr):Obj:={ cls:=.type "zip",data:=.fields #[.none,.bool false,.bool false,.ref I,.ref O] }
abbrev z56 (vs:List Value):Obj:={ cls:=.type "tuple",data:=.seq vs.toArray }
section
variable {prog:Program}{w:World}{A:Around}{E:Value->Shared->Prop}{s:Shared}
theorem z9k {t:Bool}{a:Addr}{xs:Array Value}{Q:Value->Shared->Prop}(h:SeqAt t s.heap a xs)(hQ:Q (.ref s.heap.objs.size) { s with heap:=s.heap.push (z40 t a) }):wpAny (model prog w) A (pyIter (.ref a)) Q E s:=by
 cases t
 ·exact wpAny_pyIter_list h hQ
 ·exact wpAny_pyIter_tuple h hQ
end
theorem SeqAt.push {t:Bool}{h:Heap}{a:Addr}{xs:Array Value}(x:SeqAt t h a xs)(o:Obj):SeqAt t (h.push o) a xs:=x.at λ_ g=>Heap.get?_push_of_some _ g
abbrev z2H (h:Heap)(p q:Bool×Addr):Heap:=(((((h.push (z40 p.1 p.2)).push (z40 q.1 q.2)).push (z56 [.ref h.objs.size,.ref (h.push (z40 p.1 p.2)).objs.size])).push (z56 [.none,.none])).push (zhs ((h.push (z40 p.1 p.2)).push (z40 q.1 q.2)).objs.size (((h.push (z40 p.1 p.2)).push (z40 q.1 q.2)).push (z56 [.ref h.objs.size,.ref (h.push (z40 p.1 p.2)).objs.size])).objs.size))
abbrev z2A (h:Heap)(p q:Bool×Addr):Addr:=((((h.push (z40 p.1 p.2)).push (z40 q.1 q.2)).push (z56 [.ref h.objs.size,.ref (h.push (z40 p.1 p.2)).objs.size])).push (z56 [.none,.none])).objs.size
theorem zjk (p q:Bool×Addr)(xs ys:Array Value) :
  Meets (Builtin.«zip.__new__» ⟨[.type "zip",.ref p.2,.ref q.2],[]⟩) (λ_ R s=>SeqAt p.1 s.heap p.2 xs/\SeqAt q.1 s.heap q.2 ys/\R (.ok (.ret (.ref (z2A s.heap p q)))) { s with heap:=z2H s.heap p q }) :=
 .of_wp λprog w A R s h=>by
  obtain⟨hp,g,d,tk,os⟩:=s;obtain⟨h1,h2,h⟩:=h;have hsub:=sub_zip;have hL1:SeqAt p.1 (Shared.heap ⟨hp,g,d,tk,os⟩) p.2 xs:=h1
  have hL2:SeqAt q.1 (Shared.heap ⟨hp.push (z40 p.1 p.2),g,d,tk,os⟩) q.2 ys:=SeqAt.push h2 _
  wp_walk using z9k hL1,z9k hL2
  exact⟨_,rfl,h⟩
end L2.EX
set_option Elab.async false
set_option linter.all false
set_option maxRecDepth 100000
namespace L2.EX
open PySem PySem.Spec PyProof.Rows
def SqS (K:y03)(t:Bool)(H:Hp)(a:Addr)(xs:List V):Prop:=if t then SqT K H a xs else SqL K H a xs
abbrev zqz (K:y03)(src:List (Bool×Addr))(i:Nat)(H:Hp):Prop:=∀(j:Nat) p,src[j]?=some p->∃xs x,SqS K p.1 H p.2 xs/\xs[i]?=some x
abbrev zs5 (K:y03)(src:List (Bool×Addr))(i:Nat)(H:Hp)(v:V)(H':Hp):Prop:=∃T xs,H T=none/\v = .ref T/\H'=upd H T (.tup xs)/\xs.length=src.length/\∀(j:Nat) p,src[j]?=some p->∀ys,SqS K p.1 H p.2 ys->ys[i]?=xs[j]?
abbrev zoy (K:y03)(src:List (Bool×Addr))(i:Nat)(H:Hp):Prop:=(∀(j:Nat) p,src[j]?=some p->∃xs,SqS K p.1 H p.2 xs)/\∃(j:Nat) (p:Bool×Addr) (xs:List V),src[j]?=some p/\SqS K p.1 H p.2 xs/\xs.length≤i
def Itz (K:y03)(src:List (Bool×Addr)):It:=⟨zqz K src,zs5 K src,zoy K src⟩
section
variable {X:Cx}{aa:List (Addr×Obj)}{σ:St}{H:Hp}{s:Shared}
theorem Inv.sqs {t:Bool}{a:Addr}{xs:List V}(I:Inv X aa σ H s)(h:SqS X.K t H a xs):∃its:Array Value,Vals xs its.toList/\SeqAt t s.heap a its:=by
 cases t
 ·obtain⟨its,rv,p,_⟩:=I.list h;exact⟨its.toArray,rv,p.isList⟩
 ·obtain⟨its,rv,p,_⟩:=I.tuple h;exact⟨its.toArray,rv,show s.heap.IsTuple a its.toArray from p⟩
theorem Inv.sqs_inj {t:Bool}{a:Addr}{xs ys:List V}(I:Inv X aa σ H s)(h:SqS X.K t H a xs)(h':SqS X.K t H a ys):xs=ys:=by
 cases t
 ·exact I.list_inj h h'
 ·exact I.tuple_inj h h'
end
theorem zcc:∀{xs:List V} {us:List Value},xs.length=us.length->(∀(j:Nat) x u,xs[j]?=some x->us[j]?=some u->RelV x u)->Vals xs us
 | [],[],_,_=>.nil
 | [],_::_,h,_=>by simp at h
 | _::_,[],h,_=>by simp at h
 | x::xs,u::us,h,r=>.cons (r 0 x u rfl rfl) (zcc (by simpa using h) λj y v h1 h2=>r (j+1) y v (by simpa using h1) (by simpa using h2))
theorem zja {t:Bool}{h:Heap}{i a:Addr}{k:Nat}(x:ItAt t h i a k):∃o,h.get? i=some o/\∀v,o.data ≠ .cell v:=by
 cases t
 ·obtain⟨o,e,c,d⟩:=x;exact⟨o,e,λv z=>by rw[d] at z;cases z⟩
 ·obtain⟨o,e,c,d⟩:=x;exact⟨o,e,λv z=>by rw[d] at z;cases z⟩
theorem ZSt.obj {b:Nat}{src:List (Bool×Addr)}{k:Nat}{f0:Value}{h:Heap}(st:ZSt b src k f0 h)(c:Nat)(h1:b≤c)(h2:c<b+src.length+3):∃o,h.get? c=some o/\∀v,o.data ≠ .cell v:=by
 by_cases e:c<b+src.length
 ·have hj:c - b<src.length:=by omega
  have:=zja (st.it (c - b) src[c - b] (by simp[hj]))
  rwa [show b+(c - b)=c by omega] at this
 ·rcases (by omega:c=b+src.length∨c=b+src.length+1∨c=b+src.length+2) with rfl | rfl | rfl
  ·exact⟨_,st.its,λv z=>by cases z⟩
  ·obtain⟨old,_,ho⟩:=st.own;exact⟨_,ho,λv z=>by cases z⟩
  ·exact⟨_,st.zip,λv z=>by cases z⟩
theorem ZSt.keep {b:Nat}{src:List (Bool×Addr)}{k:Nat}{f0:Value}{h h':Heap}(st:ZSt b src k f0 h)(kk:∀(c:Nat),b≤c->c<b+src.length+3->∀o,h.get? c=some o->h'.get? c=some o):ZSt b src k f0 h':=by
 obtain⟨old,ol,ho⟩:=st.own;refine⟨kk _ (by omega) (by omega) _ st.zip,kk _ (by omega) (by omega) _ st.its,⟨old,ol,kk _ (by omega) (by omega) _ ho⟩,λj p hp=>(st.it j p hp).at λo g=>kk _ (by omega) ?_ _ g⟩
 have:=(y00.mp hp).1;omega
theorem fp_mem {b m c:Nat}:c∈y4y b (m+3)↔b≤c/\c<b+m+3:=by
 rw[List.mem_range'_1];omega
theorem zjo {P:Program}{w:World}{K:y03}{elts:List Expr}{kt:Nat}{tp:Pos}(b:Nat)(src:List (Bool×Addr))(hne:src.length≠0)(hm:src.length≤100)(cf:∀p∈src,p.2<b) :
  Turn P w K (.Tuple elts kt tp) (Itz K src) (y4y b (src.length+3)) (b+src.length+2) (λk h=>ZSt b src k .none h) where
 mem:=fp_mem.mpr ⟨by omega,by omega⟩
 obj:=λk h st c hc=>st.obj c (fp_mem.mp hc).1 (fp_mem.mp hc).2
 keep:=λk h h' st kk=>st.keep λc h1 h2 o g=>kk c (fp_mem.mpr ⟨h1,h2⟩) o g
 item:=by
  intro X hP hw hK hc i aa s σ H E I hf st hg;subst hP hw hK;have ch:∀j:Nat,∃t:Array Value×V,∀p,src[j]?=some p->∃zs,SqS X.K p.1 H p.2 zs/\Vals zs t.1.toList/\SeqAt p.1 s.heap p.2 t.1/\zs[i]?=some t.2:=λj=>by
   cases hp:src[j]? with
   | none=>exact⟨(#[],.int 0),λp z=>by cases z⟩
   | some p =>
    obtain⟨xs,x,hq,hx⟩:=hg j p hp;obtain⟨its,rv,sq⟩:=Inv.sqs I hq;exact⟨(its,x),λp' z=>by cases z;exact⟨xs,hq,rv,sq,hx⟩⟩
  obtain⟨T,hT⟩:=Classical.axiomOfChoice ch;refine z9s (I.ok.hd hc) hne hm cf st (xss:=λj=>(T j).1) (λj p hp=>(hT j p hp).choose_spec.2.2.1) (λh' ap vl vx z1 t1 sz kk=>⟨_,rfl,?_⟩) (λhex=>?_)
  ·refine wpAny_letOwnedTupleGo_zip z1.zip λh2 hz2 hs2=>?_;have hlt:b+src.length+2<s.heap.objs.size:=Heap.lt_size st.zip;have up:∀(c:Nat) o,c≠b+src.length+2->h'.get? c=some o->h2.get? c=some o:=λc o hc g=>hs2.extBut _ _ hc g
   have k2:∀(c:Addr) o,c ∉ y4y b (src.length+3)->s.heap.get? c=some o->h2.get? c=some o:=λc o hc g=>by
    have hc':¬(b≤c/\c<b+src.length+3):=λz=>hc (fp_mem.mpr z);have c1:Kp b src.length c:=by
     unfold Kp;rcases y3x c b with z | z
     ·exact .inl z
     ·exact .inr (.inr (y74 λz2=>hc' ⟨z,y6s z2⟩))
    refine up c o (λz=>?_) (kk c o c1 g);subst z;exact hc' ⟨y13 (y4l _ _) (y4l _ _),y38 _⟩
   let xs:List V:=(y0d src.length).map λj=>(T j).2
   have xl:xs.length=src.length:=by simp[xs]
   have xg:∀j:Nat,j<src.length->xs[j]?=some (T j).2:=λj hj=>by simp[xs,hj]
   have rv:Vals xs ap:=zcc (by rw[xl,vl]) λj x u h1 h2=>by
    have hj:j<src.length:=by rw[←xl];exact(y00.mp h1).1
    obtain⟨zs,q1,q2,q3,q4⟩:=hT j src[j] (by simp[hj])
    obtain⟨u',g1,g2⟩:=q2.get q4;rw[xg j hj] at h1;cases h1;have e:=vx j hj;rw[h2,←y4h,g1] at e;cases e;exact g2
   have I2:=z9q (t':=s.toks) (h':=h2) I k2 (λc hc=>hf c hc) (y09 _) (xs:=xs) (us:=ap) rv (y13 (by rw[xl];exact hm) (show 100≤sizeLine by decide)) ⟨_,up _ _ (y3i hlt) t1,rfl,_,rfl⟩
   refine⟨.ref s.heap.objs.size,_,I2,rfl,⟨s.heap.objs.size,xs,I.hok.fresh (y09 _),rfl,rfl,xl,λj p hp ys hy=>?_⟩,?_,λc hc=>?_⟩
   ·obtain⟨zs,q1,q2,q3,q4⟩:=hT j p hp;rw[Inv.sqs_inj I hy q1,q4,xg j (y00.mp hp).1]
   ·obtain⟨old,ol,ho⟩:=z1.own;refine⟨hz2,up _ _ (by omega) z1.its,⟨old,ol,up _ _ (by omega) ho⟩,λj p hp=>(z1.it j p hp).at λo g=>up _ _ ?_ g⟩
    have:=(y00.mp hp).1;omega
   ·rw[z0a (y0t (y0p (fp_mem.mp hc).2 (by omega)))]
    exact(hf c hc).1
  ·exfalso;obtain⟨j,hj,e⟩:=hex;obtain⟨zs,q1,q2,q3,q4⟩:=hT j src[j] (by simp[hj])
   obtain⟨u',g1,g2⟩:=q2.get q4;rw[←y4h,g1] at e;cases e
 done:=by
  intro X hP hw hK hc i aa s σ H E I hf st hg;subst hP hw hK;obtain⟨hall,j0,p0,xs0,hp0,hq0,hl0⟩:=hg;have ch:∀j:Nat,∃t:Array Value,∀p,src[j]?=some p->∃zs,SqS X.K p.1 H p.2 zs/\Vals zs t.toList/\SeqAt p.1 s.heap p.2 t:=λj=>by
   cases hp:src[j]? with
   | none=>exact⟨#[],λp z=>by cases z⟩
   | some p =>
    obtain⟨xs,hq⟩:=hall j p hp;obtain⟨its,rv,sq⟩:=Inv.sqs I hq;exact⟨its,λp' z=>by cases z;exact⟨xs,hq,rv,sq⟩⟩
  obtain⟨T,hT⟩:=Classical.axiomOfChoice ch;refine z9s (I.ok.hd hc) hne hm cf st (xss:=T) (λj p hp=>(hT j p hp).choose_spec.2.2) (λh' ap vl vx z1 t1 sz kk=>?_) (λhex h' kk=>⟨rfl,z5m (t':=s.toks) I (λc o hc g=>kk c o ?_ g) λc hc=>hf c hc⟩)
  ·exfalso;have hj:=(y00.mp hp0).1;obtain⟨zs,q1,q2,q3⟩:=hT j0 p0 hp0;have e:=vx j0 hj
   have el:=q2.length;rw[Inv.sqs_inj I q1 hq0] at el;rw[show(T j0)[i]?=none from Array.getElem?_eq_none (by simpa using (show(T j0).toList.length≤i by omega))] at e
   have:j0<ap.length:=by omega
   simp[this] at e
  ·have hc':¬(b≤c/\c<b+src.length+3):=λz=>hc (fp_mem.mpr z);unfold Kp;rcases y3x c b with z | z
   ·exact .inl z
   ·exact .inr (.inr (y74 λz2=>hc' ⟨z,y6s z2⟩))
 self:=λ_ _ _ _ _ st h=>wpAny_pyIter_zip st.zip h
end L2.EX
set_option Elab.async false
set_option linter.all false
set_option maxRecDepth 100000
namespace L2.EX
open PySem PySem.Spec PyProof.Rows
theorem zen {t:Bool}{h:Heap}{i a:Addr}(g:h.get? i=some (z40 t a)):ItAt t h i a 0:=by
 cases t
 ·exact⟨_,g,rfl,rfl⟩
 ·exact⟨_,g,rfl,rfl⟩
section
variable {prog:Program}{w:World}{A:Around}{E:Value->Shared->Prop}{s:Shared}
theorem zh6 {p q:Bool×Addr}{xs ys:Array Value}{Q:Value->Shared->Prop}(h1:SeqAt p.1 s.heap p.2 xs)(h2:SeqAt q.1 s.heap q.2 ys)
  (h:∀h',ZSt s.heap.objs.size [p,q] 0 .none h'->(∀c o,s.heap.get? c=some o->h'.get? c=some o)->Q (.ref (s.heap.objs.size+4)) { s with heap:=h' }):wpAny (model prog w) A (call (.type "zip") [.ref p.2,.ref q.2]) Q E s:=by
 refine callType_new F.called_zip (by decide) (F.typeCall_zip_2 _ _) (F.newCall_zip_2 _ _) (λobj=>F.args_object_init_3 obj _ _) F.entry_zip_new (zjk p q xs ys) ⟨h1,h2,?_⟩
 have e1:(s.heap.push (z40 p.1 p.2)).objs.size=s.heap.objs.size+1:=Heap.size_push ..;have e2:((s.heap.push (z40 p.1 p.2)).push (z40 q.1 q.2)).objs.size=s.heap.objs.size+2:=by rw[Heap.size_push,e1]
 generalize hA':s.heap.push (z40 p.1 p.2)=hA at e1 e2 ⊢
 have gA:hA.get? s.heap.objs.size=some (z40 p.1 p.2):=by rw[←hA'];exact Heap.get?_push_size _ rfl
 have kA:∀c o,s.heap.get? c=some o->hA.get? c=some o:=λc o g=>by rw[←hA'];exact Heap.get?_push_of_some _ g
 generalize hB':hA.push (z40 q.1 q.2)=hB at e2 ⊢
 have gB:hB.get? hA.objs.size=some (z40 q.1 q.2):=by rw[←hB'];exact Heap.get?_push_size _ rfl
 have kB:∀c o,hA.get? c=some o->hB.get? c=some o:=λc o g=>by rw[←hB'];exact Heap.get?_push_of_some _ g
 have e3:(hB.push (z56 [.ref s.heap.objs.size,.ref hA.objs.size])).objs.size=s.heap.objs.size+3:=by rw[Heap.size_push,e2]
 generalize hC':hB.push (z56 [.ref s.heap.objs.size,.ref hA.objs.size])=hC at e3 ⊢
 have gC:hC.get? hB.objs.size=some (z56 [.ref s.heap.objs.size,.ref hA.objs.size]):=by rw[←hC'];exact Heap.get?_push_size _ rfl
 have kC:∀c o,hB.get? c=some o->hC.get? c=some o:=λc o g=>by rw[←hC'];exact Heap.get?_push_of_some _ g
 have e4:(hC.push (z56 [.none,.none])).objs.size=s.heap.objs.size+4:=by rw[Heap.size_push,e3]
 generalize hD':hC.push (z56 [.none,.none])=hD at e4 ⊢
 have gD:hD.get? hC.objs.size=some (z56 [.none,.none]):=by rw[←hD'];exact Heap.get?_push_size _ rfl
 have kD:∀c o,hC.get? c=some o->hD.get? c=some o:=λc o g=>by rw[←hD'];exact Heap.get?_push_of_some _ g
 generalize hE':hD.push (zhs hB.objs.size hC.objs.size)=hE;have gE:hE.get? hD.objs.size=some (zhs hB.objs.size hC.objs.size):=by rw[←hE'];exact Heap.get?_push_size _ rfl
 have kE:∀c o,hD.get? c=some o->hE.get? c=some o:=λc o g=>by rw[←hE'];exact Heap.get?_push_of_some _ g
 have eH:z2H s.heap p q=hE:=by subst hE' hD' hC' hB' hA';rfl
 have eA:z2A s.heap p q=hD.objs.size:=by subst hD' hC' hB' hA';rfl
 rw[e1] at gB gC;rw[e2] at gC gE;rw[e3] at gD gE;rw[e4] at gE;show _/\_;rw[eH,eA,e4];refine⟨⟨_,gE,rfl⟩,h hE ⟨gE,kE _ _ (kD _ _ gC),⟨[.none,.none],rfl,kE _ _ gD⟩,λj r hr=>?_⟩ λc o g=>kE _ _ (kD _ _ (kC _ _ (kB _ _ (kA _ _ g))))⟩
 match j,hr with
 | 0,hr=>cases hr;exact zen (kE _ _ (kD _ _ (kC _ _ (kB _ _ gA))))
 | 1,hr=>cases hr;exact zen (kE _ _ (kD _ _ (kC _ _ gB)))
 | n+2,hr=>cases hr
end
section
variable {X:Cx}
def zqd (K:y03)(t1 t2:TE)(σ:St)(H:Hp)(R:It->Hp->Prop):Prop:=t1 σ H λx H1=>t2 σ H1 λy H2=>match x,y with
 | .ref a,.ref b=>∃u v,(∃xs,SqS K u H2 a xs)/\(∃ys,SqS K v H2 b ys)/\R (Itz K [(u,a),(v,b)]) H2
 | _,_=>False
def zp1 (K:y03)(t1 t2 t3:TE)(σ:St)(H:Hp)(R:It->Hp->Prop):Prop:=t1 σ H λx H1=>t2 σ H1 λy H2=>t3 σ H2 λz H3=>match x,y,z with
 | .ref a,.ref b,.ref c=>∃u v t,(∃xs,SqS K u H3 a xs)/\(∃ys,SqS K v H3 b ys)/\(∃zs,SqS K t H3 c zs)/\R (Itz K [(u,a),(v,b),(t,c)]) H3
 | _,_,_=>False
theorem zdw {t:Bool}{h:Heap}{a:Addr}{xs:Array Value}(x:SeqAt t h a xs):a<h.objs.size:=by
 cases t
 ·obtain⟨o,e,_⟩:=x;exact Heap.lt_size e
 ·obtain⟨o,e,_⟩:=x;exact Heap.lt_size e
theorem z4z {l1 l2:Expr}{t1 t2:TE}{elts:List Expr}{kt:Nat}{tp p pos:Pos}(hm:X.mg "zip"=none)(h1:PE X l1 t1)(h2:PE X l2 t2)(hg:Gl X "zip":=by rfl)(hs:starEach [l1,l2] X.env = [(false,eval l1 X.env),(false,eval l2 X.env)]:=by rfl)(hs2:starEach [l2] X.env = [(false,eval l2 X.env)]:=by rfl) :
  PI X (.Tuple elts kt tp) (.Call (.Name "zip" p) [l1,l2] [] pos) (zqd X.K t1 t2):=by
 intro aa s σ H R I h;have ha:PA X [l1,l2] _:=z00 (z2d h1) (z00 (z2d h2) z03 hs2) (by rw[hs,hs2])
 refine Call_ (z6f I hg hm zom (y24 (thn (ha pos aa s σ H (λvs H1=>∃x y,vs = [x,y]/\(match x,y with
  | .ref a,.ref b=>∃u v,(∃xs,SqS X.K u H1 a xs)/\(∃ys,SqS X.K v H1 b ys)/\R (Itz X.K [(u,a),(v,b)]) H1
  | _,_=>False)) I ⟨_,h,λv H1 q=>⟨_,q,λu H2 q2=>⟨v,u,rfl,q2⟩⟩⟩) λus s1 h1=>?_) (by rw[hs,hs2]) (by rw[hs2];rfl)))
 obtain⟨vs,H1,I1,r1,x,y,rfl,q1⟩:=h1;obtain⟨u,w,rfl,rx,ry⟩:=zlt r1
 split at q1
 ·rename_i a b;cases rx;cases ry;obtain⟨tu,tv,⟨xs,hq1⟩,⟨ys,hq2⟩,q⟩:=q1;obtain⟨its1,rv1,p1⟩:=Inv.sqs I1 hq1;obtain⟨its2,rv2,p2⟩:=Inv.sqs I1 hq2;refine zh6 (p:=(tu,a)) (q:=(tv,b)) p1 p2 λh' z1 kk=>wpAny_pyIter_zip z1.zip ?_;refine⟨_,_,_,_,H1,rfl,I1.kept (t':=s1.toks) kk,zjo s1.heap.objs.size [(tu,a),(tv,b)] (by simp) (by simp) (λp hp=>?_),z1,λc hc=>I1.fpOk (fp_mem.mp hc).1 (I1.hok.fresh (fp_mem.mp hc).1),q⟩
  simp only[y0m,y1g,or_false] at hp;rcases hp with rfl | rfl
  ·exact zdw p1
  ·exact zdw p2
 ·exact q1.elim
end
end L2.EX
set_option Elab.async false
set_option linter.all false
set_option maxRecDepth 100000
namespace L2.EX
open PySem PySem.Spec PyProof.Rows
theorem zrt {K:y03}{H:Hp}{a:Addr}{xs:List V}(h:SqL K H a xs):SqS K false H a xs:=h
theorem z84 {K:y03}{g:TG}{tb:TS}{D:Ends}{σ:St}{H:Hp}{u v:Bool}{a b:Addr}{xs ys:List V}(n:Nat)(hn:n=min xs.length ys.length)(Pv:Nat->St->Hp->Prop)(h0:Pv 0 σ H)(hl:∀i σ H,i≤n->Pv i σ H->SqS K u H a xs/\SqS K v H b ys)
  (hs:∀i x y σ H p,xs[i]?=some x->ys[i]?=some y->Pv i σ H->H p=none->g (.ref p) σ (upd H p (.tup [x,y])) fun σ2 H2=>tb { D with nx:=Pv (i+1),ct:=Pv (i+1),bk:=D.nx } σ2 H2) (hd:∀ σ H,Pv n σ H->D.nx σ H):zew (Itz K [(u,a),(v,b)]) g tb D σ H:=by
 refine⟨λi m σ H=>m=n - i/\i≤n/\Pv i σ H,⟨n,by simp,y2d _,h0⟩,?_⟩
 rintro i m σ H ⟨rfl,hi,p⟩;obtain⟨q1,q2⟩:=hl i σ H hi p
 by_cases hlt:i<n
 ·have l1:i<xs.length:=by omega
  have l2:i<ys.length:=by omega
  refine .inr ⟨λj p hp=>?_,Pv (i+1),fun σ' H' p'=>⟨n - (i+1),by omega,rfl,hlt,p'⟩,λx H' y=>?_⟩
  ·match j,hp with
   | 0,hp=>cases hp;exact⟨xs,xs[i],q1,by simp[l1]⟩
   | 1,hp=>cases hp;exact⟨ys,ys[i],q2,by simp[l2]⟩
   | k+2,hp=>cases hp
  ·obtain⟨t,zs,ht,e1,e2,e3,e4⟩:=y;subst e1 e2
   match zs,e3,e4 with
   | [z1,z2],_,e4 =>
    have f1:=e4 0 _ rfl xs q1;have f2:=e4 1 _ rfl ys q2
    exact hs i z1 z2 σ H t f1 f2 p ht
 ·have e:i=n:=by omega
  subst e;refine .inl ⟨⟨λj p hp=>?_,?_⟩,hd σ H p⟩
  ·match j,hp with
   | 0,hp=>cases hp;exact⟨xs,q1⟩
   | 1,hp=>cases hp;exact⟨ys,q2⟩
   | k+2,hp=>cases hp
  ·by_cases z:xs.length≤i
   ·exact⟨0,_,xs,rfl,q1,z⟩
   ·exact⟨1,_,ys,rfl,q2,by omega⟩
theorem zku {K:y03}{g:TG}{tt:TT}{te:TE}{σ0:St}{Q:VK}{H:Hp}{u v:Bool}{a b:Addr}{xs zs:List V}(n:Nat)(hn:n=min xs.length zs.length)(Pv:Nat->List V->Hp->Prop)(h0:Pv 0 [] H)(hz:n<sizeLine)(hl:∀i ys H,i≤n->Pv i ys H->SqS K u H a xs/\SqS K v H b zs/\ys.length≤i)
  (hs:∀i x z ys H p,xs[i]?=some x->zs[i]?=some z->Pv i ys H->H p=none->g (.ref p) σ0 (upd H p (.tup [x,z])) fun σ2 H2=>tt σ2 H2 λb H3=>if b=true then te σ2 H3 λy H4=>CNx Pv n (i+1) (ys ++ [y]) H4 else CNx Pv n (i+1) ys H3)
  (hd:∀ys H,Pv n ys H->∀l,H l=none->Q (.ref l) (upd H l (.lst ys))):z4x (Itz K [(u,a),(v,b)]) g tt te σ0 Q H:=by
 refine⟨λi m ys H=>m=n - i/\i≤n/\Pv i ys H,⟨n,by simp,y2d _,h0⟩,?_⟩
 rintro i m ys H ⟨rfl,hi,p⟩;obtain⟨q1,q2,yl⟩:=hl i ys H hi p
 by_cases hlt:i<n
 ·have l1:i<xs.length:=by omega
  have l2:i<zs.length:=by omega
  refine .inr ⟨λj p hp=>?_,by omega,λx H' y=>?_⟩
  ·match j,hp with
   | 0,hp=>cases hp;exact⟨xs,xs[i],q1,by simp[l1]⟩
   | 1,hp=>cases hp;exact⟨zs,zs[i],q2,by simp[l2]⟩
   | k+2,hp=>cases hp
  ·obtain⟨t,ws,ht,e1,e2,e3,e4⟩:=y;subst e1 e2
   match ws,e3,e4 with
   | [z1,z2],_,e4 =>
    have z:=hs i z1 z2 ys H t (e4 0 _ rfl xs q1) (e4 1 _ rfl zs q2) p ht;rw[show n - i=n+1 - (i+1) by omega]
    exact z
 ·have e:i=n:=by omega
  subst e;refine .inl ⟨⟨λj p hp=>?_,?_⟩,by omega,hd ys H p⟩
  ·match j,hp with
   | 0,hp=>cases hp;exact⟨xs,q1⟩
   | 1,hp=>cases hp;exact⟨zs,q2⟩
   | k+2,hp=>cases hp
  ·by_cases z:xs.length≤i
   ·exact⟨0,_,xs,rfl,q1,z⟩
   ·exact⟨1,_,zs,rfl,q2,by omega⟩
end L2.EX
set_option Elab.async false
set_option linter.all false
set_option maxRecDepth 100000
namespace L2.EX
open PySem PySem.Spec PyProof.Rows PySem.SeqAt
def zrg (K:y03)(x y:V)(H:Hp)(Q:VK):Prop:=∃dx l xs ds,y = .ref l/\H l=some (.lst xs)/\Is K H x dx/\IsAll K H xs ds/\Sh 60 dx/\(∀d∈ds,Sh 60 d)/\Q (.bl (ds.any λd=>PyData.eqv d dx)) H
def zo7 (K:y03)(x y:V)(H:Hp)(Q:VK):Prop:=∃dx l xs ds,y = .ref l/\H l=some (.lst xs)/\Is K H x dx/\IsAll K H xs ds/\Sh 60 dx/\(∀d∈ds,Sh 60 d)/\Q (.bl (!ds.any λd=>PyData.eqv d dx)) H
section
variable {X:Cx}{aa:List (Addr×Obj)}{σ:St}{H:Hp}{s:Shared}
end
end L2.EX
set_option Elab.async false
set_option linter.all false
set_option maxRecDepth 100000
namespace PySem
open AutoSeq1 (wpAny_loadPart')
open MeetsSeq MeetsSeq2 MeetsSeq3 SeqRoads2 SeqAt
end PySem
namespace L2.EX
open PySem PySem.Spec PyProof.Rows PySem.SeqAt
section
variable {X:Cx}{aa:List (Addr×Obj)}{σ:St}{H:Hp}{s:Shared}
open Classical in
theorem zj9 {k:Nat}(hr:Room k X.A)(I:Inv X aa σ H s){dx:PyData}{xs:List V}{its:List Value}{ds:List PyData}{x:V}{v:Value}(rv:Vals xs its)(hx:Is X.K H x dx)(ha:IsAll X.K H xs ds)(sx:Sh 60 dx)(sd:∀d∈ds,Sh 60 d)(rx:RelV x v) :
  ∃(e:Value->Bool),(∀w,w∈its.toArray->EqAt X.A.in1 s w v (e w))/\∀(j:Nat) w d,its[j]?=some w->ds[j]?=some d->e w=PyData.eqv d dx:=by
 obtain⟨ax,rdx⟩:=Is.reads I dx x v hx rx;have rd:∀(j:Nat) w,its[j]?=some w->∃d as,ds[j]?=some d/\Reads s.heap w d as:=λj w hw=>by
  have hj:j<xs.length:=by rw[rv.length];exact(y00.mp hw).1
  have hxj:xs[j]?=some xs[j]:=by simp[hj]
  obtain⟨u,g1,g2⟩:=rv.get hxj;rw[hw] at g1;cases g1;obtain⟨d,g3,g4⟩:=zaf ha hxj;obtain⟨as,g5⟩:=Is.reads I d _ w g4 g2;exact⟨d,as,g3,g5⟩
 have key:∀(j:Nat) w d as,its[j]?=some w->ds[j]?=some d->Reads s.heap w d as->decide (∃d as,d∈ds/\Reads s.heap w d as/\PyData.eqv d dx=true)=PyData.eqv d dx:=λj w d as hj g1 g2=>by
  have hd:=y02 g1
  by_cases c:PyData.eqv d dx=true
  ·rw[c];exact decide_eq_true ⟨d,as,hd,g2,c⟩
  ·rw[y6t.mpr c];refine decide_eq_false ?_;rintro⟨d',as',h1,h2,h3⟩;have:=PySem.SeqAt.Reads.unique d d' w as as' (sd d hd).1 g2 h2;rw[←this] at h3;exact c h3
 refine⟨λw=>decide (∃d as,d∈ds/\Reads s.heap w d as/\PyData.eqv d dx=true),λw hw=>?_,λj w d hj hd=>?_⟩
 ·obtain⟨j,hj⟩:=y0a (List.mem_toArray.mp hw);obtain⟨d,as,g1,g2⟩:=rd j w hj;have hd:=y02 g1;show EqAt X.A.in1 s w v (decide (∃d as,d∈ds/\Reads s.heap w d as/\PyData.eqv d dx=true));rw[key j w d as hj g1 g2];refine PySem.SeqAt.eqAt_reads d dx X.A.in1 s w v as ax g2 rdx (sd d hd).1 sx.1 ?_;have h1:=zpw hr
  have h2:=(sd d hd).2;have h3:X.A.in1.units≤X.A.units+2:=by first | exact y09 _ | (simp[Around.in1]) | (show _≤_;simp[Around.in1];omega)
  omega
 ·obtain⟨d',as,g1,g2⟩:=rd j w hj;rw[hd] at g1;cases g1;exact key j w d as hj hd g2
end
theorem zdv {α:Type}{p:α->Bool}:∀{l:List α},l.any p=true->∃(j:Nat) (x:α),l[j]?=some x/\p x=true/\∀(m:Nat) y,m<j->l[m]?=some y->p y=false
 | [],h=>by simp at h
 | x::r,h=>by
  by_cases c:p x=true
  ·exact⟨0,x,rfl,c,λm y hm=>by omega⟩
  ·have h':r.any p=true:=by
    rw[y6l] at h;simpa [c] using h
   obtain⟨j,y,h1,h2,h3⟩:=zdv h';refine⟨j+1,y,by simpa using h1,h2,λm z hm hz=>?_⟩
   cases m with
   | zero =>
    simp at hz;subst hz;exact y6t.mpr c
   | succ m=>exact h3 m z (by omega) (by simpa using hz)
section
variable {X:Cx}{o e:Expr}{es:List Expr}{ta:TE}{t:TA}{aK aG:Pos}
def zrs (K:y03)(ta:TE)(t:TA)(σ:St)(H:Hp)(Q:VK):Prop:=ta σ H λx H1=>match x with
 | .ref l=>(∃xs,H1 l=some (.lst xs))/\t σ H1 λvs H2=>match vs with
  | [y]=>∃xs dx ds,H2 l=some (.lst xs)/\Is K H2 y dx/\IsAll K H2 xs ds/\Sh 60 dx/\(∀d∈ds,Sh 60 d)/\(ds.any λd=>PyData.eqv d dx)=true/\∀j,j<xs.length->Q .non (upd H2 l (.lst (xs.eraseIdx j)))
  | _=>False
 | _=>False
theorem zmj (a b:Int):PyData.eqv (.int a) (.int b)=decide (a=b):=by
 have h:=zdn a 0 b 0
 by_cases c:a=b
 ·subst c;rw[decide_eq_true rfl];exact z58 (z6l a)
 ·rw[decide_eq_false c] at h ⊢
  rw[y66] at h;simpa [z2b,PyData.eqv,PyData.eqvAll] using h
def zpa:V->List V->Hp->VK->Prop:=λx vs H Q=>∃(l:Addr) (ns:List Int) (n:Int),x = .ref l/\vs = [.int n]/\H l=some (.lst (ns.map V.int))/\n∈ns/\∀j:Nat,ns[j]?=some n->(∀(m:Nat) y,m<j->ns[m]?=some y->y≠n)->Q (.int (j:Int)) H
theorem zj6 {k:Nat}(hr:Room k X.A):MtM X "list.index" zpa:=by
 intro aa s σ H x vs v us Q I rx rv h;obtain⟨l,ns,n,rfl,rfl,hH,hn,q⟩:=h;cases rx;obtain⟨u,rfl,ru⟩:=rv.one;obtain⟨z,its,m,r,hl,e⟩:=I.lstM hH;obtain⟨ev,h1,h2⟩:=zj9 hr I (dx:=.int n) (ds:=ns.map PyData.int) r (is_int.mpr rfl) (z31 ns) (z6l _) (λd hd=>by
  obtain⟨i,_,rfl⟩:=y1i.mp hd;exact z6l i) ru
 have hany:(ns.any λi=>decide (i=n))=true:=y1v.mpr ⟨n,hn,decide_eq_true rfl⟩;obtain⟨j,d,hd,hp,hno⟩:=zdv hany;have hdn:d=n:=of_decide_eq_true hp
 subst hdn;rw[y04] at hl z;have hjd:=(y00.mp hd).1;have hj:j<its.toArray.size:=by rw[y0o];omega
 have look:∀m (hm:m<its.toArray.size),∃d',ns[m]?=some d'/\ev its.toArray[m]=decide (d'=d):=λm hm=>by
  have hm':m<its.length:=by rw[y0o] at hm;exact hm
  have hmd:m<ns.length:=by omega
  refine⟨ns[m],y01 hmd,?_⟩;rw[←zmj];refine h2 m _ _ (by simp[hm']) ?_
  rw[y05,y01 hmd];rfl
 have br:(sizeLine:Int)<2^63 - 1:=by decide
 refine call_meets F.slot_list_index ⟨_,e,rfl⟩ F.entry_list_index (F.args_list_index_2 _ _)
  (PySem.SeqAt.list_indexAt l its.toArray m none #[] u ev j hj (by omega) (by
   obtain⟨d',g1,g2⟩:=look j hj;rw[hd] at g1;cases g1;rw[g2];exact decide_eq_true rfl) (λm hm hlt=>by
   obtain⟨d',g1,g2⟩:=look m hm;rw[g2];exact hno m d' hlt g1)) ⟨e,h1,?_⟩
 exact⟨.int (j:Int),H,I.kept (t':=s.toks+1) (λ_ _ e=>e),⟨_,rfl⟩,q j hd λm y hm hy=>of_decide_eq_false (hno m y hm hy)⟩
def zg9 (ta:TE)(t:TA)(σ:St)(H:Hp)(Q:VK):Prop:=ta σ H λx H1=>match x with
 | .ref l=>(∃xs,H1 l=some (.lst xs))/\t σ H1 λvs H2=>match vs with
  | [.int n]=>∃ns:List Int,H2 l=some (.lst (ns.map V.int))/\n∈ns/\∀j:Nat,ns[j]?=some n->(∀(m:Nat) y,m<j->ns[m]?=some y->y≠n)->Q (.int (j:Int)) H2
  | _=>False
 | _=>False
theorem z7i {k:Nat}(hr:Room k X.A)(ho:PE X o ta)(ha:PA X (e::es) t)(bz:attributeBase o "index" X.env (eval o X.env)=eval o X.env:=by rfl)
  (hfew:((backTo aG (starEach (e::es) X.env)).all (λx=>!x.1)&&(backToKw aG (keywordEach [] X.env)).all (λx=>x.1.isSome)
  &&decide ((e::es).length+([]:List Keyword).length+(if ([]:List Keyword).isEmpty then 0 else 1)<30))=true:=by rfl)
  (br:(aK.endLine==aG.line)=true:=by rfl) (hs:starEach (e::es) X.env=(false,eval e X.env)::starEach es X.env:=by rfl) (bO:(backTo aG (starEach es X.env)).any (·.1)=false:=by rfl) :
  PE X (.Call (.Attribute o "index" aK) (e::es) [] aG) (zg9 ta t) :=
 z53 (zmr y2z PySem.F.slot_list_index PySem.F.type_list_index (zj6 hr) (z2d ho) (z6y ha) bz hfew br hs bO) fun σ H Q h=>⟨_,h,λx H1 q=>by
  split at q
  ·obtain⟨⟨xs,h1⟩,h2⟩:=q;refine⟨.inl ⟨rfl,_,SqL.of h1⟩,_,h2,λvs H2 q2=>?_⟩
   split at q2
   ·obtain⟨ns,h3,h4,h5⟩:=q2;exact⟨_,ns,_,rfl,rfl,h3,h4,h5⟩
   ·exact q2.elim
  ·exact q.elim⟩
def zrn (ta:TE)(t:TA)(σ:St)(H:Hp)(Q:VK):Prop:=ta σ H λx H1=>match x with
 | .ref l=>(∃xs,H1 l=some (.lst xs))/\t σ H1 λvs H2=>match vs with
  | [.int i,y]=>∃xs,∃k:Nat,H2 l=some (.lst xs)/\i=(k:Int)/\k≤xs.length/\xs.length<sizeLine/\Q .non (upd H2 l (.lst (xs.take k++y::xs.drop k)))
  | _=>False
 | _=>False
def zr1 (ta:TE)(t:TA)(σ:St)(H:Hp)(Q:VK):Prop:=ta σ H λx H1=>match x with
 | .ref l=>(∃xs,H1 l=some (.lst xs))/\t σ H1 λvs H2=>match vs with
  | [.ref b]=>∃xs zs,H2 l=some (.lst xs)/\H2 b=some (.lst zs)/\xs.length+zs.length≤sizeLine/\Q .non (upd H2 l (.lst (xs++zs)))
  | _=>False
 | _=>False
theorem zb9 (ho:PE X o ta)(ha:PA X (e::es) t)(bz:attributeBase o "extend" X.env (eval o X.env)=eval o X.env:=by rfl)
  (hfew:((backTo aG (starEach (e::es) X.env)).all (λx=>!x.1)&&(backToKw aG (keywordEach [] X.env)).all (λx=>x.1.isSome)
  &&decide ((e::es).length+([]:List Keyword).length+(if ([]:List Keyword).isEmpty then 0 else 1)<30))=true:=by rfl)
  (br:(aK.endLine==aG.line)=true:=by rfl) (hs:starEach (e::es) X.env=(false,eval e X.env)::starEach es X.env:=by rfl) (bO:(backTo aG (starEach es X.env)).any (·.1)=false:=by rfl) :
  PE X (.Call (.Attribute o "extend" aK) (e::es) [] aG) (zr1 ta t) :=
 z53 (zmr y2z PySem.F.slot_list_extend PySem.F.type_list_extend zhl (z2d ho) (z6y ha) bz hfew br hs bO) fun σ H Q h=>⟨_,h,λx H1 q=>by
  split at q
  ·obtain⟨⟨xs,h1⟩,h2⟩:=q;refine⟨.inl ⟨rfl,_,SqL.of h1⟩,_,h2,λvs H2 q2=>?_⟩
   split at q2
   ·obtain⟨ns,zs,h3,h4,h5,h6⟩:=q2;exact⟨_,_,ns,zs,rfl,rfl,h3,h4,h5,h6⟩
   ·exact q2.elim
  ·exact q.elim⟩
end
def Itv (K:y03)(a:Addr)(n:Nat):It:=⟨λi H=>i<n/\∃xs,SqL K H a xs/\xs.length=n,λi H x H'=>H'=H/\∀xs,SqL K H a xs->xs[n - 1 - i]?=some x,λi H=>i=n⟩
def zrl (K:y03)(tl:TE)(σ:St)(H:Hp)(R:It->Hp->Prop):Prop:=tl σ H λx H1=>match x with
 | .ref a=>∃xs,SqL K H1 a xs/\R (Itv K a xs.length) H1
 | _=>False
end L2.EX
set_option linter.all false
namespace My
theorem zqf (a b:Int):∃q1 q2:Int,a=(y1b a b:Nat)*q1/\b=(y1b a b:Nat)*q2:=by
 obtain⟨q1,h1⟩:=y5q (a:=a) (b:=b);obtain⟨q2,h2⟩:=y3q (a:=a) (b:=b);exact⟨q1,q2,h1,h2⟩
theorem zr5 {g q1 q2:Int}(hg:0<g)(h:(y1b (g*q1) (g*q2):Int)=g):y1b q1 q2=1:=by
 rw[Int.gcd_mul_left] at h
 push_cast at h
 have h1:((g.natAbs:Nat):Int)=g:=by omega
 rw[h1] at h;have h2:g*((y1b q1 q2:Nat):Int)=g*1:=by rw[h,y4r]
 have:=Int.eq_of_mul_eq_mul_left (by omega) h2
 omega
theorem zoh {a b:Int}(hb:b≠0):(0:Int)<(y1b a b:Nat):=by
 have:0<y1b a b:=Int.gcd_pos_of_ne_zero_right a hb;omega
theorem z8k {a b j:Int}(hb:b≠0)(hj:j=if b<0 then -((y1b a b:Nat):Int) else (y1b a b:Nat)):j≠0/\j.natAbs≤b.natAbs/\1≤b.fdiv j/\y1b (a.fdiv j) (b.fdiv j)=1/\a.fdiv j*b=a*b.fdiv j:=by
 obtain⟨q1,q2,h1,h2⟩:=zqf a b;have hg:=zoh (a:=a) hb;generalize hG:((y1b a b:Nat):Int)=g at *
 have one:y1b q1 q2=1:=zr5 hg (by rw[←h1,←h2];exact hG)
 have q20:q2≠0:=by
  rintro rfl;simp at h2;exact hb h2
 by_cases hn:b<0
 ·rw[if_pos hn] at hj;subst hj;have e1:a = -g * -q1:=by rw[y7a];exact h1
  have e2:b = -g * -q2:=by rw[y7a];exact h2
  have f1:a.fdiv (-g) = -q1:=by
   conv=>lhs;rw[e1]
   exact y1w _ (by omega)
  have f2:b.fdiv (-g) = -q2:=by
   conv=>lhs;rw[e2]
   exact y1w _ (by omega)
  have q2n:q2<0:=by
   rcases y28 q2 0 with z | z
   ·exact z
   ·have:=y29 (y1u hg) z;omega
  refine⟨by omega,?_,by omega,?_,?_⟩
  ·rw[h2,y32,Int.natAbs_neg];exact y30 _ (by omega)
  ·rw[f1,f2,Int.gcd_neg,Int.neg_gcd];exact one
  ·rw[f1,f2,h2,h1,y79,y7b,y1k g q1,y2a,y4d]
 ·rw[if_neg hn] at hj;subst hj;have f1:a.fdiv j=q1:=by
   conv=>lhs;rw[h1]
   exact y1w _ (by omega)
  have f2:b.fdiv j=q2:=by
   conv=>lhs;rw[h2]
   exact y1w _ (by omega)
  have q2p:0<q2:=by
   rcases y28 0 q2 with z | z
   ·exact z
   ·have:=y29 (y1u hg) (show 0≤-q2 by omega)
    rw[y7b] at this;omega
  refine⟨by omega,?_,by omega,?_,?_⟩
  ·rw[h2,y32];exact y30 _ (by omega)
  ·rw[f1,f2];exact one
  ·rw[f1,f2,h2,h1];simp[y1k,y4d,y2a]
theorem zij {d n b:Int}(h:y1b n d=1)(k:d∣n*b):d∣b:=by
 have k':d.natAbs∣n.natAbs*b.natAbs:=by
  rw[←y32];exact y2w.mpr k
 have c:Nat.Coprime d.natAbs n.natAbs:=by
  show y7q _ _=1;rw[y71];exact h
 exact y2w.mp (c.dvd_of_dvd_mul_left k')
theorem z5w {n d a b:Int}(h:y1b n d=1)(e:n*b=a*d):d∣b/\n∣a:=by
 constructor
 ·exact zij h ⟨a,by rw[e,y1k]⟩
 ·exact zij (n:=d) (by rw[y3y];exact h) ⟨b,by rw[e,y1k]⟩
theorem zbz {n d a b:Int}(h:y1b n d=1)(hb:b≠0)(e:n*b=a*d):n.natAbs≤a.natAbs/\d.natAbs≤b.natAbs:=by
 obtain⟨h1,h2⟩:=z5w h e;refine⟨?_,y7m (by omega) (y2w.mpr h1)⟩
 by_cases ha:a=0
 ·subst ha;rw[y3z] at e;rcases Int.mul_eq_zero.mp e with z | z
  ·rw[z];exact y09 _
  ·exact absurd z hb
 ·exact y7m (by omega) (y2w.mpr h2)
theorem za8 {n x y:Int}(h1:y1b n x=1)(h2:y1b n y=1):y1b n (x*y)=1:=by
 show y7q _ _=1;rw[y32];exact Nat.Coprime.mul_right h1 h2
theorem zab {n m x y:Int}(h:y1b n x=1)(h1:m∣n)(h2:y∣x):y1b m y=1:=by
 have c:Nat.Coprime n.natAbs x.natAbs:=h;exact(Nat.Coprime.coprime_dvd_left (y2w.mpr h1) c).coprime_dvd_right (y2w.mpr h2)
theorem zgb {t u x:Int}(h:y1b t x=1)(hu:x∣u):y1b (t+u) x=1:=by
 obtain⟨k,rfl⟩:=hu;have e:y1b (t+x*k) x=y1b t x:=by
  apply Nat.dvd_antisymm
  ·refine Int.dvd_gcd ?_ (y3q _ _);have h1:((y1b (t+x*k) x:Nat):Int)∣t+x*k:=(y5q _ _);have h2:((y1b (t+x*k) x:Nat):Int)∣x:=(y3q _ _)
   have h3:=Int.dvd_sub h1 (y5n h2 (c:=k))
   rwa [Int.add_sub_cancel] at h3
  ·refine Int.dvd_gcd ?_ (y3q _ _);exact Int.dvd_add (y5q _ _) (y5n (y3q _ _))
 rw[e,h]
theorem zh9 {a b c d:Int}(hb:1≤b)(hd:1≤d)(h1:y1b a b=1)(h2:y1b c d=1){g t e:Int}(hg:g=(y1b b d:Nat))(ht:t=a*(d.fdiv g)+c*(b.fdiv g))(he:e=(y1b t g:Nat)) :
  g≠0/\g.natAbs≤d.natAbs/\g.natAbs≤b.natAbs/\e≠0/\e.natAbs≤g.natAbs/\1≤b.fdiv g*d.fdiv e/\y1b (t.fdiv e) (b.fdiv g*d.fdiv e)=1/\t.fdiv e*(b*d)=(a*d+c*b)*(b.fdiv g*d.fdiv e):=by
 obtain⟨b',d',e1,e2⟩:=zqf b d;have gp:0<g:=by rw[hg];exact zoh (by omega)
 rw[←hg] at e1 e2;have one:y1b b' d'=1:=zr5 gp (by rw[←e1,←e2];exact hg.symm)
 have f1:b.fdiv g=b':=by
  conv=>lhs;rw[e1]
  exact y1w _ (by omega)
 have f2:d.fdiv g=d':=by
  conv=>lhs;rw[e2]
  exact y1w _ (by omega)
 rw[f1,f2] at ht;obtain⟨t',g',e3,e4⟩:=zqf t g;have ep:0<e:=by rw[he];exact zoh (by omega)
 rw[←he] at e3 e4;have two:y1b t' g'=1:=zr5 ep (by rw[←e3,←e4];exact he.symm)
 have f3:t.fdiv e=t':=by
  conv=>lhs;rw[e3]
  exact y1w _ (by omega)
 have e5:d=e*(g'*d'):=by
  have:d=g*d':=e2;rw[this,←y2a,←e4]
 have f4:d.fdiv e=g'*d':=by
  conv=>lhs;rw[e5]
  exact y1w _ (by omega)
 have pos:∀{x y z:Int},x=y*z->1≤x->0<y->1≤z:=λ{x y z} h hx hy=>by
  rcases y28 0 z with q | q
  ·omega
  ·have:=y29 (y1u hy) (show 0≤-z by omega)
   rw[y7b] at this;omega
 have bp:=pos e1 hb gp;have dp:=pos e2 hd gp
 have gp':=pos e4 (by omega) ep
 have ab':y1b a b'=1:=zab h1 (y61 _) ⟨g,by rw[y1k];exact e1⟩
 have cd':y1b c d'=1:=zab h2 (y61 _) ⟨g,by rw[y1k];exact e2⟩
 have tb:y1b t b'=1:=by
  rw[ht];refine zgb ?_ ⟨c,y1k _ _⟩;rw[y3y];exact za8 (by rw[y3y];exact ab') one
 have td:y1b t d'=1:=by
  rw[ht,Int.add_comm];refine zgb ?_ ⟨a,y1k _ _⟩;rw[y3y];exact za8 (by rw[y3y];exact cd') (by rw[y3y];exact one)
 have tt:t'∣t:=⟨e,by rw[y1k];exact e3⟩
 refine⟨by omega,?_,?_,by omega,?_,?_,?_,?_⟩
 ·rw[e2,y32];exact y30 _ (by omega)
 ·rw[e1,y32];exact y30 _ (by omega)
 ·rw[e4,y32];exact y30 _ (by omega)
 ·rw[f1,f4];have h1:0<g'*d':=y3m (by omega) (by omega)
  have:=y3m (show 0<b' by omega) h1
  omega
 ·rw[f1,f3,f4];exact za8 (zab tb tt (y61 _)) (za8 two (zab td tt (y61 _)))
 ·rw[f1,f3,f4];have k1:a*d+c*b=g*t:=by
   rw[ht,e1,e2,y4x];congr 1<;>simp[y1k,y4d,y2a]
  rw[k1];have k2:t'*(b*d)=t'*(g*b'*(e*(g'*d'))):=by rw[←e5];conv=>lhs;rw[e1]
  rw[k2]
  conv=>rhs;rw[e3]
  simp[y1k,y4d,y2a]
theorem zc9 {a g:Int}(hg:0<g):(a.fdiv g).natAbs≤a.natAbs:=by
 rw[y2c _ (y1u hg)];rcases y28 a 0 with h | h
 ·have h1:a≤a / g:=by
   rw[y47 hg];have:=Int.mul_le_mul_of_nonpos_left (a:=a) (y1u h) (show(1:Int)≤g by omega)
   rw[y4r] at this;exact this
  have h2:=Int.ediv_neg_of_neg_of_pos h hg;omega
 ·have h1:=y5p g h;have h2:=y4v h (y1u hg)
  omega
end My
set_option Elab.async false
set_option linter.all false
set_option maxRecDepth 100000
namespace My
open PySem L2 L2.EX
structure Blt (mg:Str->Option Value):Prop where
 abs:mg "abs"=none
 any:mg "any"=none
 bool:mg "bool"=none
 dict:mg "dict"=none
 enumerate:mg "enumerate"=none
 int:mg "int"=none
 isinstance:mg "isinstance"=none
 len:mg "len"=none
 list:mg "list"=none
 max:mg "max"=none
 min:mg "min"=none
 range:mg "range"=none
 reversed:mg "reversed"=none
 sorted:mg "sorted"=none
 str:mg "str"=none
 sum:mg "sum"=none
 tuple:mg "tuple"=none
 zip:mg "zip"=none
def spG:Sp:=λvs H Q _=>match vs with
 | [.int a,.int b]=>Q (.int (y1b a b:Nat)) H
 | _=>False
def z7e (K:y03):Sp:=λvs H Q _=>match vs with
 | [.ref a,.int k]=>∃ns:List Int,SqL K H a (ns.map V.int)/\0≤k/\Q (.int (ns.getD k.toNat 0)) H
 | _=>False
def zek:Sp:=λvs H Q _=>match vs with
 | [.int _]=>∀z:Int,-(10^60)≤z->z≤10^60->Q (.int z) H
 | _=>False
def z3u:Sp:=λvs H Q _=>match vs with
 | [.int _]=>Q (.bl true) H
 | [.bl _]=>Q (.bl false) H
 | _=>False
def z44:Sp:=λvs H Q _=>match vs with
 | [.int _,.int k]=>0≤k/\k≤100/\∀z:Int,0≤z->Q (.int z) H
 | _=>False
def zll:Sp:=λvs H Q _=>match vs with
 | [.int _,.int _]=>∀H',Same H H'->Q (.bl true) H'
 | _=>False
theorem zeo {g l:Int}(hg:0≤g)(hl:0<l):y1b l (g % l)=y1b g l:=by
 obtain⟨a,rfl⟩:=y2b hg;obtain⟨b,rfl⟩:=y2b (y1u hl);rw[←Int.natCast_emod];show y7q b (a % b)=y7q a b;rw[y71 a b,Nat.gcd_rec b a,y71]
theorem zix (a b:Int):y1b (if a<0 then -a else a) (if b<0 then -b else b)=y1b a b:=by
 by_cases h1:a<0<;>by_cases h2:b<0<;>simp[h1,h2,Int.gcd_neg,Int.neg_gcd]
theorem zbj (a:Int):0≤(if a<0 then -a else a):=by split<;>omega
theorem ze1 {g:Int}(hg:0≤g):((y1b g 0:Nat):Int)=g:=by rw[Int.gcd_zero_right];omega
theorem zgc {ns:List Int}{k:Int}(h0:0≤k)(h:k<((ns.map V.int).length:Nat)):atI (ns.map V.int) k=some (.int (ns.getD k.toNat 0)):=by
 rw[y04] at h;have hk:k.toNat<ns.length:=by omega
 have e:k=((k.toNat:Nat):Int):=by omega
 rw[e];refine z0x ?_;rw[y05,y01 (by omega),y06,y01 (by omega)]
 rfl
theorem zef {r:Int}(h0:0≤r)(h1:r<2147483629):Bd 40 r:=by
 show r.natAbs<2^40;have:(2:Nat)^40=1099511627776:=by decide
 omega
theorem _root_.L2.EX.Bd.mul {m n:Nat}{x y:Int}(hx:Bd m x)(hy:Bd n y):Bd (m+n) (x*y):=by
 show(x*y).natAbs<2^(m+n);rw[y32,y6a];exact Nat.mul_lt_mul'' hx hy
theorem _root_.L2.EX.Bd.of_le {m:Nat}{x y:Int}(hy:Bd m y)(h:x.natAbs≤y.natAbs):Bd m x:=y2p h hy
def Res (K:y03)(H:Hp)(Q:VK)(d:PyData):Prop:=∀v H',Same H H'->Is K H' v d->Q v H'
theorem Res.new_tup {K:y03}{H:Hp}{Q:VK}{ds:List PyData}{xs:List V}(h:Res K H Q (.tuple ds))(al:IsAll K H xs ds):∀p,H p=none->Q (.ref p) (upd H p (.tup xs)):=λp hp =>
 h _ _ (z06 hp _) (is_tuple.mpr ⟨p,xs,rfl,z01,IsAll.same (z06 hp _) _ _ al⟩)
theorem Res.ints2 {K:y03}{H:Hp}{Q:VK}{n d:Int}(h:Res K H Q (z2b n d)):∀p,H p=none->Q (.ref p) (upd H p (.tup [.int n,.int d])):=Res.new_tup h (z31 [n,d])
def zbu (K:y03):Sp:=λvs H Q _=>∃a b:Int,vs = [.int a,.int b]/\b≠0/\Bd 9000 b/\∀n d:Int,1≤d->y1b n d=1->n*b=a*d->Res K H Q (z2b n d)
def zmf (K:y03)(top:Int->Int->Int->Int->Int):Sp:=λvs H Q _=>∃(x y:V) (a b c d:Int),vs = [x,y]/\Is K H x (z2b a b)/\Is K H y (z2b c d)/\b≠0/\d≠0/\Bd 2000 a/\Bd 2000 b/\Bd 2000 c/\Bd 2000 d /\
 ∀n e:Int,1≤e->y1b n e=1->n*(b*d)=top a b c d*e->Res K H Q (z2b n e)
def zg8 (K:y03):Sp:=λvs H Q _=>∃(x y:V) (a b c d:Int),vs = [x,y]/\Is K H x (z2b a b)/\Is K H y (z2b c d)/\Bd 100000 a/\Bd 100000 b/\Bd 100000 c/\Bd 100000 d/\Q (.bl (decide (a*d<c*b))) H
def ze6 (K:y03):Sp:=λvs H Q _=>∃(x:V) (n d:Int),vs = [x]/\Is K H x (z2b n d)/\1≤d/\y1b n d=1/\Q (.bl true) H
theorem znp {b j:Int}(hb:Bd 9000 b)(h:j.natAbs≤b.natAbs)(h0:j≠0):j.natAbs.log2<9000:=zle (hb.of_le h) (y09 _) h0
def del (H:Hp)(l:Addr):Hp:=λb=>if b=l then none else H b
theorem z9c {H:Hp}{l b:Addr}(h:b≠l):del H l b=H b:=by unfold del;rw[if_neg h]
theorem z3i {H:Hp}{l:Addr}{o:HO}:del (upd H l o) l=del H l:=by
 funext b;unfold del upd
 split<;>rfl
theorem z57 {H H':Hp}{l:Addr}(s:Same H H'):Same (del H l) (del H' l):=λb o h=>by
 unfold del at h ⊢
 split at h
 ·cases h
 ·rename_i hb;rw[if_neg hb];exact s b o h
theorem del_sub {H:Hp}{l:Addr}:Same (del H l) H:=λb o h=>by
 unfold del at h
 split at h
 ·cases h
 ·exact h
theorem ze3 {H:Hp}{l:Addr}(h:H l=none):Same H (del H l):=λb o q=>by
 rw[z9c (z08 q h)];exact q
structure Grow (K:y03)(H H':Hp)(l:Addr)(vs:List V)(ds:List PyData):Prop where
 old:Same H (del H' l)
 here:H' l=some (.lst vs)
 all:IsAll K (del H' l) vs ds
theorem Grow.start {K:y03}{H:Hp}{l:Addr}(h:H l=none):Grow K H (upd H l (.lst [])) l [] []:=⟨by rw[z3i];exact ze3 h,z01,z0p⟩
theorem Grow.more {K:y03}{H H' H'':Hp}{l:Addr}{vs:List V}{ds:List PyData}(g:Grow K H H' l vs ds)(s:Same H' H''):Grow K H H'' l vs ds:=⟨g.old.trans (z57 s),s _ _ g.here,IsAll.same (z57 s) _ _ g.all⟩
theorem Grow.push {K:y03}{H H':Hp}{l:Addr}{vs:List V}{ds:List PyData}{v:V}{d:PyData}(g:Grow K H H' l vs ds)(h:Is K (del H' l) v d):Grow K H (upd H' l (.lst (vs ++ [v]))) l (vs ++ [v]) (ds ++ [d]) :=
 ⟨by rw[z3i];exact g.old,z01,by rw[z3i];exact z1l g.all h⟩
theorem Grow.is {K:y03}{H H':Hp}{l:Addr}{vs:List V}{ds:List PyData}(g:Grow K H H' l vs ds):Is K H' (.ref l) (.list ds):=is_list.mpr ⟨l,vs,rfl,g.here,IsAll.same del_sub _ _ g.all⟩
theorem Grow.same {K:y03}{H H':Hp}{l:Addr}{vs:List V}{ds:List PyData}(g:Grow K H H' l vs ds):Same H H':=g.old.trans del_sub
theorem z6a {K:y03}{H:Hp}{l:Addr}{xs:List V}{v:V}{n d:Int}(h:Is K H v (z2b n d))(hl:H l=some (.lst xs)):Is K (del H l) v (z2b n d):=by
 obtain⟨a,rfl,ha⟩:=is_frac.mp h;refine is_frac.mpr ⟨a,rfl,?_⟩;rw[z9c (z77 ha hl (by intro z;cases z))]
 exact ha
theorem zi3 (xs:List V)(m:Nat):zft xs none (some (m:Int))=xs.take m:=by
 unfold zft;rw[HT.sIx_none,HT.sIx_nat,List.drop_zero,Nat.sub_zero];rcases y3x m xs.length with h | h
 ·rw[y7c (by omega)]
 ·rw[y75 h,y07 (y09 _),y07 h]
theorem zh7 (xs:List V)(m:Nat):zft xs (some (m:Int)) none=xs.drop m:=by
 unfold zft;rw[HT.sIx_none,HT.sIx_nat];rcases y3x m xs.length with h | h
 ·rw[y7c (by omega),y07 (by simp)]
 ·rw[y75 h,y21 (y09 _),y21 h];simp
def z1v (ps:List (Int×Int)):PyData:=.list (ps.map λp=>z2b p.1 p.2)
theorem z4s {n:Nat}(ps:List (Int×Int)):Sh (n+2) (z1v ps):=z3j λd hd=>by
 obtain⟨p,_,rfl⟩:=y1i.mp hd;exact zcu _ _
theorem z4q {K:y03}{H:Hp}{ps:List (Int×Int)}{xs:List V}{i:Nat}{x:V}(al:IsAll K H xs (ps.map λp=>z2b p.1 p.2))(h:xs[i]?=some x):∃(p:Int×Int) (a:Addr),ps[i]?=some p/\x = .ref a/\H a=some (.tup [.int p.1,.int p.2]):=by
 obtain⟨d,h1,h2⟩:=zaf al h;rw[y05] at h1;cases q:ps[i]? with
 | none=>rw[q] at h1;cases h1
 | some p =>
  rw[q] at h1;cases h1;obtain⟨a,rfl,ha⟩:=is_frac.mp h2;exact⟨p,a,rfl,rfl,ha⟩
def qs (ps:List (Int×Int)):Int×Int:=ps.foldl (λs p=>(s.1*p.2+p.1*s.2,s.2*p.2)) (0,1)
def Low (p:Int×Int):Prop:=1≤p.2/\y1b p.1 p.2=1
def zgd (K:y03):Sp:=λvs H Q _=>∃(x y:V) (a b c d:Int),vs = [x,y]/\Is K H x (z2b a b)/\Is K H y (z2b c d)/\1≤b/\1≤d/\y1b a b=1/\y1b c d=1/\Bd 100000 a/\Bd 100000 b/\Bd 100000 c/\Bd 8000 d /\
 ∀n e:Int,1≤e->y1b n e=1->n*(b*d)=(a*d+c*b)*e->Res K H Q (z2b n e)
theorem z0l {α:Type}{l:List α}{i:Nat}{x:α}(h:l[i]?=some x):l.take (i+1)=l.take i ++ [x]:=by
 have hi:=(y00.mp h).1;rw[←y5f hi,(y00.mp h).2]
theorem cgo {J:It}{g:TG}{tt:TT}{te:TE}{σ0 σ':St}{Q:VK}{H:Hp}(e:σ0 = σ')(h:z4x J g tt te σ' Q H):z4x J g tt te σ0 Q H:=e▸h
theorem z6d {K:y03}{H:Hp}{l:Addr}{ys:List V}(hl:H l=some (.lst ys)):∀{ps:List (Int×Int)} {xs:List V},IsAll K H xs (ps.map λp=>z2b p.1 p.2)->IsAll K (del H l) xs (ps.map λp=>z2b p.1 p.2)
 | [],xs,h=>by simpa only[y3j,IsAll] using h
 | p::ps,xs,h=>by
  rw[y0n] at h ⊢
  simp only[IsAll] at h;obtain⟨v,vs,rfl,q,al⟩:=h;exact z1o (z6a q hl) (z6d hl al)
def zpb (b:Nat):Sp:=λvs H Q _=>match vs with
 | [.int _]=>∀z:Int,0≤z->z<10^b->Q (.int z) H
 | _=>False
end My
set_option Elab.async false
set_option linter.all false
set_option maxRecDepth 100000
namespace My
open PySem L2 L2.EX
def pr (p:Nat×Nat):PyData:=.tuple [.int (p.1:Int),.int (p.2:Int)]
def z3x (l:List Nat):PyData:=.list (l.map λ(n:Nat)=>.int (n:Int))
def z09 (l:List Nat):List V:=l.map λ(n:Nat)=>.int (n:Int)
def Frz (L:List Addr)(H H':Hp):Prop:=∀b o,b ∉ L->H b=some o->H' b=some o
theorem Frz.of {L:List Addr}{H H':Hp}(s:Same H H'):Frz L H H':=λb o _ h=>s b o h
theorem Frz.trans {L:List Addr}{H H1 H2:Hp}(a:Frz L H H1)(b:Frz L H1 H2):Frz L H H2:=λc o hc h=>b c o hc (a c o hc h)
theorem Frz.upd {L:List Addr}{H:Hp}{a:Addr}{o:HO}(h:a∈L):Frz L H (upd H a o):=λb u hb q=>by
 rw[z0a (by rintro rfl;exact hb h)]
 exact q
structure Fix (K:y03)(C:Addr)(F:Hp)(me:Addr)(N:PM.Net)(aS aP:Addr):Prop where
 obj:∃dx fs aT aA,F me=some (.ins C dx fs)/\fs.lookup ("many_gives":Str)=some (.int (N.G:Int))/\fs.lookup ("tie_ends":Str)=some (.ref aT)/\fs.lookup ("sent":Str)=some (.ref aS)/\fs.lookup ("spare":Str)=some (.ref aP)/\fs.lookup ("ties_at":Str)=some (.ref aA) /\
  Is K F (.ref aT) (.list (N.ends.map pr))/\Is K F (.ref aA) (.list (N.at'.map z3x)) /\
  (∀m:Str,m∈(["far_end","may_go","gives_with_rest","has_room","steps_to_room","row_behind","send_by_steps","way_from","skip_dead_ties","leads_on","send_along","fill"]:List Str)->fs.lookup m=none)
structure PourAt (K:y03)(C:Addr)(H:Hp)(me:Addr)(N:PM.Net)(aS aP:Addr)(sent spare:List Int)(M:List Addr):Prop where
 ok:∃F,Same F H/\F aS=none/\F aP=none/\(∀m∈M,F m=none)/\Fix K C F me N aS aP
 mu:∀m∈M,m≠aS/\m≠aP
 st:H aS=some (.lst (sent.map V.int))
 sp:H aP=some (.lst (spare.map V.int))
 ne:aS≠aP
 wf:N.WF
 ls:sent.length=N.ends.length
 lp:spare.length=N.nE
 sm:N.nE≤1000
 sk:N.ends.length≤1000
section
variable {K:y03}{C:Addr}{H H':Hp}{me:Addr}{N:PM.Net}{aS aP:Addr}{sent spare:List Int}{M:List Addr}
theorem PourAt.same (p:PourAt K C H me N aS aP sent spare M)(s:Same H H'):PourAt K C H' me N aS aP sent spare M:=by
 obtain⟨F,h1,h2⟩:=p.ok;exact⟨⟨F,h1.trans s,h2⟩,p.mu,s _ _ p.st,s _ _ p.sp,p.ne,p.wf,p.ls,p.lp,p.sm,p.sk⟩
theorem PourAt.but (p:PourAt K C H me N aS aP sent spare M)(s:Frz [aS,aP] H H'){b6 au:List Int}(h1:H' aS=some (.lst (b6.map V.int)))(h2:H' aP=some (.lst (au.map V.int)))(l1:b6.length=sent.length)(l2:au.length=spare.length):PourAt K C H' me N aS aP b6 au M:=by
 obtain⟨F,f1,f2,f3,f4⟩:=p.ok;refine⟨⟨F,λb o q=>s b o (λz=>?_) (f1 b o q),f2,f3,f4⟩,p.mu,h1,h2,p.ne,p.wf,l1.trans p.ls,l2.trans p.lp,p.sm,p.sk⟩;simp only[y0m,y1g,or_false] at z;rcases z with rfl | rfl
 ·rw[f2] at q;cases q
 ·rw[f3] at q;cases q
theorem PourAt.frz (p:PourAt K C H me N aS aP sent spare M){L:List Addr}(s:Frz L H H')(hL:∀x∈L,x∈M):PourAt K C H' me N aS aP sent spare M:=by
 obtain⟨F,f1,f2,f3,f4,f5⟩:=p.ok;refine⟨⟨F,λb o q=>s b o (λz=>?_) (f1 b o q),f2,f3,f4,f5⟩,p.mu,s _ _ (λz=>(p.mu _ (hL _ z)).1 rfl) p.st,s _ _ (λz=>(p.mu _ (hL _ z)).2 rfl) p.sp,p.ne,p.wf,p.ls,p.lp,p.sm,p.sk⟩;rw[f4 b (hL b z)] at q;cases q
theorem PourAt.new (p:PourAt K C H me N aS aP sent spare M){l:Addr}(h:H l=none):PourAt K C H me N aS aP sent spare (l::M):=by
 obtain⟨F,f1,f2,f3,f4,f5⟩:=p.ok;refine⟨⟨F,f1,f2,f3,λm hm=>?_,f5⟩,λm hm=>?_,p.st,p.sp,p.ne,p.wf,p.ls,p.lp,p.sm,p.sk⟩
 ·rcases y0m.mp hm with rfl | hm
  ·exact f1.free h
  ·exact f4 m hm
 ·rcases y0m.mp hm with rfl | hm
  ·exact⟨λz=>(z08 p.st h) z.symm,λz=>(z08 p.sp h) z.symm⟩
  ·exact p.mu m hm
theorem PourAt.less (p:PourAt K C H me N aS aP sent spare M){L:List Addr}(h:∀x∈L,x∈M):PourAt K C H me N aS aP sent spare L:=by
 obtain⟨F,f1,f2,f3,f4,f5⟩:=p.ok;exact⟨⟨F,f1,f2,f3,λm hm=>f4 m (h m hm),f5⟩,λm hm=>p.mu m (h m hm),p.st,p.sp,p.ne,p.wf,p.ls,p.lp,p.sm,p.sk⟩
theorem Fix.get {F:Hp}(f:Fix K C F me N aS aP):∃dx fs aT aA ts rs,F me=some (.ins C dx fs)/\fs.lookup ("many_gives":Str)=some (.int (N.G:Int))/\fs.lookup ("tie_ends":Str)=some (.ref aT)/\fs.lookup ("sent":Str)=some (.ref aS)/\fs.lookup ("spare":Str)=some (.ref aP)/\fs.lookup ("ties_at":Str)=some (.ref aA) /\
  F aT=some (.lst ts)/\IsAll K F ts (N.ends.map pr)/\F aA=some (.lst rs)/\IsAll K F rs (N.at'.map z3x) /\
  (∀m:Str,m∈(["far_end","may_go","gives_with_rest","has_room","steps_to_room","row_behind","send_by_steps","way_from","skip_dead_ties","leads_on","send_along","fill"]:List Str)->fs.lookup m=none):=by
 obtain⟨dx,fs,aT,aA,g1,g2,g3,g4,g5,g6,g7,g8,g9⟩:=f.obj;obtain⟨a,ts,e1,h1,h2⟩:=is_list.mp g7;obtain⟨b,rs,e2,h3,h4⟩:=is_list.mp g8;cases e1;cases e2;exact⟨dx,fs,aT,aA,ts,rs,g1,g2,g3,g4,g5,g6,h1,h2,h3,h4,g9⟩
theorem Same.frz {F:Hp}(s:Same F H){L:List Addr}(f:Frz L H H')(h:∀x∈L,F x=none):Same F H':=λb o q=>f b o (λz=>by rw[h b z] at q;cases q) (s b o q)
theorem PourAt.get (p:PourAt K C H me N aS aP sent spare M):∃dx fs aT aA ts rs,H me=some (.ins C dx fs)/\fs.lookup ("many_gives":Str)=some (.int (N.G:Int))/\fs.lookup ("tie_ends":Str)=some (.ref aT)/\fs.lookup ("sent":Str)=some (.ref aS)/\fs.lookup ("spare":Str)=some (.ref aP)/\fs.lookup ("ties_at":Str)=some (.ref aA) /\
  H aT=some (.lst ts)/\IsAll K H ts (N.ends.map pr)/\H aA=some (.lst rs)/\IsAll K H rs (N.at'.map z3x) /\
  (∀m:Str,m∈(["far_end","may_go","gives_with_rest","has_room","steps_to_room","row_behind","send_by_steps","way_from","skip_dead_ties","leads_on","send_along","fill"]:List Str)->fs.lookup m=none):=by
 obtain⟨F,f1,f2,f3,f4,⟨dx,fs,aT,aA,g1,g2,g3,g4,g5,g6,g7,g8,g9⟩⟩:=p.ok;obtain⟨a,ts,e1,h1,h2⟩:=is_list.mp g7;obtain⟨b,rs,e2,h3,h4⟩:=is_list.mp g8;cases e1;cases e2;exact⟨dx,fs,aT,aA,ts,rs,f1 _ _ g1,g2,g3,g4,g5,g6,f1 _ _ h1,IsAll.same f1 _ _ h2,f1 _ _ h3,IsAll.same f1 _ _ h4,g9⟩
end
theorem zk7 {K:y03}{H:Hp}{ps:List (Nat×Nat)}{xs:List V}{i:Nat}{p:Nat×Nat}(al:IsAll K H xs (ps.map pr))(h:ps[i]?=some p):∃a,xs[i]?=some (.ref a)/\H a=some (.tup [.int (p.1:Int),.int (p.2:Int)]):=by
 obtain⟨x,h1,h2⟩:=z0z (i:=i) (d:=pr p) al (by rw[y05,h];rfl)
 unfold pr at h2;obtain⟨a,rfl,ha⟩:=is_frac.mp h2;exact⟨a,h1,ha⟩
theorem z6o {K:y03}{H:Hp}{ns:List Nat}{xs:List V}(h:IsAll K H xs (ns.map λ(n:Nat)=>.int (n:Int))):xs=z09 ns:=by
 have e:(ns.map λ(n:Nat)=>PyData.int (n:Int))=(ns.map λ(n:Nat)=>(n:Int)).map PyData.int:=by rw[y20];rfl
 rw[e] at h;rw[z9o h,y20];rfl
theorem z3o {K:y03}{H:Hp}(ns:List Nat):IsAll K H (z09 ns) (ns.map λ(n:Nat)=>.int (n:Int)):=by
 have e:(ns.map λ(n:Nat)=>PyData.int (n:Int))=(ns.map λ(n:Nat)=>(n:Int)).map PyData.int:=by rw[y20];rfl
 have e2:z09 ns=(ns.map λ(n:Nat)=>(n:Int)).map V.int:=by unfold z09;rw[y20];rfl
 rw[e,e2];exact z31 _
theorem z32 {K:y03}{H:Hp}{ps:List (List Nat)}{xs:List V}{i:Nat}{l:List Nat}(al:IsAll K H xs (ps.map z3x))(h:ps[i]?=some l):∃a,xs[i]?=some (.ref a)/\H a=some (.lst (z09 l)):=by
 obtain⟨x,h1,h2⟩:=z0z (i:=i) (d:=z3x l) al (by rw[y05,h];rfl)
 unfold z3x at h2;obtain⟨a,ys,rfl,ha,hal⟩:=is_list.mp h2;rw[z6o hal] at ha;exact⟨a,h1,ha⟩
theorem zi5 {l:List Nat}{i n:Nat}(h:l[i]?=some n):(z09 l)[i]?=some (.int (n:Int)):=by
 unfold z09;rw[y05,h];rfl
theorem z2q {l:List Nat}{i:Nat}{v:V}(h:(z09 l)[i]?=some v):∃n:Nat,l[i]?=some n/\v = .int (n:Int):=by
 unfold z09 at h;rw[y05] at h;cases q:l[i]? with
 | none=>rw[q] at h;cases h
 | some n=>rw[q] at h;exact⟨n,rfl,(y11 h).symm⟩
theorem z3d {l:List Int}{i:Nat}{s:Int}(h:l[i]?=some s):atI (l.map V.int) (i:Int)=some (.int s):=z0x (by rw[y05,h];rfl)
theorem z1d {l:List Int}{i:Nat}(h:i<l.length):l[i]?=some (l.getD i 0):=by
 rw[y01 h];simp[y1n,y01 h]
theorem z3f {n k:Nat}(h:k<n):ixN n (k:Int)=some k:=by
 unfold ixN;rw[if_pos (by omega),if_pos (by omega)]
 rfl
theorem z7s {α:Type}{xs:List α}{x:α}(h:xs.getLast?=some x):atI xs (-1)=some x:=by
 have hne:xs ≠ []:=by rintro rfl;simp at h
 have hp:=y0v.mpr hne;unfold atI ixN;rw[if_neg (by decide),if_pos (by omega)]
 have e:((-1:Int)+xs.length).toNat=xs.length - 1:=by omega
 simp only[Option.bind_some,e];rw[y1c] at h;exact h
theorem z5u {l:List Int}{e:Nat}{s:Int}(h:l[e]?=some s):(l.map V.int)[((e:Nat):Int).toNat]?=some (.int s):=by
 rw[y4b,y05,h];rfl
theorem z4o {α:Type}(x:α):∀n:Nat,(y08 n [x]).flatten=y08 n x
 | 0=>rfl
 | n+1=>by rw[y1t,y1t,y3p,z4o x n];rfl
theorem _root_.PM.Behind.weakT {N:PM.Net}{sent:List Int}{d:Nat}{row:List Nat}{aq steps:List Int}{behind:List Nat}{P Q:Nat->Nat->Prop}(B:PM.Behind N sent d row aq P steps behind)(h:∀a k b,Q a k->PM.Tie N a k b->P a k):PM.Behind N sent d row aq Q steps behind :=
 ⟨B.len,B.old,B.new,B.beh,λa k b q t g=>B.cl a k b (h a k b q t) t g⟩
theorem _root_.PM.unr_set:∀{l:List Int} {i:Nat} {x v:Int},l[i]?=some x->x<0->0≤v->PM.unr (l.set i v)+1=PM.unr l
 | [],_,_,_,h,_,_=>by simp at h
 | y::r,0,x,v,h,h1,h2=>by
  simp at h;subst h;unfold PM.unr;have:¬v<0:=by omega
  rw[y42,y4m,y4m];simp[h1,this]
 | y::r,i+1,x,v,h,h1,h2=>by
  have ih:=PM.unr_set (l:=r) (i:=i) (x:=x) (v:=v) (by simpa using h) h1 h2
  unfold PM.unr at ih ⊢
  rw[y43,y4m,y4m];omega
theorem _root_.PM.unr_len (l:List Int):PM.unr l≤l.length:=List.countP_le_length
theorem zey {steps:List Int}{e:Nat}(h:e<steps.length):steps[e]?=some (PM.Lv steps e):=by
 unfold PM.Lv;rw[y01 h];simp[y1n,y01 h]
theorem zc0 {steps:List Int}{e:Nat}(h:0≤PM.Lv steps e):e<steps.length:=by
 rcases y3x e steps.length with z | z
 ·exact z
 ·have:PM.Lv steps e = -1:=by simp[PM.Lv,y1n,y0w z]
  omega
def goB (N:PM.Net)(sent:List Int)(e k:Nat):Bool:=decide (e<N.G)||decide (0<sent.getD k 0)
theorem zcf {N:PM.Net}{sent:List Int}{e k:Nat}(hk:k<sent.length):goB N sent e k=true↔PM.Go N sent e k:=by
 unfold goB PM.Go;rw[y5w,decide_eq_true_eq,decide_eq_true_eq];constructor
 ·rintro(h | h)
  ·exact .inl h
  ·exact .inr ⟨_,z1d hk,h⟩
 ·rintro(h | ⟨s,h1,h2⟩)
  ·exact .inl h
  ·right;rw[z1d hk] at h1;cases h1;exact h2
def z5q (N:PM.Net)(spare:List Int)(e:Nat):Bool:=decide (N.G≤e)&&decide (0<spare.getD e 0)
theorem z4i {N:PM.Net}{spare:List Int}{e:Nat}(he:e<spare.length):z5q N spare e=true↔PM.Room N spare e:=by
 unfold z5q PM.Room;rw[y1h,decide_eq_true_eq,decide_eq_true_eq];constructor
 ·rintro⟨h1,h2⟩;exact⟨h1,_,z1d he,h2⟩
 ·rintro⟨h1,x,h2,h3⟩;rw[z1d he] at h2;cases h2;exact⟨h1,h3⟩
def rest (N:PM.Net)(spare:List Int):List Nat:=(y0d N.G).filter λg=>decide (0<spare.getD g 0)
section
variable (K:y03)(C:Addr)
def zj3:Sp:=λvs H Q _=>∃(me:Addr) (N:PM.Net) (aS aP:Addr) (sent spare:List Int) (M:List Addr) (e k b:Nat),vs = [.ref me,.int (e:Int),.int (k:Int)]/\PourAt K C H me N aS aP sent spare M/\PM.Tie N e k b/\Q (.int (b:Int)) H
def zmu:Sp:=λvs H Q _=>∃(me:Addr) (N:PM.Net) (aS aP:Addr) (sent spare:List Int) (M:List Addr) (e k:Nat),vs = [.ref me,.int (e:Int),.int (k:Int)]/\PourAt K C H me N aS aP sent spare M/\k<sent.length/\Q (.bl (goB N sent e k)) H
def zie:Sp:=λvs H Q _=>∃(me:Addr) (N:PM.Net) (aS aP:Addr) (sent spare:List Int) (M:List Addr),vs = [.ref me]/\PourAt K C H me N aS aP sent spare M/\∀l,H l=none->Q (.ref l) (upd H l (.lst (z09 (rest N spare))))
def zdu:Sp:=λvs H Q _=>∃(me:Addr) (N:PM.Net) (aS aP:Addr) (sent spare:List Int) (M:List Addr) (l:Addr) (es:List Nat),vs = [.ref me,.ref l]/\PourAt K C H me N aS aP sent spare M/\H l=some (.lst (z09 es))/\es.length≤1000/\(∀e∈es,e<N.nE)/\∀H',Same H H'->Q (.bl (es.any (z5q N spare))) H'
def zec:Sp:=λvs H Q _=>∃(me:Addr) (N:PM.Net) (aS aP:Addr) (sent spare:List Int) (M:List Addr) (ar ast:Addr) (row:List Nat) (aq:List Int) (d:Nat),vs = [.ref me,.ref ar,.ref ast]/\PourAt K C H me N aS aP sent spare M/\ast∈M /\
 H ar=some (.lst (z09 row))/\ar≠ast/\H ast=some (.lst (aq.map V.int))/\aq.length=N.nE/\(∀e∈row,PM.Lv aq e=d) /\
 ∀(l:Addr) (steps:List Int) (behind:List Nat) H',Frz [ast] H H'->H' ast=some (.lst (steps.map V.int))->H l=none->H' l=some (.lst (z09 behind))->PM.Behind N sent d row aq (λa _=>a∈row) steps behind->behind.length+PM.unr steps=PM.unr aq->Q (.ref l) H'
def zpj (N:PM.Net)(sent spare steps:List Int):Prop:=∃(d:Nat) (row:List Nat),PM.Rows N sent spare d row steps/\(row = []∨∃e∈row,PM.Room N spare e)
def zfx:Sp:=λvs H Q _=>∃(me:Addr) (N:PM.Net) (aS aP:Addr) (sent spare:List Int) (M:List Addr),vs = [.ref me]/\PourAt K C H me N aS aP sent spare M /\
 ∀(l:Addr) (steps:List Int) H',Same H H'->H l=none->H' l=some (.lst (steps.map V.int))->steps.length=N.nE->zpj N sent spare steps->Q (.ref l) H'
def ziu (N:PM.Net)(sent steps:List Int)(e k b:Nat):Bool:=decide (PM.Lv steps b=PM.Lv steps e+1)&&goB N sent e k
def zhm:Sp:=λvs H Q _=>∃(me:Addr) (N:PM.Net) (aS aP:Addr) (sent spare:List Int) (M:List Addr) (ast:Addr) (steps:List Int) (e k b:Nat),vs = [.ref me,.int (e:Int),.int (k:Int),.ref ast]/\PourAt K C H me N aS aP sent spare M/\H ast=some (.lst (steps.map V.int))/\steps.length=N.nE/\PM.Tie N e k b/\Q (.bl (ziu N sent steps e k b)) H
def zl5:Sp:=λvs H Q _=>∃(me:Addr) (N:PM.Net) (aS aP:Addr) (sent spare:List Int) (M:List Addr) (ast atr:Addr) (steps tried:List Int) (e g:Nat) (es way:List Nat),vs = [.ref me,.int (e:Int),.ref ast,.ref atr]/\PourAt K C H me N aS aP sent spare M/\atr∈M/\ast≠atr/\H ast=some (.lst (steps.map V.int))/\steps.length=N.nE/\H atr=some (.lst (tried.map V.int)) /\
 PM.Walk N sent spare steps g tried es way/\es.getLast?=some e/\e<N.nE /\
 ∀(av:List Int) H',Frz [atr] H H'->H' atr=some (.lst (av.map V.int))->PM.Walk N sent spare steps g av es way->PM.pot N.at' av≤PM.pot N.at' tried->(∀b,PM.Exh N spare tried b->PM.Exh N spare av b) ->
  (∃(l:List Nat) (t:Nat),N.at'[e]?=some l/\av[e]?=some (t:Int)/\t≤l.length/\∀k b,l[t]?=some k->PM.Tie N e k b->ziu N sent steps e k b=true)->Q .non H'
end
theorem zlf {N:PM.Net}(W:N.WF){e k b:Nat}(t:PM.Tie N e k b):e<N.nE/\b<N.nE/\k<N.ends.length:=by
 obtain⟨p,hp,q⟩:=t;have h1:=W.lo k p hp;have h2:=W.gle
 have h3:=(y00.mp hp).1;rcases q with q | q<;>refine⟨?_,?_,?_⟩<;>omega
theorem zbc {N:PM.Net}(W:N.WF){sent steps:List Int}{e k b:Nat}(t:PM.Tie N e k b)(hl:sent.length=N.ends.length):ziu N sent steps e k b=true↔PM.Leads N sent steps e k b:=by
 unfold ziu PM.Leads;rw[y1h,decide_eq_true_eq,zcf (by rw[hl];exact(zlf W t).2.2)]
 exact⟨λh=>⟨t,h.2,h.1⟩,λh=>⟨h.2.2,h.2.1⟩⟩
theorem zlg {N:PM.Net}(W:N.WF){e k:Nat}{l:List Nat}(hl:N.at'[e]?=some l)(hk:k∈l):∃b,PM.Tie N e k b:=by
 obtain⟨p,hp,hpe⟩:=(W.mem e l k hl).mp hk;rcases hpe with z | z
 ·exact⟨p.2,p,hp,.inl ⟨z,rfl⟩⟩
 ·exact⟨p.1,p,hp,.inr ⟨z,rfl⟩⟩
theorem rest_mem {N:PM.Net}{spare:List Int}{g:Nat}:g∈rest N spare↔g<N.G/\0<spare.getD g 0:=by
 unfold rest;rw[y12,y1j,decide_eq_true_eq]
theorem zjf {N:PM.Net}{spare:List Int}:(rest N spare).length≤N.G:=by
 unfold rest;refine y13 (y2x _ _) ?_;simp
theorem zrd {N:PM.Net}(W:N.WF){sent spare steps:List Int}(hl:steps.length=N.nE)(hp:spare.length=N.nE)(h:∀e,PM.Lv steps e=if e∈rest N spare then 0 else -1):PM.Rows N sent spare 0 (rest N spare) steps:=by
 have hg:=W.gle;have two:∀e,(e∈rest N spare/\PM.Lv steps e=0)∨(e ∉ rest N spare/\PM.Lv steps e = -1):=λe=>by
  have:=h e
  by_cases c:e∈rest N spare
  ·rw[if_pos c] at this;exact .inl ⟨c,this⟩
  ·rw[if_neg c] at this;exact .inr ⟨c,this⟩
 refine⟨⟨hl,λe he=>?_,λg x hg' hx h0=>?_,λe he=>?_⟩,λe=>?_,λe=>?_,λa k b t g h1 h2=>?_,λe h1 h2=>?_⟩
 ·rcases two e with ⟨a,b⟩ | ⟨a,b⟩
  ·obtain⟨a1,a2⟩:=rest_mem.mp a;exact⟨a1,_,z1d (by omega),a2⟩
  ·omega
 ·have:g∈rest N spare:=rest_mem.mpr ⟨hg',by rw[z1d (by omega)] at hx;cases hx;exact h0⟩
  rw[h g,if_pos this]
 ·rcases two e with ⟨a,b⟩ | ⟨a,b⟩<;>omega
 ·rcases two e with ⟨a,b⟩ | ⟨a,b⟩
  ·exact⟨λ_=>by omega,λ_=>a⟩
  ·exact⟨λz=>absurd z a,λz=>by omega⟩
 ·rcases two e with ⟨a,b⟩ | ⟨a,b⟩<;>omega
 ·omega
 ·omega
theorem Frz.new {L:List Addr}{H H':Hp}{l:Addr}{o:HO}(f:Frz L H H')(h:H l=none):Frz L H (L2.upd H' l o):=λb u hb q=>by
 rw[z0a (z08 q h)];exact f b u hb q
theorem z4k (l:List Nat):(z09 l).length=l.length:=by unfold z09;rw[y04]
theorem zb8 (l:List Nat)(n:Nat):z09 l ++ [.int (n:Int)]=z09 (l ++ [n]):=by unfold z09;rw[y0f];rfl
theorem zhu (l:List Nat):(z09 l).dropLast=z09 l.dropLast:=by unfold z09;rw[List.map_dropLast]
theorem z79 {l:List Nat}{n:Nat}(h:l.getLast?=some n):(z09 l).getLast?=some (.int (n:Int)):=by
 unfold z09;rw[List.getLast?_map,h];rfl
theorem zda:∀{n:Nat} {l:List Nat},l.Nodup->(∀x∈l,x<n)->l.length≤n
 | 0,[],_,_=>y09 _
 | 0,x::l,_,h=>absurd (h x y0h) (y60 _)
 | n+1,l,hn,h=>by
  have h1:(l.filter λx=>decide (x<n)).length≤n:=zda (hn.filter _) λx hx=>by simpa using (y12.mp hx).2
  have h2:l.length≤(l.filter λx=>decide (x<n)).length+l.count n:=by
   clear h1
   induction l with
   | nil=>simp
   | cons x l ih =>
    have hx:=h x y0h;have:=ih (y3d.mp hn).2 λy hy=>h y (y0b _ hy)
    rw[y2l,y5z]
    by_cases c:x<n
    ·have c2:¬(x==n)=true:=by simp;omega
     simp only[c,decide_true,if_true,y1f,c2];simp;omega
    ·have c2:x=n:=by omega
     subst c2;simp;omega
  have h3:=y4p.mp hn n;omega
section
variable (K:y03)(C:Addr)
def Way (N:PM.Net)(sent spare steps:List Int)(g:Nat)(tried:List Int)(way:List Nat):Prop:=(way = []/\PM.Exh N spare tried g)∨(way ≠ []/\∃(es:List Nat) (f:Nat),PM.Path N steps sent es way/\es[0]?=some g/\es[way.length]?=some f/\PM.Room N spare f)
def zp3:Sp:=λvs H Q _=>∃(me:Addr) (N:PM.Net) (aS aP:Addr) (sent spare:List Int) (M:List Addr) (ast atr:Addr) (steps tried:List Int) (g:Nat),vs = [.ref me,.int (g:Int),.ref ast,.ref atr]/\PourAt K C H me N aS aP sent spare M/\atr∈M/\ast≠atr/\H ast=some (.lst (steps.map V.int))/\steps.length=N.nE/\H atr=some (.lst (tried.map V.int)) /\
 PM.Lv steps g=0/\g<N.G/\PM.Tr N tried/\PM.Dead N sent spare steps tried /\
 ∀(lw:Addr) (way:List Nat) (av:List Int) H',Frz [atr] H H'->H' atr=some (.lst (av.map V.int))->H lw=none->H' lw=some (.lst (z09 way))->PM.Tr N av->PM.Dead N sent spare steps av->(∀b,PM.Exh N spare tried b->PM.Exh N spare av b)->Way N sent spare steps g av way->way.length≤1000->Q (.ref lw) H'
end
theorem zb2:∀(b:Bool) (l:List Nat),PM.alt b (z09 l)=z09 (PM.alt b l)
 | true,[]=>rfl
 | false,[]=>rfl
 | true,x::r=>by
  show V.int (x:Int)::PM.alt false (z09 r)=V.int (x:Int)::z09 (PM.alt false r);rw[zb2 false r]
 | false,x::r=>by
  show PM.alt true (z09 r)=z09 (PM.alt true r);exact zb2 true r
theorem z82 (a:Int)(sent:List Int)(l:List Nat)(k:Nat):PM.addAll a sent (l ++ [k])=(PM.addAll a sent l).set k ((PM.addAll a sent l).getD k 0+a):=by
 unfold PM.addAll;rw[y4e];rfl
section
variable (K:y03)(C:Addr)
def zlk:Sp:=λvs H Q _=>∃(me:Addr) (N:PM.Net) (aS aP:Addr) (sent spare:List Int) (M:List Addr) (lw:Addr) (cap steps:List Int) (g f:Nat) (es way:List Nat),vs = [.ref me,.int (g:Int),.ref lw]/\PourAt K C H me N aS aP sent spare M/\lw∈M/\H lw=some (.lst (z09 way))/\way.length≤1000/\way ≠ [] /\
 PM.Flow N cap sent spare/\PM.Path N steps sent es way/\es[0]?=some g/\es[way.length]?=some f/\PM.Room N spare f/\g<N.G/\0<spare.getD g 0 /\
 ∀(a:Int) (au:List Int) H',0<a->Frz [aS,aP] H H'->H' aS=some (.lst ((PM.sendBy a sent way).map V.int))->H' aP=some (.lst (au.map V.int))->PM.Sent N cap sent spare way g f a au->au.getD g 0<spare.getD g 0->(∀e,e<N.G->e≠g->au.getD e 0=spare.getD e 0)->Q .non H'
end
theorem ze5 {α:Type}:∀(b:Bool) (l:List α),(PM.alt b l).length≤l.length
 | true,[]=>y09 _
 | false,[]=>y09 _
 | true,x::r=>by
  have:=ze5 false r;show(PM.alt false r).length+1≤r.length+1;omega
 | false,x::r=>by
  have:=ze5 true r;show(PM.alt true r).length≤r.length+1;omega
theorem szz {n:Nat}(h:n≤1000000):n≤sizeLine:=y13 h (by decide)
section
variable (K:y03)(C:Addr)
def zh5:Sp:=λvs H Q _=>∃(me:Addr) (N:PM.Net) (aS aP:Addr) (aE ao:List Int) (M:List Addr) (ast:Addr) (cap steps:List Int),vs = [.ref me,.ref ast]/\PourAt K C H me N aS aP aE ao M/\ast∈M/\H ast=some (.lst (steps.map V.int))/\steps.length=N.nE /\
 PM.Flow N cap aE ao/\PM.Steps N aE ao steps /\
 ∀(sent spare:List Int) H',Frz [aS,aP] H H'->H' aS=some (.lst (sent.map V.int))->H' aP=some (.lst (spare.map V.int))->PM.Flow N cap sent spare->(∀(e:Nat) x y,ao[e]?=some x->spare[e]?=some y->y≤x)->(∀e,0≤PM.Lv steps e->PM.Room N ao e->spare.sum<ao.sum)->Q .non H'
end
theorem tr0 {N:PM.Net}(W:N.WF):PM.Tr N (y08 N.nE 0):=⟨by rw[y1m],λe l t _ h=>by
 rw[y1a] at h
 split at h
 ·cases h;constructor<;>omega
 ·cases h⟩
theorem zr3 {N:PM.Net}{sent spare steps:List Int}:PM.Dead N sent spare steps (y08 N.nE 0):=λe l j k t _ _ h hj=>by
 rw[y1a] at h
 split at h
 ·cases h;omega
 ·cases h
theorem zex {N:PM.Net}{spare:List Int}:(rest N spare).Nodup:=List.Pairwise.filter _ y4n
theorem zfr {l:List Nat}(h:l.Nodup){i g:Nat}(hg:l[i]?=some g):g ∉ l.take i:=λhm=>by
 obtain⟨j,hj⟩:=y0a hm;have hji:j<i:=by
  have:=(y00.mp hj).1;rw[y0x] at this;omega
 rw[y5e hji] at hj;have hi:=(y00.mp hg).1;have hjl:=(y00.mp hj).1
 have e:l[j]=l[i]:=by
  rw[(y00.mp hj).2,(y00.mp hg).2]
 exact y2j.mp h j i hjl hi hji e
section
variable (K:y03)(C:Addr)
def z3y (steps:List Int):List Bool:=steps.map λs=>decide (0≤s)
def zkw:Sp:=λvs H Q _=>∃(me:Addr) (N:PM.Net) (aS aP:Addr) (aE ao:List Int) (M:List Addr) (cap:List Int),vs = [.ref me]/\PourAt K C H me N aS aP aE ao M/\PM.Flow N cap aE ao /\
 ∀(l:Addr) (sent spare steps:List Int) H',Frz [aS,aP] H H'->H' aS=some (.lst (sent.map V.int))->H' aP=some (.lst (spare.map V.int))->PM.Done N cap sent spare steps->(∀(e:Nat) x y,ao[e]?=some x->spare[e]?=some y->y≤x)->steps.length=N.nE->H l=none->H' l=some (.lst ((z3y steps).map V.bl))->Q (.ref l) H'
end
def z99 (steps:List Int)(i:Nat):List Nat:=(y0d i).filter λe=>decide (0≤PM.Lv steps e)
theorem z9t (steps:List Int)(i:Nat):z99 steps (i+1)=z99 steps i++(if 0≤PM.Lv steps i then [i] else []):=by
 unfold z99;rw[y3o,y2g];congr 1
 by_cases c:0≤PM.Lv steps i<;>simp[c]
theorem zbg (steps:List Int)(i:Nat):(z99 steps i).length≤i:=by
 unfold z99;refine y13 (y2x _ _) ?_;simp
theorem reach_mem {steps:List Int}{e:Nat}:e∈z99 steps steps.length↔0≤PM.Lv steps e:=by
 unfold z99;rw[y12,y1j,decide_eq_true_eq];exact⟨λh=>h.2,λh=>⟨zc0 h,h⟩⟩
theorem z2p {K:y03}{H H':Hp}:∀{ps:List (Nat×Nat)} {xs:List V},IsAll K H xs (ps.map pr)->(∀b ys,H b=some (.tup ys)->H' b=some (.tup ys))->IsAll K H' xs (ps.map pr)
 | [],xs,h,_=>by simpa only[y3j,IsAll] using h
 | p::ps,xs,h,k=>by
  rw[y0n] at h ⊢
  simp only[IsAll] at h;obtain⟨v,vs,rfl,q,al⟩:=h;refine z1o ?_ (z2p al k);obtain⟨a,rfl,ha⟩:=is_frac.mp q;exact is_frac.mpr ⟨a,rfl,k _ _ ha⟩
structure FF (fs:List (Str×V))(n:Nat)(g:Str->Option V):Prop where
 len:fs.length≤n
 get:∀m,fs.lookup m=g m
theorem FF.nil:FF [] 0 λ_=>none:=⟨y09 _,λ_=>rfl⟩
theorem FF.put {fs:List (Str×V)}{n:Nat}{g:Str->Option V}(h:FF fs n g)(f:Str)(v:V):FF (z8u f v fs) (n+1) λm=>if m=f then some v else g m :=
 ⟨y13 (z5o f v fs) (Nat.succ_le_succ h.len),λm=>by rw[z5p,h.get m]⟩
theorem zeg {K:y03}{H:Hp}:∀{xs:List V} {ds:List PyData},xs.length=ds.length->(∀(i:Nat) x d,xs[i]?=some x->ds[i]?=some d->Is K H x d)->IsAll K H xs ds
 | [],[],_,_=>z0p
 | [],_::_,h,_=>by simp at h
 | _::_,[],h,_=>by simp at h
 | x::xs,d::ds,h,g=>z1o (g 0 x d rfl rfl) (zeg (by simpa using h) λi y e h1 h2=>g (i+1) y e (by simpa using h1) (by simpa using h2))
theorem znl {α:Type}(n e:Nat)(f:Nat->α)(v:α):((y0d n).map f).set e v=(y0d n).map λx=>if x=e then v else f x:=by
 apply y2u;intro i;rw[List.getElem?_set,y05,y05,y04,y1z]
 by_cases hi:i<n
 ·rw[y1d hi]
  by_cases c:e=i
  ·subst c;simp[hi]
  ·have c':¬i=e:=λz=>c z.symm;simp[c,c']
 ·rw[y0w (by simpa using hi)]
  by_cases c:e=i
  ·subst c;simp[hi]
  ·simp[c]
theorem z6c {α:Type}{n e:Nat}(f:Nat->α)(h:e<n):((y0d n).map f)[e]?=some (f e):=by
 rw[y05,y1d h];rfl
theorem zbf:∀{ends:List (Nat×Nat)} {sent:List Int} {p:Nat×Nat} {s:Int} {e:Nat},sent.length=ends.length->PM.load (ends ++ [p]) (sent ++ [s]) e=PM.load ends sent e+(if PM.inc p e then s else 0)
 | [],[],p,s,e,_=>by simp[PM.load]
 | [],_::_,_,_,_,h=>by simp at h
 | _::_,[],_,_,_,h=>by simp at h
 | q::r,x::y,p,s,e,h=>by
  have ih:=zbf (ends:=r) (sent:=y) (p:=p) (s:=s) (e:=e) (by simpa using h)
  simp only[List.cons_append,PM.load,ih];omega
def z0u (G:Nat)(ties:List (Nat×Nat)):List (Nat×Nat):=ties.map λp=>(p.1,G+p.2)
def zde (ends:List (Nat×Nat))(i e:Nat):List Nat:=(y0d i).filter λk=>PM.inc (ends.getD k (0,0)) e
theorem zis (ends:List (Nat×Nat))(i e:Nat):zde ends (i+1) e=zde ends i e++(if PM.inc (ends.getD i (0,0)) e then [i] else []):=by
 unfold zde;rw[y3o,y2g];congr 1;rw[y2l,y62]
def zfn (cap:List Int)(ends:List (Nat×Nat))(ss:List Int)(i e:Nat):Int:=cap.getD e 0 - PM.load (ends.take i) (ss.take i) e
def z2y (G T:Nat)(ties:List (Nat×Nat)):PM.Net:=PM.netOf G T ties ((y0d (G+T)).map (zde (z0u G ties) ties.length))
theorem zag {G T:Nat}{ties:List (Nat×Nat)}(h:∀p∈ties,p.1<G/\p.2<T):(z2y G T ties).WF:=by
 have look:∀(k:Nat) p,(z0u G ties)[k]?=some p->∃q,ties[k]?=some q/\p=(q.1,G+q.2):=λk p hp=>by
  unfold z0u at hp;rw[y05] at hp;cases z:ties[k]? with
  | none=>rw[z] at hp;cases hp
  | some q=>rw[z] at hp;exact⟨q,rfl,(y11 hp).symm⟩
 refine⟨y4l _ _,by show((y0d (G+T)).map _).length=G+T;simp,λk p hp=>?_,λe l k hl=>?_⟩
 ·obtain⟨q,h1,rfl⟩:=look k p hp;obtain⟨a,b⟩:=h q (y02 h1);refine⟨a,?_,?_⟩
  ·show G≤G+q.2;omega
  ·show G+q.2<G+T;omega
 ·have hl':((y0d (G+T)).map (zde (z0u G ties) ties.length))[e]?=some l:=hl;have he:e<G+T:=by simpa using (y00.mp hl').1
  rw[z6c _ he] at hl';cases hl';unfold zde;rw[y12,y1j];constructor
  ·rintro⟨h1,h2⟩;have hk:(z0u G ties)[k]?=some ((z0u G ties).getD k (0,0)):=by
    have:k<(z0u G ties).length:=by unfold z0u;rw[y04];exact h1
    rw[y01 this];simp[y1n,y01 this]
   exact⟨_,hk,by simpa [PM.inc] using h2⟩
  ·rintro⟨p,hp,hq⟩;have hp':(z0u G ties)[k]?=some p:=hp;have hk:k<ties.length:=by have:=(y00.mp hp').1;unfold z0u at this;rw[y04] at this;exact this
   refine⟨hk,?_⟩;rw[show(z0u G ties).getD k (0,0)=p by simp[y1n,hp']]
   simpa [PM.inc] using hq
structure Aprt (x lT lS lP lA:Addr)(as:List Addr):Prop where
 Px:lP≠x
 PT:lP≠lT
 PS:lP≠lS
 PA:lP≠lA
 inP:lP ∉ as
 inx:x ∉ as
 inT:lT ∉ as
 inS:lS ∉ as
 inA:lA ∉ as
 nd:as.Nodup
structure IniAt (K:y03)(C:Addr)(H:Hp)(x dx lT lS lP lA:Addr)(fs:List (Str×V))(tl:List V)(E:List (Nat×Nat))(ss:List Int)(as:List Addr)(n:Nat)(sf:Nat->Int)(af:Nat->List Nat):Prop where
 me:H x=some (.ins C dx fs)
 te:H lT=some (.lst tl)
 al:IsAll K H tl (E.map pr)
 st:H lS=some (.lst (ss.map V.int))
 ta:H lA=some (.lst (as.map V.ref))
 sp:H lP=some (.lst (((y0d n).map sf).map V.int))
 tt:∀(e:Nat) (a:Addr),as[e]?=some a->H a=some (.lst (z09 (af e)))
section
variable {K:y03}{C:Addr}{H H':Hp}{x dx lT lS lP lA:Addr}{fs:List (Str×V)}{tl:List V}{E:List (Nat×Nat)}{ss:List Int}{as:List Addr}{n:Nat}{sf:Nat->Int}{af:Nat->List Nat}
theorem IniAt.same (i:IniAt K C H x dx lT lS lP lA fs tl E ss as n sf af)(s:Same H H'):IniAt K C H' x dx lT lS lP lA fs tl E ss as n sf af :=
 ⟨s _ _ i.me,s _ _ i.te,IsAll.same s _ _ i.al,s _ _ i.st,s _ _ i.ta,s _ _ i.sp,λe a h=>s _ _ (i.tt e a h)⟩
theorem IniAt.spare (i:IniAt K C H x dx lT lS lP lA fs tl E ss as n sf af)(A:Aprt x lT lS lP lA as)(sf':Nat->Int):IniAt K C (upd H lP (.lst (((y0d n).map sf').map V.int))) x dx lT lS lP lA fs tl E ss as n sf' af :=
 ⟨by rw[z0a A.Px.symm];exact i.me,by rw[z0a A.PT.symm];exact i.te,z2p i.al λb ys hb=>by rw[z0a (z77 hb i.sp (by intro z;cases z))];exact hb,by rw[z0a A.PS.symm];exact i.st,by rw[z0a A.PA.symm];exact i.ta,z01,
  λe a h=>by rw[z0a (λz=>A.inP (by rw[←z];exact y02 h))];exact i.tt e a h⟩
theorem IniAt.tie (i:IniAt K C H x dx lT lS lP lA fs tl E ss as n sf af)(A:Aprt x lT lS lP lA as){e:Nat}{a:Addr}(ha:as[e]?=some a)(l:List Nat):IniAt K C (upd H a (.lst (z09 l))) x dx lT lS lP lA fs tl E ss as n sf (λy=>if y=e then l else af y):=by
 have hm:=y02 ha;have ne:∀{b:Addr},b ∉ as->b≠a:=λ{b} hb z=>hb (by rw[z];exact hm)
 refine⟨by rw[z0a (ne A.inx)];exact i.me,by rw[z0a (ne A.inT)];exact i.te,z2p i.al λb ys hb=>by rw[z0a (z77 hb (i.tt e a ha) (by intro z;cases z))];exact hb,by rw[z0a (ne A.inS)];exact i.st,by rw[z0a (ne A.inA)];exact i.ta,by rw[z0a (ne A.inP)];exact i.sp,λy b hb=>?_⟩
 by_cases c:y=e
 ·subst c;rw[ha] at hb;cases hb;rw[z01,if_pos rfl]
 ·have hne:b≠a:=λz=>by
   subst z;have h1:=(y00.mp hb).1;have h2:=(y00.mp ha).1
   have h3:as[y]=as[e]:=by rw[(y00.mp hb).2,(y00.mp ha).2]
   rcases Nat.lt_or_gt_of_ne c with q | q
   ·exact y2j.mp A.nd y e h1 h2 q h3
   ·exact y2j.mp A.nd e y h2 h1 q h3.symm
  rw[z0a hne,if_neg c];exact i.tt y b hb
end
theorem zev (l:List Int):(y0d l.length).map (λe=>l.getD e 0)=l:=by
 apply y2u;intro i;rw[y05]
 by_cases h:i<l.length
 ·rw[y1d h,z1d h];rfl
 ·rw[y0w (by simpa using h),y0w (by omega)]
  rfl
section
variable (K:y03)(C:Addr)
def zh3:Sp:=λvs H Q _=>∃(x dx ag ak ai ase:Addr) (gs ts ss:List Int) (ties:List (Nat×Nat)),vs = [.ref x,.ref ag,.ref ak,.ref ai,.ref ase]/\H x=some (.ins C dx [])/\H ag=some (.lst (gs.map V.int))/\H ak=some (.lst (ts.map V.int))/\Is K H (.ref ai) (.list (ties.map pr))/\H ase=some (.lst (ss.map V.int)) /\
 (∀p∈ties,p.1<gs.length/\p.2<ts.length)/\ss.length=ties.length/\gs.length+ts.length≤1000/\ties.length≤1000 /\
 ∀(aS aP:Addr) H',Frz [x] H H'->H aS=none->H aP=none->PourAt K C H' x (z2y gs.length ts.length ties) aS aP ss ((y0d (gs.length+ts.length)).map (zfn (gs++ts) (z0u gs.length ties) ss ties.length)) []->Q .non H'
end
section
variable (K:y03)
def zq1 (H:Hp)(Q:VK)(gs ts:List Int)(ties:List (Nat×Nat))(R:List Int->List Int->Prop):Prop :=
 ∀(p q aS n1 n2:Addr) (sent spare steps:List Int) H',Same H H'->(H p=none/\H q=none/\H aS=none/\H n1=none/\H n2=none)->(aS≠n1/\aS≠n2/\n1≠n2)->H' p=some (.tup [.ref aS,.ref q])->H' q=some (.tup [.ref n1,.ref n2])->H' aS=some (.lst (sent.map V.int)) ->
  H' n1=some (.lst (((z3y steps).take gs.length).map V.bl))->H' n2=some (.lst (((z3y steps).drop gs.length).map V.bl))->PM.Done (z2y gs.length ts.length ties) (gs++ts) sent spare steps->steps.length=gs.length+ts.length->R sent spare->Q (.ref p) H'
def zlo:Sp:=λvs H Q _=>∃(ag ak ai ase:Addr) (gs ts ss:List Int) (ties:List (Nat×Nat)),vs = [.ref ag,.ref ak,.ref ai,.ref ase]/\H ag=some (.lst (gs.map V.int))/\H ak=some (.lst (ts.map V.int))/\Is K H (.ref ai) (.list (ties.map pr))/\H ase=some (.lst (ss.map V.int)) /\
 (∀p∈ties,p.1<gs.length/\p.2<ts.length)/\ss.length=ties.length/\gs.length+ts.length≤1000/\ties.length≤1000/\(∀(k:Nat) s,ss[k]?=some s->0≤s)/\(∀e<gs.length+ts.length,0≤zfn (gs++ts) (z0u gs.length ties) ss ties.length e) /\
 zq1 H Q gs ts ties λ_ spare=>∀(e:Nat) x y,((y0d (gs.length+ts.length)).map (zfn (gs++ts) (z0u gs.length ties) ss ties.length))[e]?=some x->spare[e]?=some y->y≤x
def znt:Sp:=λvs H Q _=>∃(ag ak ai:Addr) (gs ts:List Int) (ties:List (Nat×Nat)),vs = [.ref ag,.ref ak,.ref ai]/\H ag=some (.lst (gs.map V.int))/\H ak=some (.lst (ts.map V.int))/\Is K H (.ref ai) (.list (ties.map pr)) /\
 (∀p∈ties,p.1<gs.length/\p.2<ts.length)/\gs.length+ts.length≤1000/\ties.length≤1000/\(∀g∈gs++ts,0≤g)/\zq1 H Q gs ts ties λ_ _=>True
end
theorem zc4:∀(ends:List (Nat×Nat)) (n e:Nat),PM.load ends (y08 n 0) e=0
 | [],n,e=>by cases n<;>rfl
 | p::r,0,e=>rfl
 | p::r,n+1,e=>by
  rw[y1t];simp only[PM.load,zc4 r n e];simp
theorem zq4 {gs ts ss:List Int}{ties:List (Nat×Nat)}(hl:ss.length=ties.length)(hn:∀(k:Nat) s,ss[k]?=some s->0≤s)(hs:∀e<gs.length+ts.length,0≤zfn (gs++ts) (z0u gs.length ties) ss ties.length e) :
  PM.Flow (z2y gs.length ts.length ties) (gs++ts) ss ((y0d (gs.length+ts.length)).map (zfn (gs++ts) (z0u gs.length ties) ss ties.length)):=by
 have hel:(z0u gs.length ties).length=ties.length:=by unfold z0u;rw[y04]
 refine⟨by show ss.length=(ties.map _).length;rw[y04];exact hl,by show _=gs.length+ts.length;simp,by show _=gs.length+ts.length;simp,hn,λe c s hc h=>?_,λe s h=>?_⟩
 ·have he:e<gs.length+ts.length:=by simpa using (y00.mp h).1
  rw[z6c _ he] at h;cases h;unfold zfn;rw[y07 (by omega),y07 (by omega)]
  rw[show(gs++ts).getD e 0=c by simp only[y1n,hc,Option.getD_some]]
  rfl
 ·have he:e<gs.length+ts.length:=by simpa using (y00.mp h).1
  rw[z6c _ he] at h;cases h;exact hs e he
theorem zma {P:Program}{w:World}{K:y03}{mg:Str->Option Value}{base:Heap}{x:Str}{C:Addr}{k:Nat}{ps:List Str}{sp:Sp}(D:MDef P w K mg base C "__init__" k ps sp)(h1:y4t K C=true)(h2:y0g K (.ref C)=true)(h3:mg x=some (.ref C)):CDef P w K mg base x C k ps sp:=by
 obtain⟨f,fd,F,b,m⟩:=D.is;exact⟨⟨f,fd,F,b,⟨h1,m.at_,m.fn,h2⟩⟩,h3⟩
end My
set_option Elab.async false
set_option linter.all false
set_option maxRecDepth 100000
namespace My
open PySem L2 L2.EX
end My
set_option Elab.async false
set_option linter.all false
set_option maxRecDepth 100000
namespace My
open PySem L2 L2.EX
theorem z69 {α:Type}{a b:List α}{i:Nat}{d:α}(h:i<a.length):(a++b).getD i d=a.getD i d:=by
 simp[y1n,y0u h]
theorem z7z {α:Type}{a b:List α}{i:Nat}{d:α}:(a++b).getD (a.length+i) d=b.getD i d:=by
 simp[y1n,y17 (y4l _ _)]
section
variable {gs ts sent spare steps:List Int}{ties:List (Nat×Nat)}
end
def p1 (gv:List Bool):List Bool->List (Nat×Nat)->List Bool
 | tk,p::ps=>p1 gv (if gv.getD p.1 false=true then tk.set p.2 true else tk) ps
 | tk,[]=>tk
def p2 (tk:List Bool):List Bool->List (Nat×Nat)->List Int->List Bool
 | gv,p::ps,s::ss=>p2 tk (if tk.getD p.2 false=true/\0<s then gv.set p.1 true else gv) ps ss
 | gv,_,_=>gv
def rnd (ties:List (Nat×Nat))(ss:List Int)(x:List Bool×List Bool):List Bool×List Bool:=(p2 (p1 x.1 x.2 ties) x.1 ties ss,p1 x.1 x.2 ties)
def its (ties:List (Nat×Nat))(ss:List Int):Nat->List Bool×List Bool->List Bool×List Bool
 | 0,x=>x
 | n+1,x=>rnd ties ss (its ties ss n x)
structure Mk (G T:Nat)(x:List Bool×List Bool):Prop where
 l1:x.1.length=G
 l2:x.2.length=T
section
variable {G T:Nat}{ties:List (Nat×Nat)}{ss:List Int}
end
theorem ze7 {steps:List Int}{e:Nat}(h:e<steps.length):(z3y steps).getD e false=PM.nr steps e:=by
 unfold z3y PM.nr PM.Lv;simp[y1n,y05,y01 h]
section
variable {gs ts sent spare steps:List Int}{ties:List (Nat×Nat)}
end
theorem zk6 {α:Type}(l:List α):l.drop l.length = []:=y21 (y09 _)
theorem zla {l:List Int}{i:Nat}{v:V}(h:(l.map V.int)[i]?=some v):∃n:Int,l[i]?=some n/\v = .int n:=by
 rw[y05] at h;cases q:l[i]? with
 | none=>rw[q] at h;cases h
 | some n=>rw[q] at h;exact⟨n,rfl,(y11 h).symm⟩
theorem zo0 {l:List Bool}{i:Nat}{v:V}(h:(l.map V.bl)[i]?=some v):∃n:Bool,l[i]?=some n/\v = .bl n:=by
 rw[y05] at h;cases q:l[i]? with
 | none=>rw[q] at h;cases h
 | some n=>rw[q] at h;exact⟨n,rfl,(y11 h).symm⟩
theorem zos {l:List Int}{i:Nat}(h:i<l.length):atI (l.map V.int) (i:Int)=some (.int (l.getD i 0)):=z3d (z1d h)
structure TellsP (H:Hp)(p q aS n1 n2:Addr)(G:Nat)(sent steps:List Int):Prop where
 h1:H p=some (.tup [.ref aS,.ref q])
 h2:H q=some (.tup [.ref n1,.ref n2])
 h3:H aS=some (.lst (sent.map V.int))
 h4:H n1=some (.lst (((z3y steps).take G).map V.bl))
 h5:H n2=some (.lst (((z3y steps).drop G).map V.bl))
structure AsksP (K:y03)(H:Hp)(ag ak ai:Addr)(gs ts:List Int)(ties:List (Nat×Nat)):Prop where
 g:H ag=some (.lst (gs.map V.int))
 t:H ak=some (.lst (ts.map V.int))
 i:Is K H (.ref ai) (.list (ties.map pr))
 ok:∀p∈ties,p.1<gs.length/\p.2<ts.length
 sm:gs.length+ts.length≤400
 sk:ties.length≤400
 nn:∀g∈gs++ts,0≤g
 bd:∀g∈gs++ts,Bd 1200 g
theorem zqx {K:y03}{H:Hp}{a:Addr}{p:Nat×Nat}(h:H a=some (.tup [.int (p.1:Int),.int (p.2:Int)])):Is K H (.ref a) (pr p):=is_frac.mpr ⟨a,rfl,h⟩
def zpf (gs ts:List Int)(ties:List (Nat×Nat))(ss:List Int)(e:Nat):Int:=(gs++ts).getD e 0 - PM.load (z0u gs.length ties) ss e
structure Fits (gs ts:List Int)(ties:List (Nat×Nat))(ss:List Int):Prop where
 len:ss.length=ties.length
 nn:∀(k:Nat) s,ss[k]?=some s->0≤s
 rm:∀e<gs.length+ts.length,0≤zpf gs ts ties ss e
theorem zha:∀(ends:List (Nat×Nat)) (ss:List Int) (e:Nat),(∀(k:Nat) s,ss[k]?=some s->0≤s)->0≤PM.load ends ss e
 | [],ss,e,_=>by simp[PM.load]
 | p::ps,[],e,_=>by simp[PM.load]
 | p::ps,s::ss,e,h=>by
  have ih:=zha ps ss e λk x hx=>h (k+1) x (by simpa using hx)
  have h0:=h 0 s rfl;simp only[PM.load]
  split<;>omega
section
variable {gs ts ss sent spare steps b6 au steps':List Int}{ties:List (Nat×Nat)}
end
theorem zkl {K:y03}{g:TG}{tt:TT}{te:TE}{σ0:St}{Q:VK}{H:Hp}{a:Addr}{xs:List V}(Pv:Nat->List V->Hp->Prop)(h0:Pv 0 [] H)(hz:xs.length<sizeLine)(hl:∀i ys H,i≤xs.length->Pv i ys H->SqT K H a xs/\ys.length≤i)
  (hs:∀i x ys H,xs[i]?=some x->Pv i ys H->g x σ0 H fun σ2 H2=>tt σ2 H2 λb H3=>if b=true then te σ2 H3 λy H4=>CNx Pv xs.length (i+1) (ys ++ [y]) H4 else CNx Pv xs.length (i+1) ys H3)
  (hd:∀ys H,Pv xs.length ys H->∀l,H l=none->Q (.ref l) (upd H l (.lst ys))):z4x (Itt K a) g tt te σ0 Q H:=by
 refine⟨λi m ys H=>m=xs.length - i/\i≤xs.length/\Pv i ys H,⟨xs.length,by simp,y2d _,h0⟩,?_⟩
 rintro i m ys H ⟨rfl,hi,p⟩;obtain⟨q,yl⟩:=hl i ys H hi p
 by_cases hlt:i<xs.length
 ·refine .inr ⟨⟨xs,xs[i],q,by simp[hlt]⟩,by omega,λx H' y=>?_⟩
  obtain⟨e1,e2⟩:=y;have e3:=e2 xs q;subst e1;have hx:xs[i]?=some x:=e3
  have z:=hs i x ys H' hx p;rw[show xs.length - i=xs.length+1 - (i+1) by omega]
  exact z
 ·have e:i=xs.length:=by omega
  subst e;exact .inl ⟨⟨xs,q,y09 _⟩,by omega,hd ys H p⟩
end My
set_option Elab.async false
set_option linter.all false
set_option maxRecDepth 100000
set_option Elab.async false
set_option linter.all false
set_option maxRecDepth 100000
namespace L2
open PySem PySem.Spec PyProof.Rows
end L2
namespace L2
open PySem PySem.Spec PyProof.Rows
section
variable (P:Program)(w:World)
end
section
variable {P:Program}{w:World}{H H':Hp}{h h':Heap}{a:Addr}{o:HO}
end
section
variable {P:Program}{w:World}{H:Hp}{h h':Heap}{x e:Addr}{o':HO}
end
section
variable {fs fs' ex ex':List Addr}{H H1 H2:Hp}{h h1 h2 h':Heap}{a x e:Addr}{o:HO}
end
end L2
namespace L2
open PySem PySem.Spec PyProof.Rows
section
variable {X:Cx}{aa:List (Addr×Obj)}{σ:List (Option V)}{H H':Hp}{s:Shared}{h':Heap}
end
end L2
namespace L2
open PySem PySem.Spec PyProof.Rows
section
variable {X:Cx}
variable {a b:Expr}{ta tb:TE}{pos:Pos}
variable {tA tB':TT}{rest:List Expr}
end
end L2
namespace L2
open PySem PySem.Spec PyProof.Rows
section
variable {X:Cx}{aa:List (Addr×Obj)}{σ:St}{H:Hp}{s:Shared}{a:Addr}{xs ys:List V}
end
section
variable {X:Cx}{aa:List (Addr×Obj)}{σ:St}{H:Hp}{s:Shared}{E:Value->Shared->Prop}
end
section
variable {X:Cx}{st:Stmt}{rest:List Stmt}{t u:TS}{e:Expr}{te:TE}{pos:Pos}
end
section
variable {X:Cx}{pos:Pos}
end
section
variable {X:Cx}{pos:Pos}
end
end L2
namespace L2
open PySem PySem.Spec PyProof.Rows
section
variable {X:Cx}{tg:Expr}
end
end L2
namespace L2
open PySem PySem.Spec PyProof.Rows
section
variable {X:Cx}{a b c:Expr}{ta tb tc:TE}{pos:Pos}
end
section
variable {X:Cx}{a b c:Expr}{ta tb tc:TE}{pos:Pos}
end
end L2
namespace L2
open PySem PySem.Spec PyProof.Rows
section
variable {prog:Program}{w:World}{A:Around}{E:Value->Shared->Prop}{s:Shared}{K:y03}{x dx C f:Addr}{mA:Str->Option Value}{name:Str}{v:Value}
end
section
variable {P:Program}{w:World}{H H':Hp}{h h':Heap}{a C dx:Addr}{fs fs':List (Str×V)}
end
section
variable {X:Cx}{aa:List (Addr×Obj)}{σ:St}{H:Hp}{s:Shared}{a C dx:Addr}{fs:List (Str×V)}{f:Str}{v:V}{A:Around}{E:Value->Shared->Prop}
end
section
variable {X:Cx}{o e value:Expr}{f:Str}{pos bU tpos:Pos}{ta tv:TE}
end
section
variable {X:Cx}{aa:List (Addr×Obj)}{σ:St}{H:Hp}{s:Shared}{A:Around}{E:Value->Shared->Prop}{Q:Value->Shared->Prop}{c:Value}{b:Bool}
end
end L2
namespace L2
open PySem PySem.Spec PyProof.Rows
section
variable {X:Cx}{e:Expr}{es:List Expr}{te:TE}{t:TA}{pos:Pos}
end
section
variable {X:Cx}{aa:List (Addr×Obj)}{σ:St}{H:Hp}{s s':Shared}
end
section
variable {X:Cx}{CX:CXT}{k:Nat}{f C:Addr}{fd:FuncData}{ps:List Str}{sp:Sp}{dvs:List V}{ds:List Value}{E:XK}{x m:Str}{p pos aK:Pos}{e o:Expr}{es:List Expr}{ta:TE}{t:TA}
end
section
variable {X:Cx}{CX:CXT}{k:Nat}{f C:Addr}{fd:FuncData}{ps ks:List Str}{sp:Sp}{E:XK}{x m:Str}{p pos aK kpos:Pos}{e o:Expr}{es:List Expr}{kws:List Keyword}{te ta:TE}{t tk:TA}{nm:Option Str}
variable {g:List Value->List Value->List Value}{gV:List V->List V->List V}
end
end L2
namespace L2
open PySem PySem.Spec PyProof.Rows
section
variable {X:Cx}{x:Str}{p pos:Pos}{e:Expr}{es:List Expr}{t:TA}{id T:String}{r:List V->Hp->VK->Prop}
end
end L2
namespace L2
open PySem PySem.Spec PyProof.Rows
section
variable {κ:Type} [DecidableEq κ]
def zc6 (kvs:List (κ×V))(k:κ):Option V:=(kvs.find? λkv=>decide (kv.1=k)).map (·.2)
def ziv (kvs:List (κ×V))(k:κ)(v:V):List (κ×V) :=
 if (kvs.any λkv=>decide (kv.1=k))=true then kvs.map (λkv=>if kv.1=k then (kv.1,v) else kv) else kvs ++ [(k,v)]
theorem zep {p:κ×V}{r:List (κ×V)}{k:κ}(e:p.1=k):zc6 (p::r) k=some p.2:=by simp[zc6,y36,e]
theorem zdq {p:κ×V}{r:List (κ×V)}{k:κ}(e:¬p.1=k):zc6 (p::r) k=zc6 r k:=by simp[zc6,y36,e]
theorem RelO.isSome_eq {o:Option V}{u:Option Value}(r:RelO o u):o.isSome=u.isSome:=by
 cases o with
 | none=>cases u with
  | none=>rfl
  | some _=>exact(show False from r).elim
 | some _=>cases u with
  | none=>exact(show False from r).elim
  | some _=>rfl
theorem KV.val {kvs:List (κ×V)}{vs:List (κ×Value)}(r:KV kvs vs)(k:κ):RelO (zc6 kvs k) (valueAt vs k):=by
 unfold KV at r
 induction r with
 | nil=>exact True.intro
 | @cons p q ps qs h t ih =>
  obtain⟨h1,h2⟩:=h
  by_cases e:p.1=k
  ·have e':q.1=k:=h1.symm.trans e;have b:valueAt (q::qs) k=some q.2:=by simp[valueAt,y36,e']
   rw[zep e,b];exact h2
  ·have e':¬q.1=k:=λz=>e (h1.trans z);have b:valueAt (q::qs) k=valueAt qs k:=by simp[valueAt,y36,e']
   rw[zdq e,b];exact ih
theorem KV.any {kvs:List (κ×V)}{vs:List (κ×Value)}(r:KV kvs vs)(k:κ):(kvs.any λkv=>decide (kv.1=k))=vs.any λkv=>decide (kv.1=k):=by
 unfold KV at r
 induction r with
 | nil=>rfl
 | cons h t ih=>rw[y6l,y6l,ih,h.1]
theorem KV.repl {kvs:List (κ×V)}{vs:List (κ×Value)}(r:KV kvs vs)(k:κ){y:V}{u:Value}(ry:RelV y u) :
  KV (kvs.map λkv=>if kv.1=k then (kv.1,y) else kv) (vs.map λkv=>if kv.1=k then (kv.1,u) else kv):=by
 unfold KV at r ⊢
 induction r with
 | nil=>exact .nil
 | @cons p q ps qs h t ih =>
  rw[y0n,y0n];refine .cons ?_ ih;obtain⟨h1,h2⟩:=h
  by_cases e:p.1=k
  ·rw[if_pos e,if_pos (h1.symm.trans e)];exact⟨h1,ry⟩
  ·rw[if_neg e,if_neg (λz=>e (h1.trans z))];exact⟨h1,h2⟩
theorem KV.put {kvs:List (κ×V)}{vs:List (κ×Value)}(r:KV kvs vs)(k:κ){y:V}{u:Value}(ry:RelV y u):KV (ziv kvs k y) (stored vs k u):=by
 unfold ziv stored;rw[r.any k]
 by_cases e:(vs.any λkv=>decide (kv.1=k))=true
 ·rw[if_pos e,if_pos e];exact r.repl k ry
 ·rw[if_neg e,if_neg e];exact Paired.snoc r ⟨rfl,ry⟩
theorem KV.length {kvs:List (κ×V)}{vs:List (κ×Value)}(r:KV kvs vs):kvs.length=vs.length:=Paired.length r
end
theorem zkf {P:Program}{w:World}{k:Key}{u:Value}(r:RelV (kV k) u):(z3h P w).is k u=true:=by
 cases k with
 | inl i=>obtain⟨t,e⟩:=(show ∃t,u=Value.int i t from r);subst e;exact zcl P w i t
 | inr x=>obtain⟨t,e⟩:=(show ∃t,u=Value.str x t from r);subst e;exact zc7 P w x t
theorem zbl {P:Program}{w:World}:∀{ks:List Key} {us:List Value},Vals (ks.map kV) us->ItemsAre (z3h P w) ks us
 | [],_,r=>by rw[y3j] at r;cases r;exact .nil
 | k::ks,_,r=>by
  rw[y0n] at r;cases r with
  | cons h t=>exact .cons (zkf h) (zbl t)
abbrev KT (H:Hp):List (List Key×V)->List (List Key×Addr×Value)->Prop:=Paired λp q=>p.1=q.1/\H q.2.1=some (.tup (p.1.map kV))/\RelV p.2 q.2.2
theorem KT.val {H:Hp}{kvs:List (List Key×V)}{xs:List (List Key×Addr×Value)}(r:KT H kvs xs)(k:List Key):RelO (zc6 kvs k) ((atKey xs k).map (·.2)):=by
 induction r with
 | nil=>exact True.intro
 | @cons p q ps qs h t ih =>
  obtain⟨h1,_,h2⟩:=h
  by_cases e:p.1=k
  ·have e':q.1=k:=h1.symm.trans e;have b:atKey (q::qs) k=some q.2:=by simp[atKey,y36,e']
   rw[zep e,b];exact h2
  ·have e':¬q.1=k:=λz=>e (h1.trans z);have b:atKey (q::qs) k=atKey qs k:=by simp[atKey,y36,e']
   rw[zdq e,b];exact ih
section
variable {P:Program}{w:World}{H:Hp}{h:Heap}{a:Addr}
theorem zpe {u:HO}(ok:HOk P w H h)(e:Rd H a u):ObjOk P w H h a u:=e.ok ok
theorem zn4 {kvs:List (Key×V)}(ok:HOk P w H h)(e:Rd H a (.dK kvs)):kvs.length≤sizeLine/\(a==sysModules)=false/\∃vs,KV kvs vs/\h.DictOf (z3h P w) a vs :=
 show ObjOk P w H h a (.dK kvs) from zpe ok e
theorem zgk {ks:List Key}(ok:HOk P w H h)(e:H a=some (.tup (ks.map kV))):(tupleKind (z3h P w)).is h ks a:=by
 obtain⟨_,its,r,o,h1,h2,n,h3⟩:=(show ObjOk P w H h a (.tup (ks.map kV)) from ok a _ e)
 exact⟨o,its.toArray,n,h1,h2,h3,by simpa using zbl r⟩
theorem zlz {kvs:List (List Key×V)}(ok:HOk P w H h)(e:Rd H a (.dT kvs)):kvs.length≤sizeLine/\(a==sysModules)=false /\
  ∃xs,KT H kvs xs/\h.DictOfH (tupleKind (z3h P w)) a xs:=by
 obtain⟨z,y,xs,r,o,es,ep,h1,h2,h3,h4,h5⟩:=(show ObjOk P w H h a (.dT kvs) from zpe ok e)
 refine⟨z,y,xs,r,o,es,ep,h1,h2,h3,h4,λx hx=>?_,h5⟩;have all:∀{l:List (List Key×V)} {m:List (List Key×Addr×Value)},KT H l m->∀x∈m,(tupleKind (z3h P w)).is h x.1 x.2.1:=by
  intro l m q
  induction q with
  | nil=>intro x hx;exact nomatch hx
  | @cons p q ps qs hq t ih =>
   intro x hx;rcases y0m.mp hx with e | hx
   ·subst e;exact zgk ok (by rw[←hq.1];exact hq.2.1)
   ·exact ih x hx
 exact all r x hx
end
def DGet (H:Hp)(a:Addr)(y:V)(r:Option V):Prop :=
 (∃kvs k,Rd H a (.dK kvs)/\y=kV k/\r=zc6 kvs k)∨∃kvs k b,Rd H a (.dT kvs)/\y = .ref b/\H b=some (.tup (k.map kV))/\r=zc6 kvs k
theorem DGet.k {H:Hp}{a:Addr}{kvs:List (Key×V)}{k:Key}(e:H a=some (.dK kvs)):DGet H a (kV k) (zc6 kvs k):=.inl ⟨kvs,k,.inl e,rfl,rfl⟩
section
variable {X:Cx}{aa:List (Addr×Obj)}{σ:St}{H:Hp}{s:Shared}{a:Addr}{y v:V}{u r:Value}{o:Option V}{A:Around}{E:Value->Shared->Prop}
theorem Inv.big (I:Inv X aa σ H s):sysModules<s.heap.objs.size:=by
 have h:mainGlobals<s.heap.objs.size:=(I.mod.glob.keeps I.bk).lt;exact y63 (by decide) h
theorem zif {Q:Value->Shared->Prop}(hu:A.units+1<cLine)(I:Inv X aa σ H s)(g:DGet H a y (some v))(ry:RelV y u)(h:∀w' s',Inv X aa σ H s'->RelV v w'->Q w' s') :
  wpAny (model X.prog X.w) A (getItem (.ref a) u) Q E s:=by
 rcases g with ⟨kvs,k,e,ey,l⟩ | ⟨kvs,k,b,e,ey,eb,l⟩
 ·subst ey;obtain⟨z,hd,vs,rel,dd⟩:=zn4 I.hok e;obtain⟨w',hw,rw'⟩:=RelO.some_of (v:=v) (o:=valueAt vs k) (by rw[l];exact rel.val k)
  exact wpAny_getItem_of (zkf ry) dd.mapOf hw (h w' _ (I.tok _) rw')
 ·subst ey;cases (show u=Value.ref b from ry)
  obtain⟨z,hd,xs,rel,dd⟩:=zlz I.hok e;obtain⟨w',hw,rw'⟩:=RelO.some_of (v:=v) (o:=(atKey xs k).map (·.2)) (by rw[l];exact rel.val k)
  obtain⟨p,hp,hp2⟩:=y2r.mp hw;refine wpAny_getItem_heap (tupleKind_room_in1 hu) (zgk I.hok eb) dd hp ?_;rw[hp2];exact h w' _ (I.tok _) rw'
theorem zrh {Q:Value->Shared->Prop}(hu:A.units+1<cLine)(I:Inv X aa σ H s)(g:DGet H a y o)(ry:RelV y u)(h:∀s',Inv X aa σ H s'->Q (.bool o.isSome) s') :
  wpAny (model X.prog X.w) A (compareOp .In u (.ref a)) Q E s:=by
 rcases g with ⟨kvs,k,e,ey,l⟩ | ⟨kvs,k,b,e,ey,eb,l⟩
 ·subst ey;obtain⟨z,hd,vs,rel,dd⟩:=zn4 I.hok e;refine wpAny_in_of (zkf ry) hd dd.mapOf ?_;rw[←(rel.val k).isSome_eq,←l];exact h _ (I.tok _)
 ·subst ey;cases (show u=Value.ref b from ry)
  obtain⟨z,hd,xs,rel,dd⟩:=zlz I.hok e;refine wpAny_in_heap (tupleKind_room_in1 hu) (zgk I.hok eb) hd dd ?_;have q:=(rel.val k).isSome_eq;rw[Option.isSome_map] at q;rw[←q,←l];exact h _ (I.tok _)
end
section
variable {X:Cx}{aa:List (Addr×Obj)}{σ:St}{H:Hp}{s:Shared}{a:Addr}{kvs:List (Key×V)}{k:Key}{u:Value}{A:Around}{E:Value->Shared->Prop}
end
def zqg (i:Expr):Prop:=∀ov iv,subscripted i false ov iv=operate [ov,iv] (getItem ov iv)
theorem zml {prog:Program}{w:World}{A:Around}{E:Value->Shared->Prop}{s:Shared}{env:Env}{value slice:Expr}{pos:Pos}{T id:String}{Q:Value->Shared->Prop}
  (hl:typeLookup (.type T) "__getitem__"=pure (some (.builtin id))) (hs:zqg slice)
  (h:wpAny (model prog w) A (eval value env) (λo s₁=>wpAny (model prog w) A (eval slice env) (λi s₂=>s₂.TypeIs o T/\wpAny (model prog w) A (getItem o i) Q E s₂) E s₁) E s) :
  wpAny (model prog w) A (eval (.Subscript value slice pos) env) Q E s:=by
 refine Subscript_ (wpAny_mono h (λo s₁ h₁=>wpAny_mono h₁ (λi s₂ h₂=>?_) λ_ _ x=>x) λ_ _ x=>x);obtain⟨hT,h₂⟩:=h₂;unfold subscriptTail;refine wpAny_bind ?_;rw[getitemInPython_of_ne hT.not_modules];refine wpAny_bind (wpAny_specialOf hT hl ?_);have fin:wpAny (model prog w) A (subscripted slice false o i) (λr s₃=>wpAny (model prog w) A (letTemporaryGo value o r >>= λ_=>pure r) Q E s₃) E s₂:=by
  rw[hs o i];exact wpAny_operating (wpAny_mono h₂ (λr s₃ h₃=>wpAny_bind (wpAny_letTemporaryGo (wpAny_pure h₃))) λ_ _ x=>x)
 first
  | exact wpAny_pure (wpAny_bind fin)
  | exact wpAny_bind (wpAny_pure (wpAny_bind fin))
  | exact wpAny_bind fin
theorem zcb {X:Cx}{aa:List (Addr×Obj)}{σ:St}{H:Hp}{s:Shared}{a:Addr}{y:V}{o:Option V}(I:Inv X aa σ H s)(g:DGet H a y o):s.TypeIs (.ref a) "dict":=by
 rcases g with ⟨kvs,k,e,_,_⟩ | ⟨kvs,k,b,e,_,_,_⟩
 ·obtain⟨_,_,vs,_,dd⟩:=zn4 I.hok e;exact dd.typeIs
 ·obtain⟨_,_,xs,_,dd⟩:=zlz I.hok e;exact dd.typeIs
def zr0 (td ty:TE):TE:=fun σ H Q=>td σ H λx H1=>ty σ H1 λy H2=>∃a v,x = .ref a/\DGet H2 a y (some v)/\Q v H2
section
variable {X:Cx}{o i e value:Expr}{pos bU tpos:Pos}{td ty tv:TE}
theorem zni (hu:X.A.units+1<cLine)(ho:PE X o td)(hi:PE X i ty)(hs:zqg i):PE X (.Subscript o i pos) (zr0 td ty):=by
 intro aa s σ H Q I h;refine zml PySem.F.slot_dict_getitem.lookup hs (thn (ho aa s σ H _ I h) λu s1 ⟨x,H1,I1,rx,q1⟩=>thn (hi aa s1 σ H1 _ I1 q1) λiv s2 ⟨y,H2,I2,ry,a,v,ex,g,q2⟩=>?_);subst ex;obtain rfl:u=Value.ref a:=rx;exact⟨zcb I2 g,zif hu I2 g ry λw' s3 I3 rw'=>⟨v,H2,I3,rw',q2⟩⟩
end
section
variable {X:Cx}{pos:Pos}
end
structure M1 (X:Cx)(o:Expr)(m:Str)(aK:Pos)(e:Expr)(aG:Pos):Prop where
 base:attributeBase o m X.env (eval o X.env)=eval o X.env
 few:((backTo aG (starEach [e] X.env)).all (λx=>!x.1)&&(backToKw aG (keywordEach [] X.env)).all (λx=>x.1.isSome)
 &&decide (([e]:List Expr).length+([]:List Keyword).length+(if ([]:List Keyword).isEmpty then 0 else 1)<30))=true
 line:(aK.endLine==aG.line)=true
 trees:backTo aG (starEach [e] X.env) = [(false,eval e X.env)]
structure M2 (X:Cx)(o:Expr)(m:Str)(aK:Pos)(e f:Expr)(aG:Pos):Prop where
 base:attributeBase o m X.env (eval o X.env)=eval o X.env
 few:((backTo aG (starEach [e,f] X.env)).all (λx=>!x.1)&&(backToKw aG (keywordEach [] X.env)).all (λx=>x.1.isSome)
 &&decide (([e,f]:List Expr).length+([]:List Keyword).length+(if ([]:List Keyword).isEmpty then 0 else 1)<30))=true
 line:(aK.endLine==aG.line)=true
 trees:backTo aG (starEach [e,f] X.env) = [(false,eval e X.env),(false,eval f X.env)]
section
variable {X:Cx}{aa:List (Addr×Obj)}{σ:St}{H:Hp}{s:Shared}{a:Addr}{y d:V}{u r:Value}{o:Option V}{A:Around}{E:Value->Shared->Prop}
end
section
variable {X:Cx}{o e f:Expr}{aK aG:Pos}{td ty tx:TE}
end
section
variable {X:Cx}{aa:List (Addr×Obj)}{σ:St}{H:Hp}{s:Shared}{a:Addr}{kvs:List (Key×V)}{A:Around}{E:Value->Shared->Prop}
end
section
variable {X:Cx}{aa:List (Addr×Obj)}{σ:St}{H:Hp}{s:Shared}{a:Addr}{y:V}{u:Value}{A:Around}{E:Value->Shared->Prop}
end
end L2
namespace Att
open PySem PySem.W PySem.Calls PyProof.Rows
section
variable {prog:Program}{w:World}{A:Around}{E:Value->Shared->Prop}{s:Shared}{K:Frag}
end
end Att
namespace L2
open PySem PySem.Spec PyProof.Rows
end L2
namespace L2
open PySem PySem.Spec PyProof.Rows
end L2
namespace L2
open PySem PySem.Spec PyProof.Rows
section
variable {P:Program}{w:World}{K:y03}{mg:Str->Option Value}{base:Heap}
end
section
variable {X:Cx}
end
section
variable {κ:Type} [DecidableEq κ]
end
end L2
set_option Elab.async false
set_option linter.all false
set_option maxRecDepth 100000
namespace PySem
theorem z6v:typeLookup (.type "list") "keys"=pure none:=by rw[typeLookup_type,builtinLookup_eq_fast];kernel_rfl
theorem zbe:entryFor table "dict.update.loop"=some Builtin.«dict.update.loop»:=entryFor_of_tree (by kernel_rfl)
theorem z6k:plainId "dict.update.loop"=true:=by decide +kernel
section
variable {prog:Program}{w:World}{A:Around}{E:Value->Shared->Prop}{s:Shared}
theorem getAttr?_keys_list {a:Addr}{xs:Array Value}{k:Nat}{Q:Option Value->Shared->Prop}(hx:s.heap.get? a=some { cls:=.type "list",data:=.seq xs k })(hA:A.handled=none)
  (h:∀h' tk,(∀b ob,s.heap.get? b=some ob->h'.get? b=some ob)->Q none { s with heap:=h',toks:=tk }) :
  wpAny (model prog w) A (getAttr? (.ref a) "keys") Q E s:=by
 obtain⟨hp,g,d,tk,os⟩:=s;have hT:∀tk',(⟨hp,g,d,tk',os⟩:Shared).TypeIs (.ref a) "list":=λ_=>⟨_,hx,rfl⟩;have f1:=sub_AttributeError
 have f3:=F.slot_list_getattribute.lookup;have f4:=F.slot_list_getattribute.bind (.ref a)
 have f5:=am_list_getattr_none;unfold getAttr? getAttrBy? getAttrBy
 repeat (any_goals (first | assumption | exact hT _ | ((with_reducible show wpAny _ _ (call (Value.builtin "list.__getattribute__") _ _) _ _ _);refine call_meets F.slot_list_getattribute (hT _) am_entry_list_getattribute (F.args_list_getattribute_2 _ _) (meets_getattribute_miss_list a xs k _ "keys" _ z6v (by decide +kernel) (by decide +kernel)) ⟨hx,hA,λh' tk' e hx'=>?_⟩) | wp_step))
 obtain⟨t',u',he⟩:=hx'.there;show wpAny _ _ (getattributeRaised _ _ _ _ _ _ _) _ _ _;unfold getattributeRaised
 repeat (any_goals (first | assumption | wp_step))
 exact h h' tk' hx'.keeps
end
section
variable {prog:Program}{w:World}{K:Type} [DecidableEq K] {knd:KeyKind prog w K}
def zah (knd:KeyKind prog w K)(h:Heap)(items:Array Value)(ps:List (K×Value)):Prop :=
 items.size=ps.length/\∀(j:Nat) p,ps[j]?=some p->∃t key,items[j]?=some (.ref t)/\h.IsTuple t #[key,p.2]/\knd.is p.1 key=true
def z9b (kvs:List (K×Value))(ps:List (K×Value)):List (K×Value):=ps.foldl (λacc p=>stored acc p.1 p.2) kvs
theorem zfh (kvs:List (K×Value))(k:K)(v:Value):(stored kvs k v).length≤kvs.length+1:=by
 unfold stored
 split<;>simp
theorem zjz (d it l:Addr)(items:Array Value)(ps:List (K×Value))(hdi:d≠it)(hdl:d≠l)(hil:it≠l)(n:Nat) :
  ∀(i:Nat) (kvs:List (K×Value)),items.size - i=n->i≤items.size->kvs.length+items.size≤sizeLine+i->∀(A:Around) (R:Result->Shared->Prop) (s:Shared),A.handled=none->s.heap.IsListIter it l i->s.heap.IsList l items->s.heap.DictOf knd d kvs->zah knd s.heap items ps ->
   (∀(j:Nat) t,items[j]?=some (.ref t)->t≠d/\t≠it) ->
   (∀h' tk,h'.DictOf knd d (z9b kvs (ps.drop i))->(∀b o,b≠d->b≠it->s.heap.get? b=some o->h'.get? b=some o)->R (.ok (.ret .none)) { s with heap:=h',toks:=tk }) ->
   wpAny (model prog w) A.in1 (Builtin.«dict.update.loop» ⟨[.ref d,.ref it,rawInt i,.none],[]⟩)
    (λfin s'=>match fin with
     | .done f=>R (.ok f) s'
     | .again c'=>c'.quiet=true/\codeAny (model prog w) A c' R s') (λe s'=>R (.error e) s') s:=by
 induction n with
 | zero =>
  intro i kvs hn hi hz A R s hA hit hl hd hp ht hq;unfold Builtin.«dict.update.loop»;have e:i=items.size:=by omega
  subst e;refine wpAny_bind (wpAny_pyNext_list_end (show A.in1.handled=none from hA) hit hl (by simp) λh' eb=>?_)
  refine wpAny_bind (m:=Builtin.Dict.addKeywords d []) (wpAny_of_eq (a:=()) (by first | rfl | (unfold Builtin.Dict.addKeywords;rfl)) ?_)
  refine wpAny_pure ?_;have e1:ps.drop items.size = []:=y21 (by rw[hp.1];exact y09 _)
  rw[e1] at hq;have hd':h'.DictOf knd d kvs:=by
   obtain⟨o,es,ep,ho,r⟩:=hd;exact⟨o,es,ep,eb d o hdi ho,r⟩
  exact hq h' s.toks hd' λb o _ hb ho=>eb b o hb ho
 | succ n ih =>
  intro i kvs hn hi hz A R s hA hit hl hd hp ht hq;unfold Builtin.«dict.update.loop»;have hlt:i<items.size:=by omega
  have hpi:ps[i]?=some (ps[i]'(by rw[←hp.1];exact hlt)):=y01 _
  generalize ps[i]'(by rw[←hp.1];exact hlt)=p at hpi
  obtain⟨t,key,h1,h2,h3⟩:=hp.2 i p hpi;refine wpAny_bind (wpAny_pyNext_list_item hit hl h1 λh' hit' sb=>?_);have tne:=ht i t h1;have keep:∀b o,b≠it->s.heap.get? b=some o->h'.get? b=some o:=λb o hb ho=>(sb.2 b hb).trans ho
  obtain⟨ot,hot,hct,nt,hdt⟩:=h2;have hot':h'.get? t=some ot:=keep t ot tne.2 hot;refine wpAny_bind (wpAny_holding ?_);refine wpAny_bind (wpAny_tryCatch ?_);unfold Builtin.Dict.pairItems;refine wpAny_bind (wpAny_typeOf (T:="tuple") ⟨_,hot',hct⟩ ?_);rw[if_pos (by decide)]
  refine wpAny_bind (wpAny_seqItems hot' hdt ?_);refine wpAny_pure ?_;show wpAny _ _ (holding [key,p.2] (dictSet d key p.2)) _ _ _;have hd1:h'.DictOf knd d kvs:=by
   obtain⟨o,es,ep,ho,r⟩:=hd;exact⟨o,es,ep,keep d o hdi ho,r⟩
  refine wpAny_holding (wpAny_dictSet_pairs h3 hd1 (λh2 hd2 sb2=>?_) (by omega))
  have bP:∀b o,b≠d->b≠it->s.heap.get? b=some o->h2.get? b=some o:=λb o hb hb2 ho=>(sb2.2 b hb).trans (keep b o hb2 ho);have hit2:h2.IsListIter it l (i+1):=hit'.at λo ho=>(sb2.2 it (Ne.symm hdi)).trans ho
  have hl2:h2.IsList l items:=hl.at λo ho=>bP l o (Ne.symm hdl) (Ne.symm hil) ho;have hp2:zah knd h2 items ps:=⟨hp.1,λj q hj=>by
   obtain⟨t',k',g1,g2,g3⟩:=hp.2 j q hj;have:=ht j t' g1;exact⟨t',k',g1,g2.at λo ho=>bP t' o this.1 this.2 ho,g3⟩⟩
  have hlen:=zfh kvs p.1 p.2;refine wpAny_pure ⟨plainId_quiet z6k _,codeAny_builtin zbe ?_⟩;rw[Around.under_plainId z6k _];have hc:((i:Int)+1)=((i+1:Nat):Int):=by push_cast;rfl
  rw[hc];refine ih (i+1) (stored kvs p.1 p.2) (by omega) (by omega) (by omega) A R _ hA hit2 hl2 hd2 hp2 ht λh3 tk hd3 k3=>?_
  ·have e:z9b kvs (ps.drop i)=z9b (stored kvs p.1 p.2) (ps.drop (i+1)):=by
    obtain⟨g1,g2⟩:=y00.mp hpi;rw[y5a g1,g2];rfl
   rw[e] at hq;exact hq h3 tk hd3 λb o hb hb2 ho=>k3 b o hb hb2 (bP b o hb hb2 ho)
theorem z8n {A:Around}{E:Value->Shared->Prop}{s:Shared}{l:Addr}{items:Array Value}{n:Nat}{ps:List (K×Value)}{Q:Value->Shared->Prop}(hA:A.handled=none)(hl:s.heap.get? l=some { cls:=.type "list",data:=.seq items n })(hp:zah knd s.heap items ps)(hz:items.size≤sizeLine)
  (h:∀h' tk,h'.DictOf knd s.heap.objs.size (z9b [] ps)->(∀b o,s.heap.get? b=some o->h'.get? b=some o)->Q (.ref s.heap.objs.size) { s with heap:=h',toks:=tk }) :
  wpAny (model prog w) A (call (.type "dict") [.ref l]) Q E s:=by
 refine callType_codes (Q₁:=λobj s₁=>obj = .ref s.heap.objs.size/\s₁ = { s with heap:=s.heap.push { cls:=.type "dict",data:=.dict #[] } }) F.kt_called_dict (F.kt_typeCall_dict_1 _) F.entry_dict_init (kt_code_dict_new _ ⟨rfl,rfl⟩) ?_
 rintro obj s₁ ⟨rfl,rfl⟩;have hnew:(s.heap.push { cls:=.type "dict",data:=.dict #[] }).DictOf knd s.heap.objs.size []:=Heap.DictOf.new s.heap;refine⟨hnew.typeIs,F.args_dict_init_2 _ _,?_⟩;unfold Builtin.«dict.__init__»;refine wpAny_bind ?_;unfold Builtin.Dict.selfAndRest;refine wpAny_bind (wpAny_notOrdered_dict hnew.typeIs ?_);show wpAny _ _ (pure (s.heap.objs.size,[Value.ref l])) _ _ _;refine wpAny_pure ?_;show wpAny _ _ (Builtin.Dict.updateFrom "dict.__init__" s.heap.objs.size (.ref l) [] .none) _ _ _;unfold Builtin.Dict.updateFrom;have hl1:(s.heap.push { cls:=.type "dict",data:=.dict #[] }).get? l=some { cls:=.type "list",data:=.seq items n }:=Heap.get?_push_of_some _ hl
 refine wpAny_bind (wpAny_typeOf (T:="list") ⟨_,hl1,rfl⟩ ?_);rw[if_pos (by decide)]
 refine wpAny_bind (getAttr?_keys_list hl1 (by first | exact hA | (show _=none;exact hA)) λh2 tk2 k2=>?_)
 rw[if_pos (show(none:Option Value).isNone=true from rfl)]
 refine wpAny_bind (wpAny_rule ?_);have hl2:h2.get? l=some { cls:=.type "list",data:=.seq items n }:=k2 _ _ hl1;have isl2:h2.IsList l items:=⟨_,hl2,rfl,n,rfl⟩
 refine wpAny_bind (wpAny_pyIter_list isl2 ?_);refine wpAny_pure ⟨plainId_quiet z6k _,codeAny_builtin zbe ?_⟩;rw[Around.under_plainId z6k _];have hsz:s.heap.objs.size<h2.objs.size:=by
  obtain⟨o,es,ep,ho,r⟩:=hnew;exact Heap.lt_size (k2 _ _ ho)
 have hd2:(h2.push { cls:=.type "list_iterator",data:=.fields #[.ref l,.int 0 0] }).DictOf knd s.heap.objs.size []:=by
  obtain⟨o,es,ep,ho,r⟩:=hnew;exact⟨o,es,ep,Heap.get?_push_of_some _ (k2 _ _ ho),r⟩
 have old:∀b o,s.heap.get? b=some o->(h2.push { cls:=.type "list_iterator",data:=.fields #[.ref l,.int 0 0] }).get? b=some o:=λb o ho=>Heap.get?_push_of_some _ (k2 _ _ (Heap.get?_push_of_some _ ho));have low:∀b o,s.heap.get? b=some o->b<s.heap.objs.size:=λb o ho=>Heap.lt_size ho
 have llt:=low _ _ hl;refine zjz s.heap.objs.size h2.objs.size l items ps (y0t hsz) (y3i llt) (y3i (y63 llt hsz)) _ 0 [] rfl (y2d _) (by simpa using hz) A.in1 _ _ hA ⟨_,Heap.get?_push_size _ rfl,rfl,rfl⟩ (isl2.at λo ho=>Heap.get?_push_of_some _ ho) hd2 ⟨hp.1,λj p hj=>?_⟩ (λj t hj=>?_) λh3 tk hd3 k3=>?_
 ·obtain⟨t,key,g1,g2,g3⟩:=hp.2 j p hj;exact⟨t,key,g1,g2.at λo ho=>old t o ho,g3⟩
 ·have hjs:j<items.size:=(Array.getElem?_eq_some_iff.mp hj).1;obtain⟨t',key,g1,g2,g3⟩:=hp.2 j _ (y01 (show j<ps.length by rw[←hp.1];exact hjs))
  rw[hj] at g1;cases g1;obtain⟨o,ho,_⟩:=g2;have:=low _ _ ho;exact⟨y0t this,y0t (y63 this hsz)⟩
 ·refine⟨rfl,h h3 tk hd3 λb o ho=>k3 b o (y0t (low _ _ ho)) (y0t (y63 (low _ _ ho) hsz)) (old b o ho)⟩
end
end PySem
set_option Elab.async false
set_option linter.all false
set_option maxRecDepth 100000
namespace L2.EX
open PySem PySem.Spec PyProof.Rows
section
variable {X:Cx}{aa:List (Addr×Obj)}{σ:St}{H:Hp}{s:Shared}
def z3v (kvs:List (Key×V))(ps:List (Key×V)):List (Key×V):=ps.foldl (λacc p=>ziv acc p.1 p.2) kvs
theorem z8a:∀{ps:List (Key×V)} {qs:List (Key×Value)} {kvs:List (Key×V)} {vs:List (Key×Value)},KV ps qs->KV kvs vs->KV (z3v kvs ps) (z9b vs qs)
 | [],qs,kvs,vs,h,r=>by
  cases h;exact r
 | p::ps,qs,kvs,vs,h,r=>by
  cases h with
  | cons h1 h2 =>
   rename_i q qs;show KV (z3v (ziv kvs p.1 p.2) ps) (z9b (stored vs q.1 q.2) qs);rw[←h1.1];exact z8a h2 (r.put p.1 h1.2)
theorem zkv (kvs:List (Key×V))(k:Key)(v:V):(ziv kvs k v).length≤kvs.length+1:=by
 unfold ziv
 split<;>simp
theorem z8c:∀(ps kvs:List (Key×V)),(z3v kvs ps).length≤kvs.length+ps.length
 | [],kvs=>by simp[z3v]
 | p::ps,kvs=>by
  have a:=z8c ps (ziv kvs p.1 p.2);have b:=zkv kvs p.1 p.2
  show(z3v (ziv kvs p.1 p.2) ps).length≤_;simp;omega
theorem zds (I:Inv X aa σ H s):∀{ps:List (Key×V)} {ts:List Addr},ts.length=ps.length->(∀(j:Nat) t p,ts[j]?=some t->ps[j]?=some p->H t=some (.tup [kV p.1,p.2])) ->
  ∃qs:List (Key×Value),KV ps qs/\∀(j:Nat) q,qs[j]?=some q->∃t key,ts[j]?=some t/\s.heap.IsTuple t #[key,q.2]/\zd2 q.1 key=true
 | [],ts,_,_=>⟨[],.nil,λj q hj=>by simp at hj⟩
 | p::ps,[],h,_=>by simp at h
 | p::ps,t::ts,hl,h=>by
  obtain⟨qs,r,f⟩:=zds I (ps:=ps) (ts:=ts) (by simpa using hl) λj t' p' h1 h2=>h (j+1) t' p' (by simpa using h1) (by simpa using h2)
  have h0:=h 0 t p rfl rfl;obtain⟨its,rv,pt,_⟩:=I.tuple (SqT.of h0);obtain⟨u1,u2,rfl,r1,r2⟩:=rv.two;refine⟨(p.1,u2)::qs,.cons ⟨rfl,r2⟩ r,λj q hj=>?_⟩;cases j with
  | zero =>
   simp at hj;subst hj;exact⟨t,u1,rfl,pt,zkf (P:=X.prog) (w:=X.w) r1⟩
  | succ j =>
   obtain⟨t',key,g1,g2,g3⟩:=f j q (by simpa using hj)
   exact⟨t',key,by simpa using g1,g2,g3⟩
@[reducible] def zp6 (xs:List V)(H:Hp)(Q:VK):Prop:=match xs with
 | [.ref l]=>∃(ts:List Addr) (ps:List (Key×V)),H l=some (.lst (ts.map V.ref))/\ts.length=ps.length/\(∀(j:Nat) t p,ts[j]?=some t->ps[j]?=some p->H t=some (.tup [kV p.1,p.2]))/\∀d,H d=none->Q (.ref d) (upd H d (.dK (z3v [] ps)))
 | _=>False
theorem zmp (hc:X.calm=true:=by rfl):z4l X (.type "dict") zp6:=by
 intro aa s σ H xs us Q I r h;unfold zp6 at h
 split at h
 ·rename_i l;obtain⟨ts,ps,hl,hlen,ht,q⟩:=h;obtain⟨u,rfl,rx⟩:=z6t r;cases rx;obtain⟨z,its,n,rv,hll,e⟩:=I.lstM hl;obtain⟨qs,rk,f⟩:=zds I hlen ht;have hkl:=rk.length;rw[y04] at hll z;have hp:zah (z3h X.prog X.w) s.heap its.toArray qs:=⟨by rw[y0o];omega,λj p hj=>by
   obtain⟨t,key,g1,g2,g3⟩:=f j p hj;obtain⟨u,hu,ru⟩:=rv.get (i:=j) (x:=.ref t) (by rw[y05,g1];rfl)
   cases ru;exact⟨t,key,by simpa using hu,g2,g3⟩⟩
  refine z8n (knd:=z3h X.prog X.w) (I.ok.hd hc) e hp (by rw[y0o];omega) λh' tk hd kp=>?_
  have hlen2:=z8c ps [];simp at hlen2;refine⟨.ref s.heap.objs.size,_,I.laid kp (y09 _) (show ObjOk X.prog X.w _ h' _ (.dK (z3v [] ps)) from ⟨by omega,?_,_,z8a rk .nil,hd⟩),rfl,q _ (I.hok.fresh (y09 _))⟩
  exact beq_eq_false_iff_ne.mpr (y3i I.big)
 ·exact h.elim
@[reducible] def zro (x y:V)(H:Hp)(Q:VK):Prop:=match x,y with
 | .int n,.ref d=>∃kvs,H d=some (.dK kvs)/\Q (.bl (zc6 kvs (.inl n)).isSome) H
 | .str n,.ref d=>∃kvs,H d=some (.dK kvs)/\Q (.bl (zc6 kvs (.inr n)).isSome) H
 | _,_=>False
theorem hu1 {k:Nat}{A:Around}(hr:Room k A):A.units+1<cLine:=by have:=zpw hr;omega
theorem zp9 {k:Nat}(hr:Room k X.A):OpR X (compareOp .In) zro:=by
 intro aa s σ H x y v u Q I rx ry h;unfold zro at h
 split at h
 ·rename_i n d;obtain⟨kvs,hd,q⟩:=h;cases ry;exact zrh (hu1 hr) I (DGet.k (k:=.inl n) hd) rx λs3 I3=>⟨.bl _,H,I3,rfl,q⟩
 ·rename_i n d;obtain⟨kvs,hd,q⟩:=h;cases ry;exact zrh (hu1 hr) I (DGet.k (k:=.inr n) hd) rx λs3 I3=>⟨.bl _,H,I3,rfl,q⟩
 ·exact h.elim
@[reducible] def zpc (x y:V)(H:Hp)(Q:VK):Prop:=match x,y with
 | .ref d,.int n=>∃kvs v,H d=some (.dK kvs)/\zc6 kvs (.inl n)=some v/\Q v H
 | .ref d,.str n=>∃kvs v,H d=some (.dK kvs)/\zc6 kvs (.inr n)=some v/\Q v H
 | _,_=>False
theorem zmd {k:Nat}(hr:Room k X.A){o i:Expr}{td ty:TE}{pos:Pos}(ho:PE X o td)(hi:PE X i ty)(hs:zqg i):PE X (.Subscript o i pos) (tOp zpc td ty) :=
 z53 (zni (hu1 hr) (z2d ho) (z2d hi) hs) fun σ H Q h=>⟨_,h,λx H1 q1=>⟨_,q1,λy H2 q2=>by
  unfold zpc at q2
  split at q2
  ·obtain⟨kvs,v,h1,h2,h3⟩:=q2;exact⟨_,v,rfl,by rw[←h2];exact DGet.k (k:=.inl _) h1,h3⟩
  ·obtain⟨kvs,v,h1,h2,h3⟩:=q2;exact⟨_,v,rfl,by rw[←h2];exact DGet.k (k:=.inr _) h1,h3⟩
  ·exact q2.elim⟩⟩
end
end L2.EX
set_option Elab.async false
set_option linter.all false
set_option maxRecDepth 100000
namespace L2.EX
open PySem PySem.Spec PyProof.Rows
section
variable {X:Cx}{e:Expr}{te:TE}{p p2 pos pos2:Pos}
def zcx (te:TE)(σ:St)(H:Hp)(Q:VK):Prop:=te σ H λx H1=>match x with
 | .int j=>(0≤j/\j≤1000)/\∀l,H1 l=none->Q (.ref l) (upd H1 l (.lst ((y0d j.toNat).map λ(i:Nat)=>V.int (i:Int))))
 | _=>False
theorem zcp {j:Int}(h0:0≤j)(h1:j≤1000):Builtin.Range.small 0 j 1=true:=zjb (by decide) (by decide) (by omega) (by omega) (by decide) (by decide)
theorem zd8 {j:Int}(h0:0≤j):Builtin.Range.rangeSize 0 j 1=(j.toNat:Int):=by
 unfold Builtin.Range.rangeSize;rw[if_pos (by decide)]
 split
 ·have:(j - 0 - 1) / 1=j - 1:=by rw[Int.ediv_one];omega
  omega
 ·omega
theorem zc5 (hl:X.mg "list"=none)(hm:X.mg "range"=none)(he:PE X e te)(hg:Gl X "list":=by rfl)(hg2:Gl X "range":=by rfl)
  (hs:starEach [Expr.Call (.Name "range" p2) [e] [] pos2] X.env = [(false,eval (Expr.Call (.Name "range" p2) [e] [] pos2) X.env)]:=by rfl) (hs2:starEach [e] X.env = [(false,eval e X.env)]:=by rfl) (hc:X.calm=true:=by rfl) :
  PE X (.Call (.Name "list" p) [.Call (.Name "range" p2) [e] [] pos2] [] pos) (zcx te):=by
 intro aa s σ H Q I h;refine wpAny_Call_Name_kw (z6f I hg hl z5n ?_);refine y24 ?_ hs rfl;rw[hs];show wpAny _ _ (spliced [(false,eval (Expr.Call (.Name "range" p2) [e] [] pos2) X.env)]) _ _ s;refine Calls.spliced_cons ?_;refine wpAny_Call_Name_kw (z6f I hg2 hm boot_range (y24 (thn ((z00 (z2d he) z03 hs2) pos2 aa s σ H (λvs H1=>∃x,vs = [x]/\(match x with
  | .int j=>(0≤j/\j≤1000)/\∀l,H1 l=none->Q (.ref l) (upd H1 l (.lst ((y0d j.toNat).map λ(i:Nat)=>V.int (i:Int))))
  | _=>False)) I ⟨_,h,λv H1 q=>⟨v,rfl,q⟩⟩) λus s1 h1=>?_) hs2 rfl))
 obtain⟨vs,H1,I1,r1,x,rfl,q1⟩:=h1;obtain⟨u,rfl,rx⟩:=z6t r1
 split at q1
 ·rename_i j;obtain⟨t,rfl⟩:=rx;obtain⟨⟨j0,j1⟩,q⟩:=q1;refine call_range_1 ?_;refine Calls.spliced_nil ?_;have I2:Inv X aa σ H1 { s1 with heap:=s1.heap.push { cls:=.type "range",data:=.fields #[.int 0 s1.toks,.int j t,.int 1 (s1.toks+1)] },toks:=s1.toks+1+1 }:=I1.kept λb o e=>Heap.get?_push_of_some _ e
  refine call_list_range (n:=j.toNat) (I1.ok.hd hc) (Heap.get?_push_size _ rfl) (zcp j0 j1) (zd8 j0) (by omega) λh' tk acc c' hk hS hit=>?_
  refine⟨.ref _,_,I2.laid (t':=tk) hk (y09 _) (show ObjOk X.prog X.w _ h' _ (.lst ((y0d j.toNat).map λ(i:Nat)=>V.int (i:Int))) from ⟨?_,acc.toList,c',?_,by simpa using hS⟩),rfl,q _ (I2.hok.fresh (y09 _))⟩
  ·have:1000≤sizeLine:=by decide
   simp;omega
  ·refine zcc (by simp[hit.1]) λi x u hx hu=>?_
   have hil:i<j.toNat:=by
    have:=(y00.mp hx).1;simpa using this
   rw[y05,y1d hil] at hx;cases hx;obtain⟨t',ht'⟩:=hit.2 i u (by simpa using hu)
   exact⟨t',by rw[ht'];simp⟩
 ·exact q1.elim
end
end L2.EX
set_option Elab.async false
set_option linter.all false
set_option maxRecDepth 100000
namespace L2.EX
open PySem PySem.Spec PyProof.Rows
section
variable {X:Cx}
theorem z7d:∀{ns:List Int} {us:List Value},Vals (ns.map V.int) us->IntsAre us ns
 | [],us,h=>by cases h;exact .nil
 | n::ns,us,h=>by
  cases h with
  | cons h1 h2 =>
   obtain⟨t,rfl⟩:=h1;exact .cons n t (z7d h2)
theorem z7f:∀{ns:List Int} {us:List Value},IntsAre us ns->Vals (ns.map V.int) us
 | _,_,.nil=>.nil
 | _,_,.cons n t h=>.cons ⟨t,rfl⟩ (z7f h)
@[reducible] def zgt (K:y03)(xs:List V)(H:Hp)(Q:VK):Prop:=match xs with
 | [.ref l]=>∃ns:List Int,SqL K H l (ns.map V.int)/\ns.length<64/\∀ms:List Int,ms.Perm ns->ms.Pairwise (·≤·)->∀p,H p=none->Q (.ref p) (upd H p (.lst (ms.map V.int)))
 | _=>False
theorem zg1:bootBuiltins "sorted"=some (.builtin "sorted"):=boot_sorted
theorem zga:z4l X (.builtin "sorted") (zgt X.K):=by
 intro aa s σ H xs us Q I r h;unfold zgt at h
 split at h
 ·rename_i l;obtain⟨ns,hl,h64,q⟩:=h;obtain⟨u,rfl,rx⟩:=z6t r;cases rx;obtain⟨its,rv,p,hz⟩:=I.list hl;have hlen:=rv.length;rw[y04] at hlen;refine sorted_ints p.isList (z7d rv) (by omega) λout ms hI hp hs=>?_
  obtain⟨e,he⟩:=sortedAll_at s.heap its out;have hml:ms.length=ns.length:=hp.length_eq;refine⟨.ref (s.heap.objs.size+1),_,I.laid (t':=s.toks) (λb o hb=>sortedAll_old hb) (y5m _) (show ObjOk X.prog X.w _ _ _ (.lst (ms.map V.int)) from ⟨?_,out.toList,e,z7f hI,?_⟩),rfl,q ms hp hs _ (I.hok.fresh (y5m _))⟩
  ·rw[y04,hml];have:64≤sizeLine:=by decide
   omega
  ·simpa [seqObj] using he
 ·exact h.elim
end
end L2.EX
set_option Elab.async false
set_option linter.all false
set_option maxRecDepth 100000
namespace My
open PySem L2 L2.EX
theorem z8s:∀(ps kvs:List (Key×V)),(ps.map (·.1)).Nodup->(∀p∈ps,∀q∈kvs,q.1≠p.1)->z3v kvs ps=kvs++ps
 | [],kvs,_,_=>by simp[z3v]
 | p::ps,kvs,h1,h2=>by
  rw[y0n,y3d] at h1;have e:ziv kvs p.1 p.2=kvs ++ [(p.1,p.2)]:=by
   unfold ziv;rw[if_neg];rw[y1v];rintro⟨q,hq,hd⟩;exact h2 p y0h q hq (of_decide_eq_true hd)
  show z3v (ziv kvs p.1 p.2) ps=_;rw[e,z8s ps _ h1.2,y33]
  ·rfl
  ·intro p' hp' q hq;rcases y0z.mp hq with hq | hq
   ·exact h2 p' (y0b _ hp') q hq
   ·rw[y0e.mp hq];rintro e;exact h1.1 (y1i.mpr ⟨p',hp',e.symm⟩)
theorem z0i (l:List Nat):(z09 l).length=l.length:=by unfold z09;rw[y04]
theorem z75 {l:List Nat}(h:l.Nodup){e a:Nat}(he:l[e]?=some a):l.idxOf a=e:=by
 obtain⟨h1,h2⟩:=y00.mp he;rw[←h2];exact h.idxOf_getElem e h1
def z2k (hands:List Nat):List (Key×V):=(y0d hands.length).map λj=>(Sum.inl ((hands.getD j 0:Nat):Int),V.int (j:Int))
theorem zci (hands:List Nat):(z2k hands).map (·.1)=hands.map λ(h:Nat)=>(Sum.inl (h:Int):Key):=by
 unfold z2k;rw[y20];refine List.ext_getElem (by simp) λi h1 h2=>?_
 simp at h1 h2;simp[y1n,h1]
theorem zfz {hands:List Nat}(h:hands.Nodup):(hands.map λ(h:Nat)=>(Sum.inl (h:Int):Key)).Nodup:=by
 refine List.Pairwise.map _ (λa b hab e=>hab ?_) h;injection e with e
 omega
theorem zet {hands:List Nat}(h:hands.Nodup):z3v [] (z2k hands)=z2k hands:=by
 rw[z8s]
 ·simp
 ·rw[zci];exact zfz h
 ·intro p _ q hq;cases hq
def z36 (hands:List Nat)(h:Nat):Option Nat:=if h∈hands then some (hands.idxOf h) else none
theorem zgy {α:Type}{p:α->Bool}:∀{l:List α} {j:Nat} {x:α},l[j]?=some x->p x=true->(∀(m:Nat) y,m<j->l[m]?=some y->p y=false)->l.find? p=some x
 | [],_,_,h,_,_=>by simp at h
 | a::r,0,x,h,hp,_=>by
  simp at h;subst h;rw[y36,hp]
 | a::r,j+1,x,h,hp,hn=>by
  have h0:=hn 0 a (by omega) rfl
  rw[y36,h0];exact zgy (by simpa using h) hp λm y hm hy=>hn (m+1) y (by omega) (by simpa using hy)
theorem z8z {hands:List Nat}(hd:hands.Nodup)(h:Nat):zc6 (z2k hands) (.inl (h:Int))=(z36 hands h).map λj=>V.int (j:Int):=by
 have look:∀(m:Nat) y,(z2k hands)[m]?=some y->∃x,hands[m]?=some x/\y=(.inl (x:Int),.int (m:Int)):=λm y hy=>by
  unfold z2k at hy;have hm:=(y00.mp hy).1;simp at hm;rw[y05,y1d hm] at hy;simp[y1n,hm] at hy;exact⟨hands[m],y01 hm,hy.symm⟩
 unfold zc6 z36
 by_cases c:h∈hands
 ·rw[if_pos c];obtain⟨j,hj⟩:=y0a c;have hjl:=(y00.mp hj).1;have he:=(y00.mp hj).2
  have hidx:hands.idxOf h=j:=z75 hd hj;have hat:(z2k hands)[j]?=some (.inl (h:Int),.int (j:Int)):=by
   unfold z2k;rw[y05,y1d hjl];simp[y1n,hj]
  rw[zgy hat (by simp) λm y hm hy=>?_,hidx]
  ·rfl
  ·obtain⟨x,hx,rfl⟩:=look m y hy;refine decide_eq_false λe=>?_;injection e with e
   have ex:x=h:=by omega
   subst ex;have hml:=(y00.mp hx).1;have h1:=hd.idxOf_getElem m hml
   rw[(y00.mp hx).2] at h1;omega
 ·rw[if_neg c];have:(z2k hands).find? (λkv=>decide (kv.1 = .inl (h:Int)))=none:=by
   rw[y6m];intro y hy e;obtain⟨m,hm⟩:=y0a hy;obtain⟨x,hx,rfl⟩:=look m y hm;have e':=of_decide_eq_true e;injection e' with e'
   have ex:x=h:=by omega
   subst ex;exact c (y02 hx)
  rw[this];rfl
def z3g (hands:List Nat)(g:Nat)(row:List Nat):List (Nat×Nat):=row.filterMap λh=>(z36 hands h).map λp=>(g,p)
def z47 (drs:List (List Nat))(hands chores:List Nat):Nat->List (Nat×Nat)
 | 0=>[]
 | i+1=>z47 drs hands chores i++z3g hands i (drs.getD (chores.getD i 0) [])
def z0q (drs:List (List Nat))(hands chores:List Nat):List (Nat×Nat):=z47 drs hands chores chores.length
theorem za1 {hands:List Nat}{h p:Nat}(hp:z36 hands h=some p):hands[p]?=some h:=by
 unfold z36 at hp
 split at hp
 ·rename_i c;cases hp;have:=y1e c;rw[y01 this];simp
 ·cases hp
theorem place_of {hands:List Nat}(hd:hands.Nodup){h p:Nat}(hp:hands[p]?=some h):z36 hands h=some p:=by
 unfold z36;rw[if_pos (y02 hp),z75 hd hp]
theorem z89 {hands:List Nat}(hd:hands.Nodup){g:Nat}{row:List Nat}{a b:Nat}:(a,b)∈z3g hands g row↔a=g/\∃h,hands[b]?=some h/\h∈row:=by
 unfold z3g;rw[y54];constructor
 ·rintro⟨h,hr,e⟩;cases q:z36 hands h with
  | none=>rw[q] at e;cases e
  | some p =>
   rw[q] at e;cases e;exact⟨rfl,h,za1 q,hr⟩
 ·rintro⟨rfl,h,hb,hr⟩;exact⟨h,hr,by rw[place_of hd hb];rfl⟩
theorem z6n {drs:List (List Nat)}{hands chores:List Nat}(hd:hands.Nodup){a b:Nat}:∀{i:Nat},(a,b)∈z47 drs hands chores i↔a<i/\∃h,hands[b]?=some h/\h∈drs.getD (chores.getD a 0) []
 | 0=>by simp[z47]
 | i+1=>by
  rw[z47,y0z,z6n hd,z89 hd];constructor
  ·rintro(⟨h1,h2⟩ | ⟨rfl,h2⟩)
   ·exact⟨by omega,h2⟩
   ·exact⟨by omega,h2⟩
  ·rintro⟨h1,h2⟩
   by_cases c:a=i
   ·subst c;exact .inr ⟨rfl,h2⟩
   ·exact .inl ⟨by omega,h2⟩
theorem z2c {drs:List (List Nat)}{hands chores:List Nat}(hd:hands.Nodup):PM.TiesOk (λc=>drs.getD c []) hands chores (z0q drs hands chores):=λg t=>by
 unfold z0q;rw[z6n hd];constructor
 ·rintro⟨h1,h,h2,h3⟩;exact⟨chores.getD g 0,h,PM.get_of_lt h1,h2,h3⟩
 ·rintro⟨c,h,h1,h2,h3⟩;refine⟨(y00.mp h1).1,h,h2,?_⟩;rw[PM.getD_of h1];exact h3
theorem zch (hands:List Nat)(g:Nat)(row:List Nat):(z3g hands g row).length≤row.length:=List.length_filterMap_le _ _
theorem z7g (hands:List Nat)(g h:Nat)(row:List Nat):z3g hands g (row ++ [h])=z3g hands g row++(match z36 hands h with | some p=>[(g,p)] | none=>[]):=by
 unfold z3g;rw[List.filterMap_append];congr 1;cases q:z36 hands h<;>simp[q]
def z5j (hands chores:List Nat):PyData:=.tuple [z3x hands,z3x chores]
def z3z (drs:List (List Nat)):PyData:=.list (drs.map z3x)
theorem is_crowd {K:y03}{H:Hp}{v:V}{hands chores:List Nat}:Is K H v (z5j hands chores)↔∃a b c,v = .ref a/\H a=some (.tup [.ref b,.ref c])/\H b=some (.lst (z09 hands))/\H c=some (.lst (z09 chores)):=by
 unfold z5j z3x;constructor
 ·intro h;obtain⟨a,xs,rfl,ha,al⟩:=is_tuple.mp h;simp only[IsAll] at al;obtain⟨v1,vs1,rfl,q1,v2,vs2,rfl,q2,rfl⟩:=al;obtain⟨b,ys,rfl,hb,al1⟩:=is_list.mp q1;obtain⟨c,zs,rfl,hc,al2⟩:=is_list.mp q2;rw[z6o al1] at hb;rw[z6o al2] at hc;exact⟨a,b,c,rfl,ha,hb,hc⟩
 ·rintro⟨a,b,c,rfl,ha,hb,hc⟩;exact is_tuple.mpr ⟨a,_,rfl,ha,z1o (is_list.mpr ⟨b,_,rfl,hb,z3o _⟩) (z50 (is_list.mpr ⟨c,_,rfl,hc,z3o _⟩))⟩
structure AsksC (K:y03)(H:Hp)(aw ad:Addr)(ws:List Int)(drs:List (List Nat)):Prop where
 w:H aw=some (.lst (ws.map V.int))
 d:Is K H (.ref ad) (z3z drs)
 len:drs.length=ws.length
 few:ws.length≤20
 row:∀r∈drs,r.length≤20
 pos:∀x∈ws,1≤x
 bd:∀x∈ws,Bd 300 x
theorem AsksC.same {K:y03}{H H':Hp}{aw ad:Addr}{ws:List Int}{drs:List (List Nat)}(t:AsksC K H aw ad ws drs)(s:Same H H'):AsksC K H' aw ad ws drs:=⟨s _ _ t.w,Is.same s _ _ t.d,t.len,t.few,t.row,t.pos,t.bd⟩
theorem zjp {drs:List (List Nat)}(h:∀r∈drs,r.length≤20)(k:Nat):(drs.getD k []).length≤20:=by
 by_cases z:k<drs.length
 ·have e:drs.getD k []=drs[k]:=by simp[y1n,y01 z]
  rw[e];exact h _ (y39 z)
 ·have e:drs.getD k [] = []:=by simp[y1n,y0w (show drs.length≤k by omega)]
  rw[e];simp
theorem z6p {drs:List (List Nat)}{hands chores:List Nat}(h:∀r∈drs,r.length≤20):∀i,(z47 drs hands chores i).length≤i*20
 | 0=>by simp[z47]
 | i+1=>by
  have a:=z6p (hands:=hands) (chores:=chores) h i;have b:=zch hands i (drs.getD (chores.getD i 0) [])
  have c:=zjp h (chores.getD i 0);rw[z47,y0c];omega
def z55 (ws:List Int)(chores:List Nat):Int:=(chores.map λc=>ws.getD c 0).sum
def zeb (K:y03):Sp:=λvs H Q _=>∃(aw:Addr) (vc:V) (ws:List Int) (hands chores:List Nat),vs = [.ref aw,vc]/\H aw=some (.lst (ws.map V.int))/\Is K H vc (z5j hands chores)/\chores.length≤20/\(∀c∈chores,c<ws.length)/\∀H',Same H H'->Q (.int (z55 ws chores)) H'
structure CrowdOk (n m:Nat)(hands chores:List Nat):Prop where
 nd:hands.Nodup
 hl:hands.length≤20
 cl:chores.length≤20
 ci:∀c∈chores,c<n
def z0t (ws:List Int)(hands chores:List Nat):List Int:=chores.map λc=>ws.getD c 0*(hands.length:Int)
def takesIn (ws:List Int)(hands chores:List Nat):List Int:=y08 hands.length (z55 ws chores)
def za2 (K:y03):Sp:=λvs H Q _=>∃(aw ad:Addr) (vc:V) (ws:List Int) (drs:List (List Nat)) (hands chores:List Nat),vs = [.ref aw,.ref ad,vc]/\AsksC K H aw ad ws drs/\Is K H vc (z5j hands chores)/\CrowdOk ws.length 0 hands chores /\
 zq1 H Q (z0t ws hands chores) (takesIn ws hands chores) (z0q drs hands chores) λ_ _=>True
def pick {α:Type}(xs:List α)(bs:List Bool)(w:Bool):List α:=((xs.zip bs).filter λp=>p.2==w).map (·.1)
theorem z8w {α:Type}{xs:List α}{bs:List Bool}{i:Nat}{x:α}{b w:Bool}(h1:xs[i]?=some x)(h2:bs[i]?=some b):pick (xs.take (i+1)) (bs.take (i+1)) w=pick (xs.take i) (bs.take i) w++(if b=w then [x] else []):=by
 unfold pick;have e1:(xs.take i).length=(bs.take i).length:=by
  have:=(y00.mp h1).1;have:=(y00.mp h2).1
  rw[y0x,y0x];omega
 rw[z0l h1,z0l h2,y4z e1,y2g,y0f];congr 1
 by_cases c:b=w<;>simp[c]
def ze0 (K:y03):Sp:=λvs H Q _=>∃(ax ab:Addr) (xs:List Nat) (bs:List Bool) (w:Bool),vs = [.ref ax,.ref ab,.bl w]/\H ax=some (.lst (z09 xs))/\H ab=some (.lst (bs.map V.bl))/\xs.length=bs.length/\xs.length≤20/\∀l H',H l=none->Same H H'->H' l=some (.lst (z09 (pick xs bs w)))->Q (.ref l) H'
def z2u (c:PM.Cr):PyData:=z5j c.1 c.2
def z3e (ws:List Int)(c:Nat):Int:=if c<ws.length then ws.getD c 0 else 1
def z2r (drs:List (List Nat))(c:Nat):List Nat:=drs.getD c []
structure DoOk (ws:List Int)(drs:List (List Nat))(many:Nat):Prop where
 few:many≤20
 some:∀c<ws.length,z2r drs c ≠ []
 lt:∀c<ws.length,∀h∈z2r drs c,h<many
theorem zdr {ws:List Int}(h:∀x∈ws,1≤x)(c:Nat):0<z3e ws c:=by
 unfold z3e
 split
 ·rename_i hc;have:=h _ (y02 (z1d hc));omega
 ·decide
theorem z8x {xs:List Nat}{bs:List Bool}{f:Nat->Bool}(hl:xs.length=bs.length)(h:∀(i x:Nat),xs[i]?=some x->bs[i]?=some (f x)):pick xs bs true=xs.filter f/\pick xs bs false=xs.filter λx=>!f x:=by
 have key:∀(i:Nat) (w:Bool),i≤xs.length->pick (xs.take i) (bs.take i) w=(xs.take i).filter λx=>f x==w:=by
  intro i w
  induction i with
  | zero=>intro _;simp[pick]
  | succ i ih =>
   intro hi;have hx:xs[i]?=some xs[i]:=y01 (by omega)
   rw[z8w hx (h i _ hx),ih (by omega),z0l hx,y2g]
   congr 1
   by_cases c:f xs[i]=w<;>simp[c]
 have k1:=key xs.length true (y09 _);have k2:=key xs.length false (y09 _)
 rw[y07 (y09 _),y07 (by omega)] at k1 k2
 refine⟨?_,?_⟩
 ·rw[k1];exact y5h λx _=>by simp
 ·rw[k2];exact y5h λx _=>by simp
theorem z2e {l:List Nat}(h:l.Pairwise (· < ·)):l.Nodup:=h.imp λh=>y0t h
section
variable {ws:List Int}{drs:List (List Nat)}{c:PM.Cr}{sent spare steps:List Int}
theorem zid (hh:c.1.Pairwise (· < ·))(hc:c.2.Pairwise (· < ·))(hi:∀x∈c.2,x<ws.length)
  (D:PM.Done (z2y (z0t ws c.1 c.2).length (takesIn ws c.1 c.2).length (z0q drs c.1 c.2)) (z0t ws c.1 c.2++takesIn ws c.1 c.2) sent spare steps) :
  ∃nc nh:Nat->Bool,PM.Cut (z3e ws) (z2r drs) c.1 c.2 c.1.length (PM.tot (z3e ws) c) nc nh/\(∀(i x:Nat),c.2[i]?=some x->((z3y steps).take (z0t ws c.1 c.2).length)[i]?=some (nc x))/\(∀(i x:Nat),c.1[i]?=some x->((z3y steps).drop (z0t ws c.1 c.2).length)[i]?=some (nh x)):=by
 have gl:(z0t ws c.1 c.2).length=c.2.length:=by unfold z0t;simp
 have tl:(takesIn ws c.1 c.2).length=c.1.length:=by unfold takesIn;simp
 rw[gl,tl] at D;rw[gl];have n1:=z2e hh;have n2:=z2e hc
 have ll:steps.length=c.2.length+c.1.length:=D.st.len;have nl:(z3y steps).length=c.2.length+c.1.length:=by unfold z3y;rw[y04];exact ll
 have ew:∀x∈c.2,ws.getD x 0=z3e ws x:=λx hx=>by
  unfold z3e;rw[if_pos (hi x hx)]
 have etot:z55 ws c.2=PM.tot (z3e ws) c:=by
  unfold z55 PM.tot;rw[y0r ew]
 have eg:z0t ws c.1 c.2++takesIn ws c.1 c.2=c.2.map (λx=>z3e ws x*(c.1.length:Int))++y08 c.1.length (PM.tot (z3e ws) c):=by
  unfold z0t takesIn;rw[etot];congr 1;exact y0r λx hx=>by rw[ew x hx]
 rw[eg] at D;have hok:PM.TiesOk (z2r drs) c.1 c.2 (z0q drs c.1 c.2):=z2c n1;have hb:∀p∈z0q drs c.1 c.2,p.1<c.2.length/\p.2<c.1.length:=λp hp=>by
  obtain⟨g,t⟩:=p;obtain⟨x,h,g1,g2,_⟩:=(hok g t).mp hp;exact⟨(y00.mp g1).1,(y00.mp g2).1⟩
 refine⟨λx=>PM.nr steps (c.2.idxOf x),λh=>PM.nr steps (c.2.length+c.1.idxOf h),?_,λi x hx=>?_,λi x hx=>?_⟩
 ·refine PM.cut_of (ties:=z0q drs c.1 c.2) hok (zag hb) D (λi x hx=>by rw[z75 n2 hx]) (λi x hx=>by rw[z75 n1 hx]) ?_
  have e1:(c.1.map λ_=>PM.tot (z3e ws) c).sum=(c.1.length:Int)*PM.tot (z3e ws) c:=by
   generalize PM.tot (z3e ws) c=W
   induction c.1 with
   | nil=>simp
   | cons a r ih=>simp[ih];rw[y7d];omega
  rw[e1];unfold PM.tot;rw[PM.mul_sum];congr 1;exact y0r λx _=>y1k _ _
 ·have hil:=(y00.mp hx).1;show _=some (PM.nr steps (c.2.idxOf x));rw[List.getElem?_take,if_pos hil,z75 n2 hx];have e:=ze7 (steps:=steps) (e:=i) (by omega)
  rw[←e,y01 (by omega)]
  simp[y1n,y01 (show i<(z3y steps).length by omega)]
 ·have hil:=(y00.mp hx).1;show _=some (PM.nr steps (c.2.length+c.1.idxOf x));rw[y56,z75 n1 hx];have e:=ze7 (steps:=steps) (e:=c.2.length+i) (by omega)
  rw[←e,y01 (by omega)]
  simp[y1n,y01 (show c.2.length+i<(z3y steps).length by omega)]
end
def znr (ws:List Int)(drs:List (List Nat))(c:PM.Cr):Prop:=PM.Hi (z3e ws) (z2r drs) c (PM.tot (z3e ws) c) c.1.length
theorem zm0 {ws:List Int}{drs:List (List Nat)}{c:PM.Cr}{nc nh:Nat->Bool}(C:PM.Cut (z3e ws) (z2r drs) c.1 c.2 c.1.length (PM.tot (z3e ws) c) nc nh)(hn:∀h∈c.1,nh h=false)(own:∀x∈c.2,∃h∈c.1,h∈z2r drs x):znr ws drs c:=by
 have h:=C.hi_rest;have e:PM.restOf c nc nh=c:=by
  unfold PM.restOf;have e1:(c.1.filter λh=>!nh h)=c.1:=y6b.mpr λh hh=>by rw[hn h hh];rfl
  have e2:(c.2.filter λx=>!nc x)=c.2:=y6b.mpr λx hx=>by
   obtain⟨h,h1,h2⟩:=own x hx;cases q:nc x with
   | false=>rfl
   | true =>
    have:=C.up x hx h h1 h2 q;rw[hn h h1] at this;cases this
  rw[e1,e2]
 rw[e] at h;exact h
def zdx (K:y03):Sp:=λvs H Q _=>∃(aw ad:Addr) (many:Nat) (ws:List Int) (drs:List (List Nat)),vs = [.ref aw,.ref ad,.int (many:Int)]/\AsksC K H aw ad ws drs/\DoOk ws drs many /\
 ∀L:List PM.Cr,(many=0->L = [])->(0<many->PM.Crowds (z3e ws) (z2r drs) many ws.length L)->(∀c∈L,znr ws drs c)->Res K H Q (.list (L.map z2u))
theorem zbb {ws:List Int}{drs:List (List Nat)}{many:Nat}(D:DoOk ws drs many)(h0:0<many):PM.Crowds (z3e ws) (z2r drs) many ws.length [(y0d many,y0d ws.length)]:=by
 refine⟨λi x y hx hy=>?_,λc hc=>?_,λc hc x hx=>?_,λi c hc x hx h hh=>?_,λh=>?_,λx=>?_,λc hc=>?_,λc hc=>?_⟩
 ·have:=(y00.mp hy).1;simp at this
 ·rw[y0e.mp hc];intro e;have e':y0d many = []:=e;have:(y0d many).length=0:=by rw[e'];rfl
  simp at this;omega
 ·rw[y0e.mp hc] at hx ⊢
  have hx':x<ws.length:=y1j.mp hx;obtain⟨h,r,e⟩:=y52 (D.some x hx');have hm:h∈z2r drs x:=by rw[e];exact y0h
  exact⟨h,y1j.mpr (D.lt x hx' h hm),hm⟩
 ·have hi:=(y00.mp hc).1;simp at hi;subst hi;simp at hc;subst hc;have hx':x<ws.length:=y1j.mp hx
  exact⟨0,_,y09 _,rfl,y1j.mpr (D.lt x hx' h hh)⟩
 ·simp[y4o]
 ·simp[y4o]
 ·rw[y0e.mp hc];exact y48
 ·rw[y0e.mp hc];exact y48
def z7o (H:Hp)(a b:Addr):Hp:=del (del H a) b
theorem z6h {H H':Hp}{a b:Addr}(s:Same H H'):Same (z7o H a b) (z7o H' a b):=z57 (z57 s)
theorem z67 {H:Hp}{a b:Addr}:Same (z7o H a b) H:=del_sub.trans del_sub
theorem z42 {H:Hp}{a b x:Addr}(h1:x≠a)(h2:x≠b):z7o H a b x=H x:=by unfold z7o;rw[z9c h2,z9c h1]
theorem ze9 {H:Hp}{a b:Addr}:del (del H a) b=del (del H b) a:=by
 funext x;unfold del
 split<;>split<;>rfl
theorem z83 {H:Hp}{a b:Addr}{o:HO}:z7o (upd H a o) a b=z7o H a b:=by unfold z7o;rw[z3i]
theorem z4w {H:Hp}{a b:Addr}{o:HO}:z7o (upd H b o) a b=z7o H a b:=by unfold z7o;rw[ze9,z3i,ze9]
structure Two (K:y03)(H H':Hp)(a b:Addr)(vs us:List V)(ds es:List PyData):Prop where
 ne:a≠b
 old:Same H (z7o H' a b)
 h1:H' a=some (.lst vs)
 h2:H' b=some (.lst us)
 a1:IsAll K (z7o H' a b) vs ds
 a2:IsAll K (z7o H' a b) us es
section
variable {K:y03}{H H' H'':Hp}{a b:Addr}{vs us:List V}{ds es:List PyData}
theorem Two.same (t:Two K H H' a b vs us ds es):Same H H':=t.old.trans z67
theorem Two.more (t:Two K H H' a b vs us ds es)(s:Same H' H''):Two K H H'' a b vs us ds es:=⟨t.ne,t.old.trans (z6h s),s _ _ t.h1,s _ _ t.h2,IsAll.same (z6h s) _ _ t.a1,IsAll.same (z6h s) _ _ t.a2⟩
theorem Two.set1 (t:Two K H H' a b vs us ds es){ws:List V}{fs:List PyData}(h:IsAll K (z7o H' a b) ws fs):Two K H (upd H' a (.lst ws)) a b ws us fs es:=⟨t.ne,by rw[z83];exact t.old,z01,by rw[z0a t.ne.symm];exact t.h2,by rw[z83];exact h,by rw[z83];exact t.a2⟩
theorem Two.set2 (t:Two K H H' a b vs us ds es){ws:List V}{fs:List PyData}(h:IsAll K (z7o H' a b) ws fs):Two K H (upd H' b (.lst ws)) a b vs ws ds fs:=⟨t.ne,by rw[z4w];exact t.old,by rw[z0a t.ne];exact t.h1,z01,by rw[z4w];exact t.a1,by rw[z4w];exact h⟩
theorem Two.crowd (t:Two K H H' a b vs us ds es){c x y:Addr}{hands chores:List Nat}(hx:x≠a/\x≠b)(hy:y≠a/\y≠b)(h0:H' c=some (.tup [.ref x,.ref y]))(h1:H' x=some (.lst (z09 hands)))(h2:H' y=some (.lst (z09 chores))):Is K (z7o H' a b) (.ref c) (z5j hands chores):=by
 have n1:c≠a:=λz=>by rw[z,t.h1] at h0;cases h0
 have n2:c≠b:=λz=>by rw[z,t.h2] at h0;cases h0
 exact is_crowd.mpr ⟨c,x,y,rfl,by rw[z42 n1 n2];exact h0,by rw[z42 hx.1 hx.2];exact h1,by rw[z42 hy.1 hy.2];exact h2⟩
end
def zbm (U:List PM.Cr):Nat:=(U.map λc=>2*c.1.length - 1).sum
theorem z8j:∀{l:List Nat} {k n:Nat},l.Pairwise (· < ·)->(∀x∈l,k≤x)->(∀x∈l,x<n)->l ≠ []->k+l.length≤n
 | [],_,_,_,_,_,h=>absurd rfl h
 | x::r,k,n,h,hk,hn,_=>by
  rw[y45] at h;have h1:=hk x y0h;have h2:=hn x y0h
  by_cases c:r = []
  ·subst c;simp;omega
  ·have ih:=z8j (l:=r) (k:=k+1) (n:=n) h.2 (λy hy=>by have:=h.1 y hy;omega) (λy hy=>hn y (y0b _ hy)) c
   rw[y1f];omega
theorem z26 {l:List Nat}{n:Nat}(h:l.Pairwise (· < ·))(hb:∀x∈l,x<n):l.length≤n:=by
 by_cases c:l = []
 ·subst c;simp
 ·have:=z8j (k:=0) h (λ_ _=>y2d _) hb c;omega
theorem zho {l:List Nat}{n:Nat}(hn:l.Nodup)(hb:∀x∈l,x<n):l.length≤n:=by
 have p:(l.mergeSort (λa b=>decide (a≤b))).Perm l:=List.mergeSort_perm l _;have sr:(l.mergeSort (λa b=>decide (a≤b))).Pairwise (λa b=>decide (a≤b)=true):=List.pairwise_mergeSort (λa b c h1 h2=>by simp at h1 h2 ⊢;omega) (λa b=>by simp;omega) l
 have nd:=p.nodup_iff.mpr hn;have rs:(l.mergeSort (λa b=>decide (a≤b))).Pairwise (· < ·):=(sr.and nd).imp λh=>by
  have:=of_decide_eq_true h.1;have:=h.2
  omega
 have:=z26 rs λx hx=>hb x (p.mem_iff.mp hx);rw[p.length_eq] at this;exact this
theorem z70 {ws:List Int}{drs:List (List Nat)}{many chores:Nat}{L:List PM.Cr}(C:PM.Crowds (z3e ws) (z2r drs) many chores L)(hm:many≤20:=by assumption):L.length≤20:=by
 have key:∀(L:List PM.Cr),(∀c∈L,c.1 ≠ [])->L.length≤(L.map λc=>c.1.length).sum:=by
  intro L
  induction L with
  | nil=>intro _;simp
  | cons c r ih =>
   intro h;have a:=ih λd hd=>h d (y0b _ hd);have b:=y0v.mpr (h c y0h)
   simp;omega
 have a:=key L C.ne;have tot:∀(L:List PM.Cr),(∀h:Nat,(L.map λc=>c.1.count h).sum≤if h<many then 1 else 0)->(L.map λc=>c.1.length).sum≤many:=by
  intro L hL;have e:(L.map λc=>c.1.length).sum=(L.flatMap λc=>c.1).length:=by rw[List.length_flatMap]
  rw[e];have cnt:∀h,(L.flatMap λc=>c.1).count h=(L.map λc=>c.1.count h).sum:=λh=>by rw[y57];rfl
  have nd:(L.flatMap λc=>c.1).Nodup:=y4p.mpr λh=>by
   rw[cnt];have:=hL h
   split at this<;>omega
  have lt:∀h∈L.flatMap λc=>c.1,h<many:=λh hh=>by
   have p:=y3f.mpr hh;rw[cnt] at p;have:=hL h
   split at this<;>omega
  exact zho nd lt
 have b:=tot L λh=>by rw[C.hs h];exact y09 _
 omega
theorem z9h:∀{l:List Nat} {x:Nat},x∈l->x≤l.sum
 | [],_,h=>by cases h
 | y::r,x,h=>by
  rw[y0s];rcases y0m.mp h with rfl | h
  ·omega
  ·have:=z9h h;omega
structure LayOk (ws:List Int)(L:List PM.Cr)(ps:List (Int×Int)):Prop where
 len:ps.length=L.length
 at_:∀(i:Nat) c p,L[i]?=some c->ps[i]?=some p->Low p/\p.1*(c.1.length:Int)=PM.tot (z3e ws) c*p.2
structure CrOk (ws:List Int)(drs:List (List Nat))(many:Nat)(L:List PM.Cr):Prop where
 none:many=0->L = []
 cr:0<many->PM.Crowds (z3e ws) (z2r drs) many ws.length L
 rst:∀c∈L,znr ws drs c
theorem CrOk.lt {ws:List Int}{drs:List (List Nat)}{many:Nat}{L:List PM.Cr}(C:CrOk ws drs many L){c:PM.Cr}(hc:c∈L):(∀h∈c.1,h<many)/\(∀x∈c.2,x<ws.length)/\c.1 ≠ []/\c.1.Pairwise (· < ·)/\c.2.Pairwise (· < ·):=by
 have h0:0<many:=by
  rcases y2f many with z | z
  ·rw[C.none z] at hc;cases hc
  ·exact z
 have K:=C.cr h0;obtain⟨i,hi⟩:=y0a hc;have one:∀(f:PM.Cr->Nat),f c≤(L.map f).sum:=λf=>by
  have:f c∈L.map f:=y1i.mpr ⟨c,hc,rfl⟩;exact z9h this
 refine⟨λh hh=>?_,λx hx=>?_,K.ne c hc,K.hr c hc,K.cr c hc⟩
 ·have a:=one λc=>c.1.count h;rw[K.hs h] at a;have b:=y3f.mpr hh
  by_cases z:h<many
  ·exact z
  ·rw[if_neg z] at a;omega
 ·have a:=one λc=>c.2.count x;rw[K.cs x] at a;have b:=y3f.mpr hx
  by_cases z:x<ws.length
  ·exact z
  ·rw[if_neg z] at a;omega
theorem CrOk.few {ws:List Int}{drs:List (List Nat)}{many:Nat}{L:List PM.Cr}(C:CrOk ws drs many L)(hm:many≤20):L.length≤20:=by
 rcases y2f many with z | z
 ·rw[C.none z];simp
 ·exact z70 (C.cr z) hm
structure LoadOk (many:Nat)(L:List PM.Cr)(ps qs:List (Int×Int)):Prop where
 len:qs.length=many
 at_:∀(i:Nat) c p,L[i]?=some c->ps[i]?=some p->∀h∈c.1,qs[h]?=some p
theorem z8b {K:y03}{H:Hp}{v:V}{d:PyData}(h:Is K H v d):∀n,IsAll K H (y08 n v) (y08 n d)
 | 0=>z0p
 | n+1=>by
  rw[y1t,y1t];exact z1o h (z8b h n)
theorem z60 {K:y03}{H:Hp}:∀{ds:List PyData} {xs:List V} {i:Nat} {v:V} {d:PyData},IsAll K H xs ds->Is K H v d->IsAll K H (xs.set i v) (ds.set i d)
 | [],xs,i,v,d,h,_=>by
  simp only[IsAll] at h;subst h;exact z0p
 | e::ds,xs,i,v,d,h,hv=>by
  simp only[IsAll] at h;obtain⟨u,us,rfl,q,al⟩:=h;cases i with
  | zero=>exact z1o hv al
  | succ i=>exact z1o q (z60 al hv)
def RowsOk (n many:Nat)(drs:List (List Nat)):Prop:=drs.length=n/\∀r∈drs,r ≠ []/\r.Pairwise (· < ·)/\∀h∈r,h<many
theorem RowsOk.doOk {n many:Nat}{drs:List (List Nat)}{ws:List Int}(h:RowsOk n many drs)(hw:ws.length=n)(hm:many≤20):DoOk ws drs many:=by
 have look:∀c<ws.length,z2r drs c∈drs:=λc hc=>by
  have hc':c<drs.length:=by rw[h.1];omega
  have e:z2r drs c=drs[c]:=by unfold z2r;simp[y1n,y01 hc']
  rw[e];exact y39 hc'
 exact⟨hm,λc hc=>(h.2 _ (look c hc)).1,λc hc=>(h.2 _ (look c hc)).2.2⟩
theorem RowsOk.row {n many:Nat}{drs:List (List Nat)}(h:RowsOk n many drs)(hm:many≤20):∀r∈drs,r.length≤20:=λr hr=>y13 (z26 (h.2 r hr).2.1 (h.2 r hr).2.2) hm
theorem z9x (ds:List PyData):PyData.eqv (.list ds) (.list [])=ds.isEmpty:=by
 cases ds with
 | nil=>exact z58 (z3j (n:=59) λd hd=>by cases hd)
 | cons d ds=>simp[PyData.eqv,PyData.eqvAll]
def RowOk (many:Nat)(r:List Nat):Prop:=r.Pairwise (· < ·)/\∀h∈r,h<many
theorem RowOk.add {k many:Nat}{r:List Nat}(h:r.Pairwise (· < ·)/\∀x∈r,x<k):(r ++ [k]).Pairwise (· < ·)/\∀x∈r ++ [k],x<k+1:=by
 refine⟨List.pairwise_append.mpr ⟨h.1,y5o _ _,λx hx y hy=>?_⟩,λx hx=>?_⟩
 ·rw[y0e.mp hy];exact h.2 x hx
 ·rcases y0z.mp hx with hx | hx
  ·have:=h.2 x hx;omega
  ·rw[y0e.mp hx];omega
end My
set_option Elab.async false
set_option linter.all false
set_option maxRecDepth 100000
namespace My
open PySem L2 L2.EX
section
variable {ws:List Int}{drs:List (List Nat)}{many:Nat}{L:List PM.Cr}{ps:List (Int×Int)}
theorem LayOk.falls (lo:LayOk ws L ps)(co:CrOk ws drs many L)(hp:∀x∈ws,1≤x){i:Nat}{c d:PM.Cr}{p q:Int×Int}(hc:L[i]?=some c)(hd:L[i+1]?=some d)(h1:ps[i]?=some p)(h2:ps[i+1]?=some q):q.1*p.2<p.1*q.2:=by
 have h0:0<many:=by
  rcases y2f many with z | z
  ·rw[co.none z] at hc;simp at hc
  ·exact z
 have f:=PM.Crowds.fall (zdr hp) (co.cr h0) hc hd;obtain⟨lp,ep⟩:=lo.at_ i c p hc h1;obtain⟨lq,eq⟩:=lo.at_ (i+1) d q hd h2;have nc:=y0v.mpr (co.lt (y02 hc)).2.2.1
 have nd:=y0v.mpr (co.lt (y02 hd)).2.2.1;have p2:=lp.1
 have q2:=lq.1;have m:0<p.2*q.2:=y3m (by omega) (by omega)
 have a:=y3n f m;have e1:PM.tot (z3e ws) d*(c.1.length:Int)*(p.2*q.2)=(q.1*p.2)*((c.1.length:Int)*d.1.length):=by grind
 have e2:PM.tot (z3e ws) c*(d.1.length:Int)*(p.2*q.2)=(p.1*q.2)*((c.1.length:Int)*d.1.length):=by grind
 rw[e1,e2] at a;exact y53 a (y29 (by omega) (by omega))
def z5v (L:List PM.Cr)(i:Nat):List Nat:=(L.take i).flatMap (·.1)
def z68 (L:List PM.Cr)(i:Nat):List Nat:=(L.take i).flatMap (·.2)
theorem z5g (co:CrOk ws drs many L)(h0:0<many):(z5v L L.length).Perm (y0d many):=by
 rw[y6c];intro h;unfold z5v;rw[y07 (y09 _),y57,y4o];exact(co.cr h0).hs h
theorem z5r (co:CrOk ws drs many L)(h0:0<many):(z68 L L.length).Perm (y0d ws.length):=by
 rw[y6c];intro h;unfold z68;rw[y07 (y09 _),y57,y4o];exact(co.cr h0).cs h
end
theorem zdk (l:List Nat):Sh 60 (z3x l):=(z3j (n:=0) λd hd=>by
 obtain⟨x,_,rfl⟩:=y1i.mp hd;exact z6l _).le (by decide)
theorem zj8 {n:Nat}{τ:St}{Q:VK}{H:Hp}(hn:n≤20)(hd:∀l,H l=none->Q (.ref l) (upd H l (.lst (z09 (y0d n))))):z4x (Itr 0 n) (z41 0) zj1 (xV 0) (none :: τ) Q H:=by
 refine z6u (λi ys H2=>H2=H/\ys=z09 (y0d i)) ⟨rfl,rfl⟩ (z0h (by omega)) ?_ ?_ ?_
 ·rintro i ys H2 hi ⟨rfl,rfl⟩;rw[z0i,y1z];omega
 ·rintro i ys H2 hi ⟨rfl,rfl⟩;dsimp only[z41,zj1,xV,sg,y7r];refine z6m (CNx.mk ⟨rfl,?_⟩ hi);rw[y3o,show(0:Int)+(i:Int)=(i:Int) by omega]
  unfold z09;rw[y0f];rfl
 ·rintro ys H2 ⟨rfl,rfl⟩ l hl';exact hd l hl'
end My
set_option Elab.async false
set_option linter.all false
set_option maxRecDepth 100000
namespace My
open PySem L2 L2.EX
end My
set_option linter.all false
namespace PM
theorem sum_leI {α:Type}{f g:α->Int}:∀{l:List α},(∀x∈l,f x≤g x)->(l.map f).sum≤(l.map g).sum
 | [],_=>y2e _
 | x::r,h=>by
  rw[y0n,y0n,y0s,y0s];have a:=h x y0h;have b:=sum_leI λy hy=>h y (y0b x hy)
  omega
theorem sum_mulR {α:Type}(f:α->Int)(k:Int):∀l:List α,(l.map f).sum*k=(l.map λx=>f x*k).sum
 | []=>by simp
 | x::r=>by rw[y0n,y0n,y0s,y0s,y7d,sum_mulR f k r]
theorem sum_eqI {α:Type}{f g:α->Int}:∀{l:List α},(∀x∈l,f x≤g x)->(l.map g).sum≤(l.map f).sum->∀x∈l,f x=g x
 | [],_,_,x,hx=>by cases hx
 | y::r,h,k,x,hx=>by
  rw[y0n,y0n,y0s,y0s] at k;have a:=h y y0h;have b:=sum_leI λz hz=>h z (y0b y hz)
  rcases y0m.mp hx with rfl | hx
  ·omega
  ·exact sum_eqI (λz hz=>h z (y0b y hz)) (by omega) x hx
def SH (many:Nat)(T:Nat->Bool)(x:Nat->Int):Int:=((y0d many).map λh=>if T h then x h else 0).sum
def IW (wk:Nat->Int)(dr:Nat->List Nat)(chores:Nat)(T:Nat->Bool):Int:=((y0d chores).map λk=>if (dr k).all T then wk k else 0).sum
structure Sol (wk:Nat->Int)(dr:Nat->List Nat)(many chores:Nat)(M:Int)(L:List Cr)(x:Nat->Int):Prop where
 hp:(L.flatMap (·.1)).Perm (y0d many)
 cp:(L.flatMap (·.2)).Perm (y0d chores)
 hi:∀c∈L,Hi wk dr c (tot wk c) c.1.length
 ne:∀c∈L,c.1 ≠ []
 eq:∀c∈L,∀h∈c.1,x h*c.1.length=tot wk c*M
 up:∀(i:Nat) c,L[i]?=some c->∀k∈c.2,∀h∈dr k,∃(j:Nat) (d:Cr),j≤i/\L[j]?=some d/\h∈d.1
 fall:∀(i:Nat) c d,L[i]?=some c->L[i+1]?=some d->∀h∈c.1,∀g∈d.1,x g<x h
 wp:∀k,0<wk k
 mp:0<M
section
variable {wk:Nat->Int}{dr:Nat->List Nat}{many chores:Nat}{M:Int}{L L':List Cr}{x x':Nat->Int}
theorem Sol.len (S:Sol wk dr many chores M L x){c:Cr}(hc:c∈L):(0:Int)<c.1.length:=by
 have:=y0v.mpr (S.ne c hc);omega
theorem Sol.same (S:Sol wk dr many chores M L x){c:Cr}(hc:c∈L){h g:Nat}(hh:h∈c.1)(hg:g∈c.1):x h=x g:=by
 have a:=S.eq c hc h hh;have b:=S.eq c hc g hg
 exact y1l (by have:=S.len hc;omega) (a.trans b.symm)
theorem Sol.falls (S:Sol wk dr many chores M L x):∀(n i:Nat) {c d:Cr},L[i]?=some c->L[i+n]?=some d->∀h∈c.1,∀g∈d.1,x g≤x h
 | 0,i,c,d,hc,hd,h,hh,g,hg=>by
  rw[Nat.add_zero,hc] at hd;cases hd;have:=S.same (y02 hc) hh hg;omega
 | n+1,i,c,d,hc,hd,h,hh,g,hg=>by
  have hlt:=(y00.mp hd).1;have he:L[i+n]?=some (L[i+n]'(by omega)):=y01 (by omega)
  obtain⟨g0,r0,e0⟩:=y52 (S.ne _ (y02 he));have m0:g0∈(L[i+n]'(by omega)).1:=by rw[e0];exact y0h
  have a:=S.falls n i hc he h hh g0 m0;have b:=S.fall (i+n) _ _ he hd g0 m0 g hg
  omega
end
end PM
set_option Elab.async false
set_option linter.all false
set_option maxRecDepth 100000
namespace My
open PySem L2 L2.EX
def zd9:List (Int×Int)->Int
 | []=>1
 | p::r=>p.2*zd9 r
theorem zas:∀{ps:List (Int×Int)},(∀p∈ps,1≤p.2)->0<zd9 ps
 | [],_=>by decide
 | p::r,h=>by
  have a:=h p y0h;have b:=zas λq hq=>h q (y0b _ hq)
  show 0<p.2*zd9 r;exact y3m (by omega) b
theorem z8l:∀{ps:List (Int×Int)} {p:Int×Int},p∈ps->p.2∣zd9 ps
 | q::r,p,h=>by
  show p.2∣q.2*zd9 r;rcases y0m.mp h with rfl | h
  ·exact Int.dvd_mul_right _ _
  ·exact y46 (z8l h) (Int.dvd_mul_left _ _)
theorem zpg {p q:Int×Int}(l1:Low p)(l2:Low q)(e:p.1*q.2=q.1*p.2):p=q:=by
 have a:=(z5w l1.2 e).1;have b:=(z5w l2.2 e.symm).1
 have h1:=l1.1;have h2:=l2.1
 have e2:p.2=q.2:=Int.dvd_antisymm (by omega) (by omega) a b
 rw[e2] at e;have e1:=y1l (by omega) e
 exact Prod.ext e1 e2
def xOf (qs:List (Int×Int))(M:Int)(h:Nat):Int:=(qs.getD h (0,1)).1*(M / (qs.getD h (0,1)).2)
theorem zd0 {qs:List (Int×Int)}{M:Int}{h:Nat}{p:Int×Int}(hp:qs[h]?=some p)(hd:p.2∣M):xOf qs M h*p.2=p.1*M:=by
 unfold xOf;rw[y06,hp];show p.1*(M / p.2)*p.2=p.1*M;rw[y2a,y6d hd]
variable {ws:List Int}{drs:List (List Nat)}{many:Nat}{L L':List PM.Cr}{ps ps' qs qs':List (Int×Int)}
theorem z4r {α:Type}{f:PM.Cr->List α}:(L.take L.length).flatMap f=L.flatMap f:=by rw[y07 (y09 _)]
theorem LoadOk.of_hand (lk:LoadOk many L ps qs)(lo:LayOk ws L ps)(co:CrOk ws drs many L)(h0:0<many){h:Nat}(hh:h<many):∃(i:Nat) (c:PM.Cr) (p:Int×Int),L[i]?=some c/\ps[i]?=some p/\h∈c.1/\qs[h]?=some p:=by
 have hm:h∈z5v L L.length:=(z5g co h0).mem_iff.mpr (y1j.mpr hh);unfold z5v at hm;rw[z4r] at hm;obtain⟨c,hc,hin⟩:=y2m.mp hm;obtain⟨i,hi⟩:=y0a hc;have hil:=(y00.mp hi).1
 have hp:ps[i]?=some (ps[i]'(by rw[lo.len];exact hil)):=y01 _
 exact⟨i,c,_,hi,hp,hin,lk.at_ i c _ hi hp h hin⟩
theorem LoadOk.sol (lk:LoadOk many L ps qs)(lo:LayOk ws L ps)(co:CrOk ws drs many L)(h0:0<many)(hp:∀x∈ws,1≤x){M:Int}(hM:0<M)(hd:∀p∈ps,p.2∣M):PM.Sol (z3e ws) (z2r drs) many ws.length M L (xOf qs M):=by
 have K:=co.cr h0;have pick:∀{i:Nat} {c:PM.Cr},L[i]?=some c->∃p,ps[i]?=some p/\p.2∣M/\Low p/\p.1*(c.1.length:Int)=PM.tot (z3e ws) c*p.2/\∀h∈c.1,xOf qs M h*p.2=p.1*M:=λ{i c} hi=>by
  have hil:=(y00.mp hi).1;have hp:ps[i]?=some (ps[i]'(by rw[lo.len];exact hil)):=y01 _
  have a:=lo.at_ i c _ hi hp;have d:=hd _ (y02 hp)
  exact⟨_,hp,d,a.1,a.2,λh hh=>zd0 (lk.at_ i c _ hi hp h hh) d⟩
 refine⟨by have:=z5g co h0;unfold z5v at this;rwa [z4r] at this,by have:=z5r co h0;unfold z68 at this;rwa [z4r] at this,λc hc=>co.rst c hc,K.ne,λc hc h hh=>?_,K.up,λi c d hc hd' h hh g hg=>?_,λk=>zdr hp k,hM⟩
 ·obtain⟨i,hi⟩:=y0a hc;obtain⟨p,_,_,low,e,ex⟩:=pick hi;have ex:=ex h hh;refine y1l (a:=p.2) (by have:=low.1;omega) ?_
  rw[y3g,ex,y3g,e,y3g]
 ·obtain⟨p,hp1,_,low,_,ex⟩:=pick hc;obtain⟨q,hq1,_,low',_,ey⟩:=pick hd';have ex:=ex h hh;have ey:=ey g hg
  have f:=lo.falls co hp hc hd' hp1 hq1;have l1:=low.1
  have l2:=low'.1;have pos:0<p.2*q.2:=y3m (by omega) (by omega)
  refine y53 (a:=p.2*q.2) ?_ (by omega)
  have a1:xOf qs M g*(p.2*q.2)=q.1*p.2*M:=by
   rw[y1k p.2 q.2,←y2a,ey,y3g]
  have a2:xOf qs M h*(p.2*q.2)=p.1*q.2*M:=by
   rw[←y2a,ex,y3g]
  rw[a1,a2];exact y3n f hM
end My
set_option Elab.async false
set_option linter.all false
set_option maxRecDepth 100000
namespace My
open PySem L2 L2.EX
section
variable {H H' H'':Hp}{vs us:List V}{l:Addr}{o:HO}
end
end My
namespace My
open PySem L2 L2.EX
variable {L:List PM.Cr}{many:Nat}
end My
namespace My
open PySem L2 L2.EX
end My
set_option linter.all false
namespace PM
def ab (l:List Int)(T:Int):Int:=(l.map λx=>if T<x then x - T else 0).sum
theorem sum_zeroI {α:Type}:∀l:List α,(l.map λ_=>(0:Int)).sum=0
 | []=>rfl
 | x::r=>by rw[y0n,y0s,sum_zeroI r];rfl
section
variable {wk:Nat->Int}{dr:Nat->List Nat}{many chores:Nat}{M:Int}{L:List Cr}{x o:Nat->Int}
end
end PM
set_option Elab.async false
set_option linter.all false
set_option maxRecDepth 100000
namespace My
open PySem L2 L2.EX
section
variable {X:Cx}{o e:Expr}{es:List Expr}{ta:TE}{t:TA}{aK aG:Pos}
end
def vl (M:Int)(p:Int×Int):Int:=p.1*(M / p.2)
theorem zau {M:Int}{p:Int×Int}(h:p.2∣M):vl M p*p.2=p.1*M:=by
 unfold vl;rw[y2a,y6d h]
def FOk (p:Int×Int):Prop:=1≤p.2/\p.2≤60/\0≤p.1/\Bd 400 p.1
def zs8 (lv a p:Int×Int):Int×Int:=if 0<p.1*lv.2 - lv.1*p.2 then (a.1*p.2*lv.2+(p.1*lv.2 - lv.1*p.2)*a.2,a.2*p.2*lv.2) else a
def zrf (qs:List (Int×Int))(lv:Int×Int):Int×Int:=qs.foldl (zs8 lv) (0,1)
theorem z2v {A B:Hp}{b:Addr}(s:Same A B)(h:B b=none):A b=none:=by
 cases hz:A b with
 | none=>rfl
 | some o=>rw[s _ _ hz] at h;cases h
structure SS (way c size j:Nat)(lf:Int)(ss:List Int):Prop where
 len:ss.length=size
 nn:∀x∈ss,0≤x
 sum:ss.sum+lf=60
 lf0:0≤lf
 zero:∀i,j≤i->i<size->ss[i]?=some 0
 w1:way=1->lf=if c<j then 0 else 60
 w2:way=2->lf=60 - (j:Int)*(60 / (size:Int))
theorem zli:∀{l:List Int},(∀x∈l,0≤x)->0≤l.sum
 | [],_=>by decide
 | x::r,h=>by
  rw[y0s];have:=h x y0h;have:=zli λy hy=>h y (y0b _ hy)
  omega
def zs (T:Nat->Bool)(w:Int)(l:List (Nat×Int)):Int:=(l.map λp=>if T p.1 then w*p.2 else 0).sum
structure Cmp (M:Int)(qs oq:List (Int×Int))(ws:List Int):Prop where
 hM:0<M
 qok:∀p∈qs,FOk p/\p.2∣M
 ook:∀p∈oq,FOk p/\p.2∣M
 len:qs.length=oq.length
 ab:∀T,PM.ab (qs.map (vl M)) T≤PM.ab (oq.map (vl M)) T
 sq:(qs.map λp=>vl M p*vl M p).sum≤(oq.map λp=>vl M p*vl M p).sum
 tot:(zrf qs (0,1)).1=ws.sum*(zrf qs (0,1)).2
theorem zca {α β:Type}(f:α->β)(d:α):∀l:List α,((y0d l.length).map λh=>f (l.getD h d))=l.map f:=λl=>by
 refine y2u λh=>?_
 by_cases c:h<l.length
 ·rw[y05,y05,y1d c,y01 c];simp[y06,c]
 ·rw[y0w (by rw[y04,y1z];omega),y0w (by rw[y04];omega)]
end My
set_option Elab.async false
set_option linter.all false
set_option maxRecDepth 100000
namespace My
open PySem L2 L2.EX
theorem z4e (f:Nat->Int):∀n,PM.upTo f n=((y0d n).map f).sum
 | 0=>rfl
 | n+1=>by
  rw[y3o,y0f,y27,PM.upTo,z4e f n];simp
theorem z4v {l:List Nat}(h:l.Nodup){e a:Nat}(he:l[e]?=some a):l.idxOf a=e:=by
 obtain⟨h1,h2⟩:=y00.mp he;subst h2;exact h.idxOf_getElem e h1
theorem zn8 {gs ts:List Int}{ties:List (Nat×Nat)}(S:Nat->Bool):PM.bnd (z2y gs.length ts.length ties) (gs++ts) S=PM.upTo (λe=>if S e then 0 else gs.getD e 0) gs.length+PM.upTo (λj=>if S (gs.length+j) then ts.getD j 0 else 0) ts.length:=by
 show PM.upTo (λe=>if PM.side (z2y gs.length ts.length ties) S e then (gs++ts).getD e 0 else 0) (gs.length+ts.length)=_
 rw[PM.upTo_split];congr 1
 ·refine PM.upTo_congr λe he=>?_;have:PM.side (z2y gs.length ts.length ties) S e = !S e:=by
   unfold PM.side;exact if_pos he
  rw[this,z69 he];cases S e<;>rfl
 ·refine PM.upTo_congr λe he=>?_;have:PM.side (z2y gs.length ts.length ties) S (gs.length+e)=S (gs.length+e):=by
   unfold PM.side;exact if_neg (show ¬gs.length+e<gs.length by omega)
  rw[this,z7z]
theorem z7a:∀{ends:List (Nat×Nat)} {ss:List Int} {k:Nat} {p:Nat×Nat} {s:Int},(∀(k:Nat) s,ss[k]?=some s->0≤s)->ends[k]?=some p->ss[k]?=some s->s≤PM.load ends ss p.1
 | [],_,_,_,_,_,h,_=>by simp at h
 | _::_,[],_,_,_,_,_,h=>by simp at h
 | q::r,x::y,0,p,s,hn,h1,h2=>by
  simp at h1 h2;subst h1 h2;have:=zha r y q.1 λk s hs=>hn (k+1) s (by simpa using hs)
  simp only[PM.load,PM.inc];simp;omega
 | q::r,x::y,k+1,p,s,hn,h1,h2=>by
  have ih:=z7a (ends:=r) (ss:=y) (k:=k) (p:=p) (s:=s) (λk s hs=>hn (k+1) s (by simpa using hs)) (by simpa using h1) (by simpa using h2)
  have:=hn 0 x rfl;simp only[PM.load]
  split<;>omega
structure Turned (gs ts:List Int)(ties:List (Nat×Nat))(bg bt:List Nat)(m:Nat)(gs2 ts2:List Int)(turned some':List (Nat×Nat)):Prop where
 hbg:bg.Perm (y0d gs.length)
 hbt:bt.Perm (y0d ts.length)
 lg:gs2.length=gs.length+m
 lt:ts2.length=ts.length+m
 g1:∀e<gs.length,gs2.getD e 0=gs.getD (bg.getD e 0) 0
 g2:∀e,gs.length≤e->gs2.getD e 0=0
 t1:∀e<ts.length,ts2.getD e 0=ts.getD (bt.getD e 0) 0
 t2:∀e,0≤ts2.getD e 0
 hA:∀p'∈turned,∃p∈ties,bg[p'.1]?=some p.1/\bt[p'.2]?=some p.2
 hB:∀p∈ties,∃p'∈turned,bg[p'.1]?=some p.1/\bt[p'.2]?=some p.2
 hs:∀p∈some',gs.length≤p.1/\p.1<gs.length+m/\p.2<ts.length
section
variable {gs ts gs2 ts2 sent spare steps b6 au steps':List Int}{ties turned some':List (Nat×Nat)}{bg bt:List Nat}{m:Nat}
end
theorem z9l (l:List Nat):z09 l=(l.map λ(n:Nat)=>(n:Int)).map V.int:=by unfold z09;rw[y20];rfl
theorem zpm {l:List Nat}{i n:Nat}(h:l[i]?=some n):atI (z09 l) (i:Int)=some (.int (n:Int)):=z0x (zi5 h)
theorem zp2 {l:List Nat}{n j:Nat}(h:(l.map λ(n:Nat)=>(n:Int))[j]?=some (n:Int)):l[j]?=some n:=by
 rw[y05] at h;cases q:l[j]? with
 | none=>rw[q] at h;cases h
 | some x =>
  rw[q] at h;simp at h;exact congrArg some (by omega)
structure TurnP (ties:List (Nat×Nat))(bg bt bi:List Nat)(tn:List (Nat×Nat)):Prop where
 at_:∀(k:Nat) p',tn[k]?=some p'->∃(a:Nat) (p:Nat×Nat),bi[k]?=some a/\ties[a]?=some p/\bg[p'.1]?=some p.1/\bt[p'.2]?=some p.2
end My
set_option linter.all false
namespace PM
structure Ev (own:(Nat->Bool)->Int)(many:Nat)(x:Nat->Int):Prop where
 borne:∀T,own T≤SH many T x
 tight:∀v:Int,SH many (λh=>decide (v≤x h)) x≤own λh=>decide (v≤x h)
section
variable {wk:Nat->Int}{dr:Nat->List Nat}{chores:Nat}
end
end PM
set_option Elab.async false
set_option linter.all false
set_option maxRecDepth 100000
namespace L2.EX
section
variable {X:Cx}
open PySem
def zpr (x y:V)(H:Hp)(Q:VK):Prop:=match y with
 | .non=>Q (.bl (!decide (x = .non))) H
 | _=>False
theorem zkr:OpR X (compareOp .IsNot) zpr:=by
 intro aa s σ H x y v u Q I rx ry h;unfold zpr at h
 split at h
 ·exact zno aa s σ H _ _ v u Q I rx ry ⟨rfl,h⟩
 ·exact h.elim
end
end L2.EX
namespace My
open PySem L2 L2.EX
def zsi (ws:List Int)(drs:List (List Nat))(M:Int)(T:Nat->Bool):Int:=PM.IW (z3e ws) (z2r drs) ws.length T*M
def zs1 (p:Int×Int):Prop:=Low p/\0≤p.1/\p.2≤20/\Bd 400 p.1
structure Borns (ws:List Int)(drs:List (List Nat))(many:Nat)(qs:List (Int×Int)):Prop where
 len:qs.length=many
 ok:∀q∈qs,zs1 q
 ev:∃D:Int,0<D/\(∀q∈qs,q.2∣D)/\∀M:Int,0<M->D∣M->PM.Ev (zsi ws drs M) many (xOf qs M)
section
variable {ws ws':List Int}{drs drs':List (List Nat)}{many:Nat}{qs qs':List (Int×Int)}
theorem zmy {q q':Int×Int}{x x' M:Int}(hM:0<M)(l1:1≤q.2)(l2:1≤q'.2)(a1:x*q.2=q.1*M)(a2:x'*q'.2=q'.1*M)(h:x≤x'):q.1*q'.2≤q'.1*q.2:=by
 have pos:0<q.2*q'.2:=y3m (by omega) (by omega)
 have:=y1r h (show 0≤q.2*q'.2 by omega)
 refine y37 (a:=M) ?_ hM;have c1:q.1*q'.2*M=x*(q.2*q'.2):=by grind
 have c2:q'.1*q.2*M=x'*(q.2*q'.2):=by grind
 rw[c1,c2];exact this
theorem zkk {ws:List Int}{k:Nat}(h:k<ws.length):z3e ws k=ws.getD k 0:=if_pos h
end
structure TArgs (K:y03)(H:Hp)(a aw ad al:Addr)(ns ws:List Int)(drs:List (List Nat))(many:Nat)(qs:List (Int×Int)):Prop where
 s:SqL K H a (ns.map V.int)
 ask:AsksC K H aw ad ws drs
 rows:RowsOk ws.length many drs
 works:∀x∈ws,x≤10^60+1000
 h0:0<many
 h5:many≤5
 few:ws.length≤6
 isf:Is K H (.ref al) (z1v qs)
 b:Borns ws drs many qs
theorem zcr {l:List Nat}{ms:List Int}(hp:ms.Perm (l.map λ(x:Nat)=>(x:Int))):∃r:List Nat,ms.map V.int=z09 r/\r.Perm l:=by
 have e:(ms.map y4i).Perm l:=by
  have:=hp.map y4i;rw[y20] at this;have i:l.map (y4i∘λ(x:Nat)=>(x:Int))=l:=by
   conv=>rhs;rw[←List.map_id l]
   exact y0r λx _=>by simp
  rw[i] at this;exact this
 refine⟨ms.map y4i,?_,e⟩;unfold z09;rw[y20];refine y0r λx hx=>?_;obtain⟨n,_,rfl⟩:=y1i.mp (hp.mem_iff.mp hx);simp
end My
set_option linter.all false
namespace PM
end PM
set_option Elab.async false
set_option linter.all false
set_option maxRecDepth 100000
namespace My
open PySem L2 L2.EX
theorem zlr (ns:List Int)(a n:Nat):∃ms:List Int,zft (ns.map V.int) (some (a:Int)) (some ((a:Int)+(n:Int)))=ms.map V.int/\ms.length≤n/\ms.length≤ns.length:=by
 unfold zft;rw[show(a:Int)+(n:Int)=((a+n:Nat):Int) by omega,HT.sIx_nat,HT.sIx_nat]
 refine⟨(ns.drop (min a (ns.map V.int).length)).take (min (a+n) (ns.map V.int).length - min a (ns.map V.int).length),?_,?_,?_⟩
 ·rw[y7n,y7o]
 ·rw[y0x,y4k];omega
 ·rw[y0x,y4k];omega
def zhc:Sp:=λvs H Q _=>∃c:Int,vs = [.int c]/\∀z:Int,1≤z->z≤10^60->Q (.int z) H
def zio:Sp:=λvs H Q _=>∃(c:Int) (many:Nat) (th:Bool),vs = [.int c,.int (many:Int),.bl th]/\1≤many/\many≤12/\∀(r:Addr) (row:List Nat) (H':Hp),row ≠ []->row.Pairwise (· < ·)->(∀h∈row,h<many)->H r=none->Same H H'->H' r=some (.lst (z09 row))->Q (.ref r) H'
structure CrowdA (K:y03)(H:Hp)(aw ad:Addr)(ws:List Int)(drs:List (List Nat))(many:Nat):Prop where
 ask:AsksC K H aw ad ws drs
 rows:RowsOk ws.length many drs
 works:∀x∈ws,x≤10^60
 h0:0<many
 h12:many≤12
 few:ws.length≤8
theorem CrowdA.same {K:y03}{H H':Hp}{aw ad:Addr}{ws:List Int}{drs:List (List Nat)}{many:Nat}(c:CrowdA K H aw ad ws drs many)(s:Same H H'):CrowdA K H' aw ad ws drs many:=⟨c.ask.same s,c.rows,c.works,c.h0,c.h12,c.few⟩
def zgn (K:y03):Sp:=λvs H Q _=>∃(a:Addr) (ns:List Int),vs = [.ref a]/\SqL K H a (ns.map V.int)/\ns.length≤63/\∀(p aw ad:Addr) (ws:List Int) (drs:List (List Nat)) (many:Nat) (H':Hp),CrowdA K H' aw ad ws drs many->Same H H'->H' p=some (.tup [.ref aw,.ref ad,.int (many:Int)])->Q (.ref p) H'
theorem zgi {K:y03}{H:Hp}{lw ld u:Addr}{O:HO}(h1:H lw=none)(h2:upd H lw (.lst []) ld=none)(h3:upd (upd H lw (.lst [])) ld (.lst []) u=none):Two K (upd H u O) (upd (upd (upd H lw (.lst [])) ld (.lst [])) u O) lw ld [] [] [] []/\u≠lw/\u≠ld/\H u=none:=by
 have n1:ld≠lw:=λz=>by rw[z,z01] at h2;cases h2
 have n2:u≠ld:=λz=>by rw[z,z01] at h3;cases h3
 have n3:u≠lw:=λz=>by rw[z,z0a n1.symm,z01] at h3;cases h3
 have hld:H ld=none:=by rw[z0a n1] at h2;exact h2
 have hu:H u=none:=by rw[z0a n2,z0a n3] at h3;exact h3
 refine⟨⟨n1.symm,λb o hb=>?_,?_,?_,z0p,z0p⟩,n3,n2,hu⟩
 ·by_cases z:b=u
  ·subst z;rw[z42 n3 n2,z01];rw[z01] at hb;exact hb
  ·rw[z0a z] at hb;have m1:=z08 hb h1;have m2:=z08 hb hld
   rw[z42 m1 m2,z0a z,z0a m2,z0a m1];exact hb
 ·rw[z0a n3.symm,z0a n1.symm,z01]
 ·rw[z0a n2.symm,z01]
theorem znk {P:Bool->Prop}{c b:Bool}(h:∀th,P th):if c=true then P true else P b:=by
 split
 ·exact h _
 ·exact h _
theorem zhb {l:List Nat}{ms:List Int}(nd:l.Nodup)(hp:ms.Perm (l.map λ(x:Nat)=>(x:Int)))(hs:ms.Pairwise (·≤·)):∃r:List Nat,ms.map V.int=z09 r/\r.Perm l/\r.Pairwise (· < ·):=by
 obtain⟨r,e,p⟩:=zcr hp;refine⟨r,e,p,?_⟩;have em:ms=r.map λ(x:Nat)=>(x:Int):=by
  rw[z9l] at e;exact List.map_inj_right (λx y h=>by cases h;rfl) |>.mp e
 rw[em,y6u] at hs;have nr:r.Nodup:=p.nodup_iff.mpr nd;exact(hs.and nr).imp λh=>by omega
def zan (j many:Nat):List Nat:=if 2≤many then [j % many,(j+1) % many] else [j % many]
theorem zjh {j many:Nat}(h0:0<many):(zan j many).Nodup/\zan j many ≠ []/\∀h∈zan j many,h<many:=by
 unfold zan;have a:=y7j j h0;have b:=y7j (j+1) h0
 split
 ·rename_i h2;refine⟨?_,by simp,λh hh=>?_⟩
  ·have:j % many≠(j+1) % many:=λz=>by
    have e:(j+1) % many=(j % many+1) % many:=by rw[Nat.add_mod,y76 (show 1<many by omega)]
    rw[e] at z
    by_cases w:j % many+1<many
    ·rw[y76 w] at z;omega
    ·have w':j % many+1=many:=by omega
     rw[w',Nat.mod_self] at z;omega
   simp[this]
  ·simp at hh;omega
 ·exact⟨by simp,by simp,λh hh=>by simp at hh;omega⟩
theorem zkt {j many:Nat}(h0:0<many):zft [V.int ((j:Int) % (many:Int)),V.int (((j:Int)+1) % (many:Int))] none (some (if (2:Int)<(many:Int) then 2 else (many:Int)))=((zan j many).map λ(x:Nat)=>(x:Int)).map V.int:=by
 obtain⟨m,hm⟩:∃m:Nat,(if (2:Int)<(many:Int) then (2:Int) else (many:Int))=(m:Int):=by
  split
  ·exact⟨2,rfl⟩
  ·exact⟨many,rfl⟩
 rw[hm,zi3];unfold zan;have e1:(j:Int) % (many:Int)=((j % many:Nat):Int):=by omega
 have e2:((j:Int)+1) % (many:Int)=(((j+1) % many:Nat):Int):=by
  rw[show(j:Int)+1=((j+1:Nat):Int) by omega]
  omega
 rw[e1,e2]
 split
 ·rename_i h2;have:m=2:=by split at hm<;>omega
  subst this;rfl
 ·rename_i h2;have:m=1:=by split at hm<;>omega
  subst this;rfl
def bag (M:Int)(L:List (Nat×(Int×Int)))(h:Nat):Int:=(L.map λx=>if x.1=h then vl M x.2 else 0).sum
def z20 (drs:List (List Nat))(shs:List (List (Int×Int))):List (Nat×(Int×Int)):=(drs.zip shs).flatMap λx=>x.1.zip x.2
def LdB (M:Int)(L:List (Nat×(Int×Int)))(qs:List (Int×Int)):Prop:=∀(h:Nat) q,qs[h]?=some q->Low q/\q.1*M=q.2*bag M L h
theorem zk2 (M:Int)(L:List (Nat×(Int×Int)))(g:Nat)(p:Int×Int)(h:Nat):bag M (L ++ [(g,p)]) h=bag M L h+(if g=h then vl M p else 0):=by
 unfold bag;rw[y0f,y27];simp only[y0n,y3j,y0s,List.sum_nil,y5y]
theorem LdB.add {M:Int}{L:List (Nat×(Int×Int))}{qs:List (Int×Int)}(b:LdB M L qs){g:Nat}{q p:Int×Int}(hq:qs[g]?=some q)(hp:1≤p.2)(hd:p.2∣M){n e:Int}(lo:Low (n,e))(he:n*(q.2*p.2)=(q.1*p.2+p.1*q.2)*e):LdB M (L ++ [(g,p)]) (qs.set g (n,e)):=by
 intro h r hr;rw[zk2];have gl:=(y00.mp hq).1
 by_cases z:g=h
 ·subst z;rw[y0q gl] at hr;cases hr;refine⟨lo,?_⟩;rw[if_pos rfl];obtain⟨l1,e1⟩:=b g q hq;have v:=zau hd;have pos:q.2*p.2≠0:=y50 (by have:=l1.1;omega) (by omega)
  refine y1l pos ?_;show n*M*(q.2*p.2)=e*(bag M L g+vl M p)*(q.2*p.2);have a1:n*M*(q.2*p.2)=(q.1*M)*p.2*e+(p.1*M)*q.2*e:=by
   have:n*M*(q.2*p.2)=n*(q.2*p.2)*M:=by grind
   rw[this,he]
   grind
  rw[a1,e1,←v]
  grind
 ·rw[y10 (by omega)] at hr
  rw[if_neg z,y5y];exact b h r hr
theorem z6g {drs:List (List Nat)}{shs:List (List (Int×Int))}{i:Nat}{r:List Nat}{s:List (Int×Int)}(hr:drs[i]?=some r)(hs:shs[i]?=some s):z20 (drs.take (i+1)) (shs.take (i+1))=z20 (drs.take i) (shs.take i)++r.zip s:=by
 unfold z20;have hi:=(y00.mp hr).1;have hi2:=(y00.mp hs).1
 rw[z0l hr,z0l hs,y4z (by rw[y0x,y0x];omega),y51]
 simp
theorem zlm {M:Int}{m n:Nat}(hM:0<M)(bM:Bd n M)(h:Nat):∀(L:List (Nat×(Int×Int))),(∀x∈L,1≤x.2.2/\x.2.2∣M/\Bd m x.2.1)->(bag M L h).natAbs≤L.length*2^(m+n)
 | [],_=>by simp[bag]
 | x::r,hx=>by
  have a:=hx x y0h;have ih:=zlm hM bM h r λy hy=>hx y (y0b _ hy)
  have e:bag M (x::r) h=(if x.1=h then vl M x.2 else 0)+bag M r h:=rfl
  have v:(vl M x.2).natAbs≤2^(m+n):=by
   unfold vl;have b:Bd n (M / x.2.2):=by
    refine Bd.of_le bM ?_;have h1:0≤M / x.2.2:=y4v (by omega) (by omega)
    have h2:M / x.2.2≤M:=y5p _ (by omega)
    omega
   exact y4f (a.2.2.mul b)
  have t:(if x.1=h then vl M x.2 else 0).natAbs≤2^(m+n):=by
   split
   ·exact v
   ·exact y2d _
  rw[e,y1f,y7e,Nat.one_mul];have:=y5i (if x.1=h then vl M x.2 else 0) (bag M r h)
  omega
theorem LdB.bd {M:Int}(hM:0<M)(bM:Bd 600 M){L:List (Nat×(Int×Int))}(hL:∀x∈L,1≤x.2.2/\x.2.2∣M/\Bd 600 x.2.1)(few:L.length≤240){qs:List (Int×Int)}(b:LdB M L qs){h:Nat}{q:Int×Int}(hq:qs[h]?=some q):Bd 1300 q.1/\Bd 600 q.2:=by
 obtain⟨l,e⟩:=b h q hq;rw[y1k q.2] at e;obtain⟨l1,l2⟩:=zbz l.2 (by omega) e
 refine⟨?_,bM.of_le l2⟩;have k:(bag M L h).natAbs≤L.length*2^1200:=zlm hM bM h L hL;show q.1.natAbs<2^1300;have e2:(2:Nat)^1300=2^100*2^1200:=by rw[←y6a]
 rw[e2];have k2:L.length*2^1200≤240*2^1200:=y3t _ few;have k3:240*2^1200<2^100*2^1200:=Nat.mul_lt_mul_of_pos_right (by decide) (y6e (by decide))
 omega
structure ShOk (M:Int)(drs:List (List Nat))(many:Nat)(shs:List (List (Int×Int))):Prop where
 len:shs.length=drs.length
 few:drs.length≤20
 row:∀(i:Nat) r s,drs[i]?=some r->shs[i]?=some s->s.length=r.length/\r.length≤12/\∀h∈r,h<many
 ok:∀s∈shs,∀p∈s,Low p/\p.2∣M/\Bd 600 p.1
 hM:0<M
 bM:Bd 600 M
theorem znc {M:Int}{drs:List (List Nat)}{many:Nat}{shs:List (List (Int×Int))}(k:ShOk M drs many shs):∀x∈z20 drs shs,1≤x.2.2/\x.2.2∣M/\Bd 600 x.2.1:=λx hx=>by
 unfold z20 at hx;obtain⟨y,hy,hxy⟩:=y2m.mp hx;obtain⟨a,b,c⟩:=k.ok y.2 (y16 hy).2 x.2 (y16 hxy).2;exact⟨a.1,b,c⟩
theorem zjn {drs:List (List Nat)}{shs:List (List (Int×Int))}(hl:shs.length=drs.length)(i:Nat):∀x∈z20 (drs.take i) (shs.take i),x∈z20 drs shs:=λx hx=>by
 unfold z20 at hx ⊢
 have e:drs.zip shs=(drs.take i).zip (shs.take i)++(drs.drop i).zip (shs.drop i):=by
  rw[←y4z (by rw[y0x,y0x,hl]),y64,y64]
 rw[e,y51];exact y3r _ hx
theorem zaa {M:Int}{drs:List (List Nat)}{many:Nat}{shs:List (List (Int×Int))}(k:ShOk M drs many shs):∀i:Nat,i≤drs.length->(z20 (drs.take i) (shs.take i)).length≤12*i
 | 0,_=>by simp[z20]
 | i+1,hi=>by
  have hr:drs[i]?=some (drs[i]'(by omega)):=y01 _
  have hs:shs[i]?=some (shs[i]'(by rw[k.len];omega)):=y01 _
  rw[z6g hr hs,y0c,y2k];have:=zaa k i (by omega)
  have:=k.row i _ _ hr hs;omega
def zl2 (K:y03):Sp:=λvs H Q _=>∃(ad as:Addr) (many:Nat) (drs:List (List Nat)) (shs:List (List (Int×Int))) (M:Int),vs = [.ref ad,.int (many:Int),.ref as]/\Is K H (.ref ad) (z3z drs)/\Is K H (.ref as) (.list (shs.map z1v))/\ShOk M drs many shs/\many≤20/\∀qs:List (Int×Int),qs.length=many->LdB M (z20 drs shs) qs->Res K H Q (z1v qs)
theorem Grow.setAt {K:y03}{H H':Hp}{l:Addr}{vs:List V}{ds:List PyData}{v:V}{d:PyData}(g:Grow K H H' l vs ds)(i:Nat)(h:Is K (del H' l) v d):Grow K H (upd H' l (.lst (vs.set i v))) l (vs.set i v) (ds.set i d) :=
 ⟨by rw[z3i];exact g.old,z01,by rw[z3i];exact z60 g.all h⟩
def FV (M:Int)(p:Int×Int)(X:Int):Prop:=Low p/\p.1*M=p.2*X
section
variable {M:Int}{p q:Int×Int}{X Y:Int}
theorem FV.uniq (hM:0<M)(a:FV M p X)(b:FV M q X):p=q:=by
 refine zpg a.1 b.1 ?_;refine y1l (a:=M) (by omega) ?_
 have e1:=a.2;have e2:=b.2
 have:p.1*q.2*M=p.1*M*q.2:=by grind
 rw[this,e1];have:q.1*p.2*M=q.1*M*p.2:=by grind
 rw[this,e2]
 grind
theorem FV.plus (a:FV M p X)(b:FV M q Y){n e:Int}(he:1≤e)(hg:y1b n e=1)(h:n*(p.2*q.2)=(p.1*q.2+q.1*p.2)*e):FV M (n,e) (X+Y):=by
 refine⟨⟨he,hg⟩,?_⟩;have p1:=a.1.1;have q1:=b.1.1
 have pos:p.2*q.2≠0:=y50 (by omega) (by omega)
 refine y1l pos ?_;show n*M*(p.2*q.2)=e*(X+Y)*(p.2*q.2);have:n*M*(p.2*q.2)=n*(p.2*q.2)*M:=by grind
 rw[this,h];have:(p.1*q.2+q.1*p.2)*e*M=(p.1*M)*q.2*e+(q.1*M)*p.2*e:=by grind
 rw[this,a.2,b.2]
 grind
theorem FV.zero:FV M (0,1) 0:=⟨⟨y2e _,by decide⟩,by simp⟩
theorem FV.bd (hM:0<M)(bM:Bd 600 M)(bX:Bd 1300 X)(a:FV M p X):Bd 1300 p.1/\Bd 600 p.2:=by
 have e:=a.2;rw[y1k p.2] at e;obtain⟨l1,l2⟩:=zbz a.1.2 (by omega) e
 exact⟨bX.of_le l1,bM.of_le l2⟩
end
structure FVs (M:Int)(ps:List (Int×Int))(Xs:List Int):Prop where
 len:ps.length=Xs.length
 at_:∀(i:Nat) p X,ps[i]?=some p->Xs[i]?=some X->FV M p X
 hM:0<M
 bM:Bd 600 M
 bX:∀X∈Xs,Bd 1220 X
 few:Xs.length≤30
theorem FVs.get {M:Int}{ps:List (Int×Int)}{Xs:List Int}(f:FVs M ps Xs){i:Nat}{p:Int×Int}(h:ps[i]?=some p):∃X,Xs[i]?=some X/\FV M p X/\Bd 1220 X:=by
 have hi:=(y00.mp h).1;have hx:Xs[i]?=some (Xs[i]'(by rw[←f.len];exact hi)):=y01 _
 exact⟨_,hx,f.at_ i p _ h hx,f.bX _ (y02 hx)⟩
theorem zgl {k:Nat}:∀(l:List Int),(∀x∈l,Bd k x)->l.sum.natAbs≤l.length*2^k
 | [],_=>by simp
 | x::r,h=>by
  have a:=h x y0h;have b:=zgl r λy hy=>h y (y0b _ hy)
  rw[y0s,y1f,y7e,Nat.one_mul];have:=y5i x r.sum;have a':x.natAbs<2^k:=a
  omega
theorem zny {k n:Nat}{x:Int}(h:x.natAbs≤n*2^k)(hn:n≤64):Bd (k+7) x:=by
 show x.natAbs<2^(k+7);rw[y6a];have:n*2^k≤64*2^k:=y3t _ hn;have:0<2^k:=y6e (by decide)
 omega
theorem znb {k:Nat}{l:List Int}(h:∀x∈l,Bd k x)(hl:l.length≤64):Bd (k+7) l.sum:=zny (zgl l h) hl
def zdm (K:y03):Sp:=λvs H Q _=>∃(x:V) (ps:List (Int×Int)) (Xs:List Int) (M:Int),vs = [x]/\Is K H x (z1v ps)/\FVs M ps Xs/\∀p,FV M p Xs.sum->Res K H Q (z2b p.1 p.2)
theorem zju (l:List Int)(x:Int):(l ++ [x]).sum=l.sum+x:=by
 rw[y27];simp
theorem zgm {k:Nat}{l:List Int}(h:∀x∈l,Bd k x)(hl:l.length≤64)(i:Nat):Bd (k+7) (l.take i).sum:=znb (λx hx=>h x (y3u hx)) (by rw[y0x];omega)
def zg4 (K:y03):Sp:=λvs H Q _=>∃(a:Addr) (ns:List Int) (at' k:Int),vs = [.ref a,.int at',.int k]/\SqL K H a (ns.map V.int)/\0≤at'/\at'≤62/\0≤k/\k≤2/\∀z:Int,0≤z->Q (.int z) H
structure Deal (M:Int)(ws:List Int)(drs:List (List Nat))(shs:List (List (Int×Int))):Prop where
 len:shs.length=drs.length
 at_:∀(i:Nat) r s,drs[i]?=some r->shs[i]?=some s->s.length=r.length/\(s.map (vl M)).sum=ws.getD i 0*M
 ok:∀s∈shs,∀p∈s,Low p/\0≤p.1/\p.2∣M/\Bd 300 p.1
theorem zoq {q:Int}(h1:1≤q)(h2:q≤20):q∣232792560:=by
 obtain⟨n,rfl⟩:=y2b (show 0≤q by omega)
 have k:∀n:Fin 21,1≤n.val->((n.val:Nat):Int)∣232792560:=by decide
 exact k ⟨n,by omega⟩ (by show 1≤n;omega)
structure Both (M:Int)(qs oq:List (Int×Int))(Xs Os:List Int)(w:Int):Prop where
 f1:FVs M qs Xs
 f2:FVs M oq Os
 b1:∀X∈Xs,Bd 1200 X
 b2:∀X∈Os,Bd 1200 X
 len:Xs.length=Os.length
 l12:Xs.length≤12
 pos:0<Xs.length
 s1:Xs.sum=w*M
 s2:Os.sum=w*M
 ab:∀T,PM.ab Xs T≤PM.ab Os T
 d:232792560∣M
end My
set_option linter.all false
namespace PM
section
variable {α:Type}
def putT (R:List (List α))(t:Nat×Nat × α):List (List α):=R.set t.1 ((R.getD t.1 []).set t.2.1 t.2.2)
def at2 (no:α)(R:List (List α))(x k:Nat):α:=(R.getD x []).getD k no
def S2 (no:α)(n:Nat)(ln:Nat->Nat)(W:Nat->Nat->α->Int)(R:List (List α)):Int:=((y0d n).map λx=>((y0d (ln x)).map λk=>W x k (at2 no R x k)).sum).sum
def Shp (n:Nat)(ln:Nat->Nat)(R:List (List α)):Prop:=R.length=n/\∀x<n,(R.getD x []).length=ln x
variable {no:α}{n:Nat}{ln:Nat->Nat}{W:Nat->Nat->α->Int}{R:List (List α)}
theorem z7u {β:Type}{l:List β}{i j:Nat}{v d:β}(h:i<l.length):(l.set i v).getD j d=if j=i then v else l.getD j d:=by
 by_cases c:j=i
 ·subst c;rw[if_pos rfl,y06,y0q h];rfl
 ·rw[if_neg c,y06,y10 (by omega),y06]
theorem Shp.put (s:Shp n ln R){x k:Nat}{a:α}(hx:x<n):Shp n ln (putT R (x,k,a)):=by
 refine⟨by unfold putT;rw[y25];exact s.1,λy hy=>?_⟩
 unfold putT;rw[z7u (by rw[s.1];exact hx)]
 split
 ·rename_i c;subst c;rw[y25];exact s.2 y hy
 ·exact s.2 y hy
theorem at2_put (s:Shp n ln R){x k:Nat}{a:α}(hx:x<n)(hk:k<ln x)(y j:Nat):at2 no (putT R (x,k,a)) y j=if y=x/\j=k then a else at2 no R y j:=by
 unfold at2 putT;rw[z7u (by rw[s.1];exact hx)]
 by_cases c:y=x
 ·subst c;rw[if_pos rfl,z7u (by rw[s.2 y hx];exact hk)]
  by_cases d:j=k
  ·rw[if_pos d,if_pos ⟨rfl,d⟩]
  ·rw[if_neg d,if_neg (λz=>d z.2)]
 ·rw[if_neg c,if_neg (λz=>c z.1)]
theorem sum_oneN (F F':Nat->Int)(g:Nat)(h:∀k,k≠g->F' k=F k):∀n:Nat,g<n->((y0d n).map F').sum=((y0d n).map F).sum+(F' g - F g)
 | 0,hn=>by omega
 | n+1,hn=>by
  rw[y3o,y0f,y0f,y27,y27];simp only[y0n,y3j,y0s,List.sum_nil,y5y]
  by_cases c:n=g
  ·subst c;have:(y0d n).map F'=(y0d n).map F:=y0r λk hk=>h k (by have:=y1j.mp hk;omega)
   rw[this];omega
  ·rw[sum_oneN F F' g h n (by omega),h n c]
   omega
theorem zok (s:Shp n ln R){x k:Nat}{a:α}(hx:x<n)(hk:k<ln x):S2 no n ln W (putT R (x,k,a))=S2 no n ln W R+(W x k a - W x k (at2 no R x k)):=by
 unfold S2;rw[sum_oneN (λy=>((y0d (ln y)).map λj=>W y j (at2 no R y j)).sum) (λy=>((y0d (ln y)).map λj=>W y j (at2 no (putT R (x,k,a)) y j)).sum) x (λy hy=>by
  show((y0d (ln y)).map λj=>W y j (at2 no (putT R (x,k,a)) y j)).sum=_;congr 1;refine y0r λj _=>?_;rw[at2_put s hx hk,if_neg (λz=>hy z.1)]) n hx]
 rw[sum_oneN (λj=>W x j (at2 no R x j)) (λj=>W x j (at2 no (putT R (x,k,a)) x j)) k (λj hj=>by
  show W x j (at2 no (putT R (x,k,a)) x j)=_;rw[at2_put s hx hk,if_neg (λz=>hj z.2)]) (ln x) hk]
 rw[at2_put s hx hk,if_pos ⟨rfl,rfl⟩];omega
theorem fold_S2 (w0:∀x k,W x k no=0):∀(T:List (Nat×Nat × α)) (R:List (List α)),Shp n ln R->(∀t∈T,t.1<n/\t.2.1<ln t.1)->T.Pairwise (λt u=>¬(t.1=u.1/\t.2.1=u.2.1))->(∀t∈T,at2 no R t.1 t.2.1=no)->Shp n ln (T.foldl putT R)/\S2 no n ln W (T.foldl putT R)=S2 no n ln W R+(T.map λt=>W t.1 t.2.1 t.2.2).sum
 | [],R,s,_,_,_=>⟨s,by simp⟩
 | t::T,R,s,hb,hp,hn=>by
  obtain⟨b1,b2⟩:=hb t y0h;have hp':=y45.mp hp;have s':Shp n ln (putT R t):=s.put (x:=t.1) (k:=t.2.1) (a:=t.2.2) b1
  obtain⟨r1,r2⟩:=fold_S2 w0 T (putT R t) s' (λu hu=>hb u (y0b _ hu)) hp'.2 (λu hu=>by
   have e:at2 no (putT R t) u.1 u.2.1=_:=at2_put (x:=t.1) (k:=t.2.1) (a:=t.2.2) s b1 b2 u.1 u.2.1;rw[e,if_neg (λz=>hp'.1 u hu ⟨z.1.symm,z.2.symm⟩)];exact hn u (y0b _ hu))
  refine⟨r1,?_⟩;have e:S2 no n ln W (putT R t)=_:=zok (x:=t.1) (k:=t.2.1) (a:=t.2.2) s b1 b2;rw[y41,r2,e,y0n,y0s,hn t y0h,w0];omega
theorem fold_all {P:α->Prop}(p0:P no):∀(T:List (Nat×Nat × α)) (R:List (List α)),(∀t∈T,P t.2.2)->(∀r∈R,∀a∈r,P a)->∀r∈T.foldl putT R,∀a∈r,P a
 | [],R,_,h=>h
 | t::T,R,ht,h=>by
  rw[y41];refine fold_all p0 T (putT R t) (λu hu=>ht u (y0b _ hu)) λr hr a ha=>?_;unfold putT at hr;rcases y3c hr with z | z
  ·exact h r z a ha
  ·rw[z] at ha;rcases y3c ha with y | y
   ·by_cases c:t.1<R.length
    ·refine h (R.getD t.1 []) ?_ a y;rw[y06,y01 c];exact y39 c
    ·rw[y06,y0w (by omega)] at y
     cases y
   ·rw[y];exact ht t y0h
end
theorem sum_only {β:Type}{F:β->Int}:∀{l:List β} {i:Nat} {y:β},l[i]?=some y->(∀(j:Nat) z,l[j]?=some z->j≠i->F z=0)->(l.map F).sum=F y
 | x::r,0,y,h,k=>by
  cases h;rw[y0n,y0s];have:(r.map F).sum=0:=by
   have:∀z∈r,F z=0:=λz hz=>by
    obtain⟨j,hj⟩:=y0a hz;exact k (j+1) z (by simpa using hj) (by omega)
   rw[y0r this,sum_zeroI]
  omega
 | x::r,i+1,y,h,k=>by
  rw[y0n,y0s,k 0 x rfl (by omega),y31]
  exact sum_only (i:=i) (by simpa using h) λj z hj hn=>k (j+1) z (by simpa using hj) (by omega)
theorem load_zip:∀(ends:List (Nat×Nat)) (sent:List Int) (e:Nat),load ends sent e=((ends.zip sent).map λq=>if inc q.1 e then q.2 else 0).sum
 | [],_,_=>by simp[load]
 | _::_,[],_=>by simp[load]
 | p::r,s::q,e=>by
  rw[load,y3a,y0n,y0s,load_zip r q e]
end PM
set_option Elab.async false
set_option linter.all false
set_option maxRecDepth 100000
namespace My
open PySem L2 L2.EX
theorem z74 {f g:Nat->Int}{n:Nat}(h:∀e<n,f e≤g e)(k:PM.upTo g n≤PM.upTo f n):∀e<n,f e=g e:=by
 rw[z4e,z4e] at k;intro e he;exact PM.sum_eqI (λx hx=>h x (y1j.mp hx)) k e (y1j.mpr he)
section
variable {gs ts sent spare steps:List Int}{ties:List (Nat×Nat)}
theorem z7y {G T:Nat}:(z2y G T ties).ends=ties.map λp=>(p.1,G+p.2):=rfl
theorem ze2 (W:(z2y gs.length ts.length ties).WF)(F:PM.Flow (z2y gs.length ts.length ties) (gs++ts) sent spare)(b:Bool):PM.upTo (λe=>if decide (e<gs.length)=b then PM.load (z2y gs.length ts.length ties).ends sent e else 0) (gs.length+ts.length)=sent.sum:=by
 have lo:=PM.load_over (S:=λe=>decide (decide (e<gs.length)=b)) W.two F.ls;have e1:PM.upTo (λe=>if decide (e<gs.length)=b then PM.load (z2y gs.length ts.length ties).ends sent e else 0) (gs.length+ts.length)=PM.upTo (λe=>if decide (decide (e<gs.length)=b)=true then PM.load (z2y gs.length ts.length ties).ends sent e else 0) (gs.length+ts.length):=PM.upTo_congr λe he=>by
  by_cases c:decide (e<gs.length)=b
  ·rw[if_pos c,if_pos (decide_eq_true c)]
  ·rw[if_neg c,if_neg (λz=>c (of_decide_eq_true z))]
 rw[e1];refine lo.trans ?_;rw[←PM.zip_snd F.ls];congr 1;refine y0r λq hq=>?_;obtain⟨k,hk⟩:=y0a (y16 hq).1;have:=W.lo k q.1 hk;have g1:q.1.1<gs.length:=this.1
 have g2:¬q.1.2<gs.length:=by have:=this.2.1;show ¬_;exact y7i.mpr this
 rw[decide_eq_true g1,decide_eq_false g2];cases b<;>simp
theorem zfg (W:(z2y gs.length ts.length ties).WF)(F:PM.Flow (z2y gs.length ts.length ties) (gs++ts) sent spare)(h:gs.sum≤sent.sum):∀g<gs.length,PM.load (z2y gs.length ts.length ties).ends sent g=gs.getD g 0:=by
 have s:=ze2 W F true;have k:=z74 (f:=λe=>if decide (e<gs.length)=true then PM.load (z2y gs.length ts.length ties).ends sent e else 0) (g:=λe=>if decide (e<gs.length)=true then (gs++ts).getD e 0 else 0) (n:=gs.length+ts.length) (λe he=>by
  split
  ·exact(F.load_le he).1
  ·exact y2e _) (by
  rw[s,PM.upTo_split];have z:PM.upTo (λe=>if decide (gs.length+e<gs.length)=true then (gs++ts).getD (gs.length+e) 0 else 0) ts.length=0:=by
   rw[PM.upTo_congr (g:=λ_=>0) λe _=>if_neg (by simp),PM.upTo_zero]
  have y:PM.upTo (λe=>if decide (e<gs.length)=true then (gs++ts).getD e 0 else 0) gs.length=gs.sum:=by
   rw[PM.upTo_congr (g:=λe=>gs.getD e 0) λe he=>by rw[if_pos (decide_eq_true he),z69 he],z4e]
   have:=zca (λx:Int=>x) 0 gs;rw[this,List.map_id']
  rw[z,y];omega)
 intro g hg;have:=k g (by omega)
 rw[decide_eq_true hg,if_pos rfl,if_pos rfl,z69 hg] at this;exact this
theorem zfs (W:(z2y gs.length ts.length ties).WF)(F:PM.Flow (z2y gs.length ts.length ties) (gs++ts) sent spare)(h:ts.sum≤sent.sum):∀t<ts.length,PM.load (z2y gs.length ts.length ties).ends sent (gs.length+t)=ts.getD t 0:=by
 have s:=ze2 W F false;have k:=z74 (f:=λe=>if decide (e<gs.length)=false then PM.load (z2y gs.length ts.length ties).ends sent e else 0) (g:=λe=>if decide (e<gs.length)=false then (gs++ts).getD e 0 else 0) (n:=gs.length+ts.length) (λe he=>by
  split
  ·exact(F.load_le he).1
  ·exact y2e _) (by
  rw[s,PM.upTo_split];have z:PM.upTo (λe=>if decide (e<gs.length)=false then (gs++ts).getD e 0 else 0) gs.length=0:=by
   rw[PM.upTo_congr (g:=λ_=>0) λe he=>if_neg (by simp[he]),PM.upTo_zero]
  have y:PM.upTo (λe=>if decide (gs.length+e<gs.length)=false then (gs++ts).getD (gs.length+e) 0 else 0) ts.length=ts.sum:=by
   rw[PM.upTo_congr (g:=λe=>ts.getD e 0) λe he=>by rw[if_pos (by simp),z7z],z4e]
   have:=zca (λx:Int=>x) 0 ts;rw[this,List.map_id']
  rw[z,y];omega)
 intro t ht;have:=k (gs.length+t) (by omega)
 rw[decide_eq_false (by omega),if_pos rfl,if_pos rfl,z7z] at this
 exact this
theorem zjv {ws:List Int}{drs:List (List Nat)}{c:PM.Cr}(hn:c.1.Nodup)(cn:c.2.Nodup)(rst:znr ws drs c)(wp:∀x∈ws,1≤x)(lg:gs.length=c.2.length)(D:PM.Done (z2y gs.length ts.length (z0q drs c.1 c.2)) (gs++ts) sent spare steps) :
  ∃nh:Nat->Bool,(c.1.length:Int)*PM.upTo (λg=>if PM.nr steps g then z3e ws (c.2.getD g 0) else 0) c.2.length≤PM.tot (z3e ws) c*PM.cnt c nh/\PM.cnt c nh≤c.1.length/\0≤PM.cnt c nh/\∀v:Int,PM.upTo (λj=>if PM.nr steps (gs.length+j) then v else 0) c.1.length=v*PM.cnt c nh:=by
 refine⟨λh=>PM.nr steps (gs.length+c.1.idxOf h),?_,?_,?_,λv=>?_⟩
 ·have hi:=rst λh=>PM.nr steps (gs.length+c.1.idxOf h);refine y3k (y2y ?_ (by omega)) hi
  have e:PM.upTo (λg=>if PM.nr steps g then z3e ws (c.2.getD g 0) else 0) c.2.length=(c.2.map λx=>if PM.nr steps (c.2.idxOf x) then z3e ws x else 0).sum:=by
   rw[←PM.upTo_list];refine PM.upTo_congr λg hg=>?_;rw[z4v cn (PM.get_of_lt hg)]
  rw[e];unfold PM.inside;refine PM.sum_leI λx hx=>?_;have wpx:=zdr wp x
  by_cases z:PM.nr steps (c.2.idxOf x)=true
  ·have all:(c.1.all λh=>(!(z2r drs x).contains h||PM.nr steps (gs.length+c.1.idxOf h)))=true:=y3w.mpr λh hh=>by
    cases q:(z2r drs x).contains h with
    | false=>rfl
    | true =>
     have hm:=y26.mp q;have lx:=y1e hx
     have lh:=y1e hh;have gx:c.2[c.2.idxOf x]?=some x:=by rw[y01 lx];simp
     have gh:c.1[c.1.idxOf h]?=some h:=by rw[y01 lh];simp
     have tie:(c.2.idxOf x,c.1.idxOf h)∈z0q drs c.1 c.2:=(z2c hn _ _).mpr ⟨x,h,gx,gh,hm⟩;obtain⟨k,hk⟩:=y0a tie;have t:PM.Tie (z2y gs.length ts.length (z0q drs c.1 c.2)) (c.2.idxOf x) k (gs.length+c.1.idxOf h):=⟨(c.2.idxOf x,gs.length+c.1.idxOf h),by rw[z7y,y05,hk];rfl,.inl ⟨rfl,rfl⟩⟩
     have:=D.ties _ _ _ t (show c.2.idxOf x<gs.length by omega) z
     rw[this];rfl
   rw[if_pos z,if_pos all];exact y2e _
  ·rw[if_neg z]
   split<;>omega
 ·unfold PM.cnt;have:∀l:List Nat,(l.map λh=>if PM.nr steps (gs.length+c.1.idxOf h)=true then (1:Int) else 0).sum≤l.length:=λl=>by
   induction l with
   | nil=>simp
   | cons x r ih =>
    rw[y0n,y0s,y1f]
    split<;>omega
  exact this c.1
 ·unfold PM.cnt;refine zli λx hx=>?_;obtain⟨y,_,rfl⟩:=y1i.mp hx
  split<;>omega
 ·unfold PM.cnt;rw[PM.mul_sum,←PM.upTo_list];refine PM.upTo_congr λg hg=>?_;show _=v*if PM.nr steps (gs.length+List.idxOf (c.1.getD g 0) c.1)=true then 1 else 0
  rw[z4v hn (PM.get_of_lt hg)]
  split
  ·rw[y4r]
  ·rw[Int.mul_zero]
theorem zkb {c:PM.Cr}{wk:Nat->Int}:PM.upTo (λg=>wk (c.2.getD g 0)) c.2.length=PM.tot wk c:=PM.upTo_list _
theorem zki (S:Nat->Bool)(f:Nat->Int)(n:Nat):PM.upTo (λg=>if S g then 0 else f g) n=PM.upTo f n - PM.upTo (λg=>if S g then f g else 0) n:=by
 induction n with
 | zero=>rfl
 | succ n ih =>
  show PM.upTo (λg=>if S g then 0 else f g) n+(if S n then 0 else f n)=(PM.upTo f n+f n) - (PM.upTo (λg=>if S g then f g else 0) n+(if S n then f n else 0))
  rw[ih]
  split<;>omega
theorem zal (f:Nat->Int)(k:Int)(n:Nat):PM.upTo (λg=>f g*k) n=PM.upTo f n*k:=by
 induction n with
 | zero=>show(0:Int)=0*k;rw[y3z]
 | succ n ih =>
  show _+_=(_+_)*k;rw[ih,y7d]
theorem zei {n:Nat}{v:Int}{j:Nat}(h:j<n):(y08 n v).getD j 0=v:=by
 rw[y06,y1a,if_pos h];rfl
end
def z64 (H:Hp)(S:List Addr):Hp:=λb=>if b∈S then none else H b
theorem zb6 {H H':Hp}{S:List Addr}(s:Same H H'):Same (z64 H S) (z64 H' S):=λb o h=>by
 unfold z64 at h ⊢
 split at h
 ·cases h
 ·rename_i c;rw[if_neg c];exact s b o h
theorem z9y {H:Hp}{S:List Addr}:Same (z64 H S) H:=λb o h=>by
 unfold z64 at h
 split at h
 ·cases h
 ·exact h
theorem za4 {H:Hp}{S:List Addr}{b:Addr}(h:b ∉ S):z64 H S b=H b:=if_neg h
theorem zk4 {H:Hp}{S:List Addr}{a:Addr}{o:HO}(h:a∈S):z64 (upd H a o) S=z64 H S:=by
 funext b;unfold z64
 split
 ·rfl
 ·rename_i c;rw[z0a (λz=>c (by rw[z];exact h))]
theorem zhx {H:Hp}{S:List Addr}{l:Addr}{o:HO}(h:H l=none):Same (z64 H S) (z64 (upd H l o) (S ++ [l])):=λb u q=>by
 unfold z64 at q ⊢
 split at q
 ·cases q
 ·rename_i c;have n:=z08 q h;rw[if_neg (λz=>by
   rcases y0z.mp z with z | z
   ·exact c z
   ·exact n (y0e.mp z)),z0a n]
  exact q
structure Rw (K:y03)(Hb H':Hp)(rv:List Addr)(ap:List (List V))(ds:List (List PyData)):Prop where
 nd:rv.Nodup
 len:ap.length=rv.length
 dlen:ds.length=rv.length
 at_:∀(i:Nat) r v,rv[i]?=some r->ap[i]?=some v->H' r=some (.lst v)
 old:Same Hb (z64 H' rv)
 all:∀(i:Nat) v d,ap[i]?=some v->ds[i]?=some d->IsAll K (z64 H' rv) v d
section
variable {K:y03}{Hb H' H1:Hp}{rv:List Addr}{ap:List (List V)}{ds:List (List PyData)}
theorem Rw.same (g:Rw K Hb H' rv ap ds):Same Hb H':=g.old.trans z9y
theorem Rw.more (g:Rw K Hb H' rv ap ds)(s:Same H' H1):Rw K Hb H1 rv ap ds:=⟨g.nd,g.len,g.dlen,λi r v h1 h2=>s _ _ (g.at_ i r v h1 h2),g.old.trans (zb6 s),λi v d h1 h2=>IsAll.same (zb6 s) _ _ (g.all i v d h1 h2)⟩
theorem Rw.here (g:Rw K Hb H' rv ap ds){r:Addr}(h:r∈rv):∃v,H' r=some (.lst v):=by
 obtain⟨i,hi⟩:=y0a h;have hil:=(y00.mp hi).1;have hv:ap[i]?=some (ap[i]'(by rw[g.len];exact hil)):=y01 _
 exact⟨_,g.at_ i r _ hi hv⟩
theorem z3b {β:Type}{l:List β}{x y:β}{i:Nat}(h:(l ++ [x])[i]?=some y):l[i]?=some y∨(i=l.length/\y=x):=by
 by_cases c:i<l.length
 ·rw[y0u c] at h;exact .inl h
 ·rw[y17 (by omega)] at h
  have z:i - l.length=0:=by
   have:=(y00.mp h).1;simp at this;omega
  rw[z] at h;cases h;exact .inr ⟨by omega,rfl⟩
theorem Rw.snoc (g:Rw K Hb H1 rv ap ds){l:Addr}(hl:H1 l=none){v:List V}{d:List PyData}(al:IsAll K (z64 H1 rv) v d):Rw K Hb (upd H1 l (.lst v)) (rv ++ [l]) (ap ++ [v]) (ds ++ [d]):=by
 have nl:l ∉ rv:=λz=>by
  obtain⟨v,hv⟩:=g.here z;rw[hl] at hv;cases hv
 have sn:=zhx (S:=rv) (o:=.lst v) hl;refine⟨?_,by rw[y0c,y0c,g.len];rfl,by rw[y0c,y0c,g.dlen];rfl,λi r w h1 h2=>?_,g.old.trans sn,λi w e h1 h2=>?_⟩
 ·rw[y5j];exact⟨g.nd,by simp,λa ha b hb=>by rw[y0e.mp hb];exact λz=>nl (z▸ha)⟩
 ·rcases z3b h1 with z | ⟨z1,z2⟩
  ·rcases z3b h2 with y | ⟨y1,y2⟩
   ·have:=g.at_ i r w z y;rw[z0a (z08 this hl)];exact this
   ·have:=(y00.mp z).1;have:=g.len
    omega
  ·rcases z3b h2 with y | ⟨y1,y2⟩
   ·have:=(y00.mp y).1;have:=g.len
    omega
   ·rw[z2,y2,z01]
 ·rcases z3b h1 with z | ⟨z1,z2⟩
  ·rcases z3b h2 with y | ⟨y1,y2⟩
   ·exact IsAll.same sn _ _ (g.all i w e z y)
   ·have:=(y00.mp z).1;have:=g.len
    have:=g.dlen;omega
  ·rcases z3b h2 with y | ⟨y1,y2⟩
   ·have:=(y00.mp y).1;have:=g.len
    have:=g.dlen;omega
   ·rw[z2,y2];exact IsAll.same sn _ _ al
theorem Rw.set (g:Rw K Hb H' rv ap ds){i:Nat}{r:Addr}{v w:List V}{e:List PyData}(hr:rv[i]?=some r)(hv:ap[i]?=some v)(al:IsAll K (z64 H' rv) w e):Rw K Hb (upd H' r (.lst w)) rv (ap.set i w) (ds.set i e):=by
 have hil:=(y00.mp hr).1;have du:=zk4 (H:=H') (o:=.lst w) (y02 hr)
 refine⟨g.nd,by rw[y25];exact g.len,by rw[y25];exact g.dlen,λj q u h1 h2=>?_,by rw[du];exact g.old,λj u f h1 h2=>?_⟩
 ·by_cases c:j=i
  ·subst c;rw[hr] at h1;cases h1;rw[y0q (by rw[g.len];exact hil)] at h2
   cases h2;exact z01
  ·rw[y10 (by omega)] at h2
   have:=g.at_ j q u h1 h2;have n:q≠r:=λz=>by
    subst z;obtain⟨x1,y1⟩:=y00.mp h1;obtain⟨x2,y2⟩:=y00.mp hr;have e1:=g.nd.idxOf_getElem j x1;have e2:=g.nd.idxOf_getElem i x2
    rw[y1] at e1;rw[y2] at e2;omega
   rw[z0a n];exact this
 ·rw[du]
  by_cases c:j=i
  ·subst c;rw[y0q (by rw[g.len];exact hil)] at h1
   rw[y0q (by rw[g.dlen];exact hil)] at h2
   cases h1;cases h2;exact al
  ·rw[y10 (by omega)] at h1 h2
   exact g.all j u f h1 h2
end
def z5y {α:Type}(drs:List (List Nat))(c:PM.Cr)(ss:List α):List (Nat×Nat × α):=((z0q drs c.1 c.2).zip ss).map λt=>(c.2.getD t.1.1 0,(z2r drs (c.2.getD t.1.1 0)).idxOf (c.1.getD t.1.2 0),t.2)
def z51 {α:Type}(drs:List (List Nat))(no:α):List (List α):=drs.map λr=>y08 r.length no
def z2w {α:Type}(drs:List (List Nat))(L:List PM.Cr)(sss:List (List α))(no:α):List (List α):=((L.zip sss).flatMap λx=>z5y drs x.1 x.2).foldl PM.putT (z51 drs no)
structure TellR {α:Type}(K:y03)(H H':Hp)(l:Addr)(rv:List Addr)(emb:α->PyData)(R:List (List α)):Prop where
 same:Same H H'
 new:H l=none
 out:H' l=some (.lst (rv.map V.ref))
 rows:∀r∈rv,H r=none/\r≠l
 len:rv.length=R.length
 at_:∀(i:Nat) r row,rv[i]?=some r->R[i]?=some row->∃v,H' r=some (.lst v)/\IsAll K H' v (row.map emb)
 nd:rv.Nodup
def zhk {α:Type}(K:y03)(emb:α->PyData):Sp:=λvs H Q _=>∃(ad ac as:Addr) (vn:V) (drs:List (List Nat)) (L:List PM.Cr) (sss:List (List α)) (no:α),vs = [.ref ad,.ref ac,.ref as,vn]/\Is K H (.ref ad) (z3z drs)/\Is K H (.ref ac) (.list (L.map z2u))/\Is K H (.ref as) (.list (sss.map λss=>.list (ss.map emb)))/\Is K H vn (emb no)/\drs.length≤20/\(∀r∈drs,r.length≤20)/\(∀r∈drs,r.Nodup)/\L.length≤20 /\
 (∀c∈L,c.1.Nodup/\c.1.length≤20/\c.2.length≤20/\∀x∈c.2,x<drs.length)/\sss.length=L.length/\(∀(i:Nat) c ss,L[i]?=some c->sss[i]?=some ss->ss.length=(z0q drs c.1 c.2).length)/\∀(l:Addr) (rv:List Addr) (H':Hp),TellR K H H' l rv emb (z2w drs L sss no)->Q (.ref l) H'
def z92 (K:y03):Sp:=λvs H Q _=>∃(ad:Addr) (vc:V) (drs:List (List Nat)) (hands chores:List Nat),vs = [.ref ad,vc]/\Is K H (.ref ad) (z3z drs)/\Is K H vc (z5j hands chores)/\hands.Nodup/\hands.length≤20/\chores.length≤20/\(∀r∈drs,r.length≤20)/\(∀c∈chores,c<drs.length) /\
 ∀v H',Same H H'->Is K H' v (.list ((z0q drs hands chores).map pr))->(∃l,v = .ref l/\H l=none)->Q v H'
section
variable {K:y03}{Hb Hc H':Hp}{rv:List Addr}{ap:List (List V)}{ds:List (List PyData)}
theorem Rw.rebase (g:Rw K Hb H' rv ap ds):Rw K (z64 H' rv) H' rv ap ds:=⟨g.nd,g.len,g.dlen,g.at_,Same.refl _,g.all⟩
theorem Rw.base (g:Rw K Hc H' rv ap ds)(s:Same Hb Hc):Rw K Hb H' rv ap ds:=⟨g.nd,g.len,g.dlen,g.at_,s.trans g.old,g.all⟩
theorem Rw.prs (g:Rw K Hb H' rv ap ds):∀{ts:List (Nat×Nat)} {xs:List V},IsAll K H' xs (ts.map pr)->IsAll K (z64 H' rv) xs (ts.map pr)
 | [],xs,h=>by simpa only[y3j,IsAll] using h
 | p::ts,xs,h=>by
  rw[y0n] at h ⊢
  simp only[IsAll] at h;obtain⟨v,vs,rfl,q,al⟩:=h;refine z1o ?_ (g.prs al);obtain⟨a,rfl,ha⟩:=(is_frac (n:=(p.1:Int)) (d:=(p.2:Int))).mp q;refine(is_frac (n:=(p.1:Int)) (d:=(p.2:Int))).mpr ⟨a,rfl,?_⟩;rw[za4 (λz=>by
   obtain⟨v,hv⟩:=g.here z;rw[ha] at hv;cases hv)]
  exact ha
end
theorem zn3 {α β:Type}{f:α->β}{R:List (List α)}{x k:Nat}{a:α}(hx:x<R.length):(PM.putT R (x,k,a)).map (λr=>r.map f)=(R.map λr=>r.map f).set x (((R.getD x []).map f).set k (f a)):=by
 unfold PM.putT;rw[y2q,y2q]
theorem zdl {α:Type}{n:Nat}{ln:Nat->Nat}:∀(T:List (Nat×Nat × α)) (R:List (List α)),(∀t∈T,t.1<n)->PM.Shp n ln R->PM.Shp n ln (T.foldl PM.putT R)
 | [],R,_,s=>s
 | t::T,R,h,s=>zdl T _ (λu hu=>h u (y0b _ hu)) (s.put (x:=t.1) (k:=t.2.1) (a:=t.2.2) (h t y0h))
theorem z3l {α:Type}{drs:List (List Nat)}{c:PM.Cr}{ss:List α}(hn:c.1.Nodup){t:Nat×Nat × α}(h:t∈z5y drs c ss):∃(g p x hd:Nat),((g,p),t.2.2)∈(z0q drs c.1 c.2).zip ss/\c.2[g]?=some x/\c.1[p]?=some hd/\hd∈z2r drs x/\t.1=x/\t.2.1=(z2r drs x).idxOf hd:=by
 unfold z5y at h;obtain⟨u,hu,rfl⟩:=y1i.mp h;obtain⟨x,hd,h1,h2,h3⟩:=(z2c hn u.1.1 u.1.2).mp (y16 hu).1;refine⟨u.1.1,u.1.2,x,hd,hu,h1,h2,h3,PM.getD_of h1,?_⟩;show(z2r drs (c.2.getD u.1.1 0)).idxOf (c.1.getD u.1.2 0)=_;rw[PM.getD_of h1,PM.getD_of h2]
theorem z8v {α:Type}(drs:List (List Nat))(no:α):PM.Shp drs.length (λx=>(z2r drs x).length) (z51 drs no):=by
 unfold z51;refine⟨y04 ..,λx hx=>?_⟩;rw[y06,y05,y01 hx];show(y08 _ no).length=_;rw[y1m];show _=(drs.getD x []).length;rw[y06,y01 hx];rfl
structure CrowdP (ws:List Int)(drs:List (List Nat))(c:PM.Cr):Prop where
 nd:c.1.Nodup
 cn:c.2.Nodup
 hl:c.1.length≤20
 cl:c.2.length≤20
 ci:∀x∈c.2,x<ws.length
 n0:0<c.1.length
 rst:znr ws drs c
def z4j {α:Type}(f:α->Int)(ties:List (Nat×Nat))(ss:List α)(P:Nat×Nat->Bool):Int:=((ties.zip ss).map λq=>if P q.1 then f q.2 else 0).sum
structure PcOk (ws:List Int)(drs:List (List Nat))(c:PM.Cr)(ss:List Int):Prop where
 len:ss.length=(z0q drs c.1 c.2).length
 nn:∀s∈ss,0≤s
 gv:∀g<c.2.length,z4j id (z0q drs c.1 c.2) ss (λp=>p.1==g)=ws.getD (c.2.getD g 0) 0
 tk:∀t<c.1.length,(z4j id (z0q drs c.1 c.2) ss (λp=>p.2==t) - 1)*c.1.length<PM.tot (z3e ws) c/\PM.tot (z3e ws) c<(z4j id (z0q drs c.1 c.2) ss (λp=>p.2==t)+1)*c.1.length
theorem zh8 {G:Nat}{ties:List (Nat×Nat)}{ss:List Int}{g:Nat}(hg:g<G):PM.load (ties.map λp=>(p.1,G+p.2)) ss g=z4j id ties ss (λp=>p.1==g):=by
 rw[PM.load_zip];unfold z4j;rw[y6v,y20];congr 1;refine y0r λq _=>?_;show(if PM.inc (q.1.1,G+q.1.2) g then q.2 else 0)=if (q.1.1==g)=true then q.2 else 0
 have:PM.inc (q.1.1,G+q.1.2) g=(q.1.1==g):=by
  unfold PM.inc;rw[y2o];simp;omega
 rw[this]
theorem zht {G:Nat}{ties:List (Nat×Nat)}{ss:List Int}{t:Nat}(hp:∀p∈ties,p.1<G):PM.load (ties.map λp=>(p.1,G+p.2)) ss (G+t)=z4j id ties ss (λp=>p.2==t):=by
 rw[PM.load_zip];unfold z4j;rw[y6v,y20];congr 1;refine y0r λq hq=>?_;have:=hp q.1 (y16 hq).1;show(if PM.inc (q.1.1,G+q.1.2) (G+t) then q.2 else 0)=if (q.1.2==t)=true then q.2 else 0
 have:PM.inc (q.1.1,G+q.1.2) (G+t)=(q.1.2==t):=by
  unfold PM.inc;rw[y2o];simp;omega
 rw[this]
theorem CrOk.crowdP {ws:List Int}{drs:List (List Nat)}{many:Nat}{L:List PM.Cr}(C:CrOk ws drs many L)(hm:many≤20)(hw:ws.length≤20){c:PM.Cr}(hc:c∈L):CrowdP ws drs c:=by
 obtain⟨a,b,d,e,f⟩:=C.lt hc;exact⟨z2e e,z2e f,y13 (z26 e a) hm,y13 (z26 f b) hw,b,y0v.mpr d,C.rst c hc⟩
end My
set_option Elab.async false
set_option linter.all false
set_option maxRecDepth 100000
namespace My
open PySem L2 L2.EX
theorem z7v {L:List PM.Cr}{f:PM.Cr->List Nat}(nd:(L.flatMap f).Nodup){i j x:Nat}{c d:PM.Cr}(hi:L[i]?=some c)(hj:L[j]?=some d)(hx:x∈f c)(hy:x∈f d):i=j:=by
 have pw:=(y4j.mp nd).2;rw[y2j] at pw;obtain⟨i1,i2⟩:=y00.mp hi;obtain⟨j1,j2⟩:=y00.mp hj;rcases y34 i j with h | h | h
 ·exact absurd rfl (pw i j i1 j1 h x (by rw[i2];exact hx) x (by rw[j2];exact hy))
 ·exact h
 ·exact absurd rfl (pw j i j1 i1 h x (by rw[j2];exact hy) x (by rw[i2];exact hx))
theorem zfb {hands:List Nat}(g:Nat){row:List Nat}(nr:row.Nodup):(z3g hands g row).Nodup:=by
 unfold z3g;refine List.Pairwise.filterMap _ (λa b hab p hp q hq=>?_) nr;intro e;cases ha:z36 hands a with
 | none=>rw[ha] at hp;cases hp
 | some u =>
  cases hb:z36 hands b with
  | none=>rw[hb] at hq;cases hq
  | some v =>
   rw[ha] at hp;rw[hb] at hq;cases hp;cases hq;cases e;have h1:=za1 ha;have h2:=za1 hb
   rw[h1] at h2;exact hab (y11 h2)
theorem zav {drs:List (List Nat)}{hands chores:List Nat}(hn:hands.Nodup)(nr:∀r∈drs,r.Nodup):∀i:Nat,(z47 drs hands chores i).Nodup
 | 0=>by simp[z47]
 | i+1=>by
  rw[z47,y5j];refine⟨zav hn nr i,zfb i ?_,λa ha b hb e=>?_⟩
  ·by_cases z:chores.getD i 0<drs.length
   ·have e:drs.getD (chores.getD i 0) []=drs[chores.getD i 0]:=by rw[y06,y01 z];rfl
    rw[e];exact nr _ (y39 z)
   ·rw[y06,y0w (by omega)]
    simp
  ·subst e;have h1:=(z6n hn (a:=a.1) (b:=a.2)).mp ha;have h2:=(z89 hn (a:=a.1) (b:=a.2)).mp hb
   omega
theorem zhq {α β:Type}{R:α->α->Prop}:∀{l:List α} {m:List β},l.Pairwise R->(l.zip m).Pairwise λx y=>R x.1 y.1
 | [],_,_=>by simp
 | _::_,[],_=>by simp
 | a::l,b::m,h=>by
  rw[y3a];have h':=y45.mp h;exact y45.mpr ⟨λy hy=>h'.1 y.1 (y16 hy).1,zhq h'.2⟩
section
variable {α:Type}{drs:List (List Nat)}{L:List PM.Cr}{sss:List (List α)}
structure RowsH (drs:List (List Nat))(L:List PM.Cr):Prop where
 nr:∀r∈drs,r.Nodup
 nd:∀c∈L,c.1.Nodup/\c.2.Nodup/\∀x∈c.2,x<drs.length
 cd:(L.flatMap (·.2)).Nodup
 hd:(L.flatMap (·.1)).Nodup
theorem zmi {c:PM.Cr}{ss:List α}(nr:∀r∈drs,r.Nodup)(hn:c.1.Nodup)(cn:c.2.Nodup):(z5y drs c ss).Pairwise λt u=>¬(t.1=u.1/\t.2.1=u.2.1):=by
 unfold z5y;rw[y6u];have z:=zhq (m:=ss) (zav (drs:=drs) (chores:=c.2) hn nr c.2.length);refine y5k (λ{a b} ha hb hab=>?_) z;rintro⟨e1,e2⟩;obtain⟨x,h,h1,h2,h3⟩:=(z2c hn a.1.1 a.1.2).mp (y16 ha).1;obtain⟨y,k,k1,k2,k3⟩:=(z2c hn b.1.1 b.1.2).mp (y16 hb).1;dsimp only at e1 e2;rw[PM.getD_of h1,PM.getD_of k1] at e1;subst e1;rw[PM.getD_of h1,PM.getD_of k1,PM.getD_of h2,PM.getD_of k2] at e2;have g1:a.1.1=b.1.1:=by rw[←z4v cn h1,←z4v cn k1]
 have ek:h=k:=by
  have l1:=y1e h3;have l2:=y1e k3
  have q1:(z2r drs x)[(z2r drs x).idxOf h]'l1=h:=y58 l1;have q2:(z2r drs x)[(z2r drs x).idxOf k]'l2=k:=y58 l2
  rw[←q1,←q2];congr 1
 subst ek;have g2:a.1.2=b.1.2:=by rw[←z4v hn h2,←z4v hn k2]
 exact hab (Prod.ext g1 g2)
theorem za5 (h:RowsH drs L)(hl:sss.length=L.length){no:α}{W:Nat->Nat->α->Int}(w0:∀x k,W x k no=0) :
  PM.Shp drs.length (λx=>(z2r drs x).length) (z2w drs L sss no)/\PM.S2 no drs.length (λx=>(z2r drs x).length) W (z2w drs L sss no)=((L.zip sss).map λx=>((z5y drs x.1 x.2).map λt=>W t.1 t.2.1 t.2.2).sum).sum:=by
 have at0:∀x k,PM.at2 no (z51 drs no) x k=no:=λx k=>by
  unfold PM.at2 z51
  by_cases z:x<drs.length
  ·have e:(drs.map λr=>y08 r.length no).getD x []=y08 (drs[x].length) no:=by
    rw[y06,y05,y01 z];rfl
   rw[e,y06,y1a]
   split<;>rfl
  ·have e:(drs.map λr=>y08 r.length no).getD x [] = []:=by
    rw[y06,y0w (by rw[y04];omega)]
    rfl
   rw[e];rfl
 have bnd:∀t∈(L.zip sss).flatMap λx=>z5y drs x.1 x.2,t.1<drs.length/\t.2.1<(z2r drs t.1).length:=λt ht=>by
  obtain⟨u,hu,hu2⟩:=y2m.mp ht;have hc:=h.nd u.1 (y16 hu).1;obtain⟨_,_,x,hd,_,z1,_,z3,z4,z5⟩:=z3l hc.1 hu2;rw[z4,z5];exact⟨hc.2.2 x (y02 z1),y1e z3⟩
 have pw:((L.zip sss).flatMap λx=>z5y drs x.1 x.2).Pairwise λt u=>¬(t.1=u.1/\t.2.1=u.2.1):=by
  rw[y4j];refine⟨λu hu=>?_,?_⟩
  ·have hc:=h.nd u.1 (y16 hu).1;exact zmi h.nr hc.1 hc.2.1
  ·have z:=zhq (m:=sss) (y4j.mp h.cd).2;refine y5k (λ{a b} ha hb hab t ht u hu=>?_) z;have ca:=h.nd a.1 (y16 ha).1
   have cb:=h.nd b.1 (y16 hb).1;obtain⟨_,_,x,_,_,z1,_,_,z4,_⟩:=z3l ca.1 ht;obtain⟨_,_,y,_,_,y1,_,_,y4,_⟩:=z3l cb.1 hu;rintro⟨e,_⟩;rw[z4,y4] at e;exact hab x (y02 z1) y (y02 y1) e
 obtain⟨s1,s2⟩:=PM.fold_S2 (n:=drs.length) (ln:=λx=>(z2r drs x).length) w0 _ _ (z8v drs no) bnd pw λt _=>at0 t.1 t.2.1;refine⟨s1,?_⟩;have z0:PM.S2 no drs.length (λx=>(z2r drs x).length) W (z51 drs no)=0:=by
  unfold PM.S2;have:∀x,((y0d (z2r drs x).length).map λk=>W x k (PM.at2 no (z51 drs no) x k)).sum=0:=λx=>by
   rw[y0r (λk _=>by rw[at0,w0]:∀k∈y0d (z2r drs x).length,W x k (PM.at2 no (z51 drs no) x k)=0),PM.sum_zeroI]
  rw[y0r λx _=>this x,PM.sum_zeroI]
 unfold z2w;rw[s2,z0,y31];have fl:∀l:List (PM.Cr×List α),((l.flatMap λx=>z5y drs x.1 x.2).map λt=>W t.1 t.2.1 t.2.2).sum=(l.map λx=>((z5y drs x.1 x.2).map λt=>W t.1 t.2.1 t.2.2).sum).sum:=λl=>by
  induction l with
  | nil=>rfl
  | cons a r ih=>rw[y6w,y0f,y27,y0n,y0s,ih]
 exact fl _
theorem zme (h:RowsH drs L)(hl:sss.length=L.length){no:α}{f:α->Int}(f0:f no=0){i g x:Nat}{c:PM.Cr}{ss:List α}(hc:L[i]?=some c)(hs:sss[i]?=some ss)(hg:c.2[g]?=some x):(((z2w drs L sss no).getD x []).map f).sum=z4j f (z0q drs c.1 c.2) ss λp=>p.1==g:=by
 obtain⟨sh,e⟩:=za5 h hl (no:=no) (W:=λy k a=>if y=x then f a else 0) λy k=>by rw[f0];split<;>rfl
 have xl:x<drs.length:=(h.nd c (y02 hc)).2.2 x (y02 hg);have lhs:PM.S2 no drs.length (λx=>(z2r drs x).length) (λy k a=>if y=x then f a else 0) (z2w drs L sss no)=(((z2w drs L sss no).getD x []).map f).sum:=by
  unfold PM.S2;have o:=PM.sum_oneN (λ_=>(0:Int)) (λy=>((y0d (z2r drs y).length).map λk=>if y=x then f (PM.at2 no (z2w drs L sss no) y k) else 0).sum) x (λy hy=>by
   show((y0d (z2r drs y).length).map λk=>if y=x then f (PM.at2 no (z2w drs L sss no) y k) else 0).sum=0
   rw[y0r (λk _=>if_neg hy:∀k∈y0d (z2r drs y).length,_=(0:Int)),PM.sum_zeroI]) drs.length xl
  rw[PM.sum_zeroI,y31,Int.sub_zero] at o;rw[o];simp only[if_true];have ln:((z2w drs L sss no).getD x []).length=(z2r drs x).length:=sh.2 x xl;rw[←ln];have:=zca f no ((z2w drs L sss no).getD x [])
  rw[←this];rfl
 rw[lhs] at e;rw[e];have zi:(L.zip sss)[i]?=some (c,ss):=(y0l (z:=(c,ss))).mpr ⟨hc,hs⟩;rw[PM.sum_only zi λj z hz hj=>?_]
 ·unfold z5y z4j;rw[y20];congr 1;refine y0r λq hq=>?_;obtain⟨y,hd,h1,h2,h3⟩:=(z2c (h.nd c (y02 hc)).1 q.1.1 q.1.2).mp (y16 hq).1;show(if c.2.getD q.1.1 0=x then f q.2 else 0)=if (q.1.1==g)=true then f q.2 else 0
  rw[PM.getD_of h1];have cn:=(h.nd c (y02 hc)).2.1
  by_cases z:q.1.1=g
  ·have:y=x:=by rw[z,hg] at h1;exact(y11 h1).symm
   rw[if_pos this,if_pos (by simp[z])]
  ·have:¬y=x:=λe=>z (by rw[←z4v cn h1,←z4v cn hg,e])
   rw[if_neg this,if_neg (by simp[z])]
 ·obtain⟨z1,z2⟩:=(y0l (z:=z)).mp hz;have:∀t∈z5y drs z.1 z.2,(λt:Nat×Nat × α=>if t.1=x then f t.2.2 else 0) t=0:=λt ht=>by
   obtain⟨_,_,y,_,_,y1,_,_,y4,_⟩:=z3l (h.nd z.1 (y02 z1)).1 ht;refine if_neg λe=>hj ?_;rw[y4] at e;subst e;exact z7v h.cd z1 hc (y02 y1) (y02 hg)
  rw[y0r this,PM.sum_zeroI]
theorem z6i {β γ:Type}(F:β × γ->Int)(d:β)(e:γ):∀{r:List β} {s:List γ},s.length=r.length->((r.zip s).map F).sum=((y0d r.length).map λk=>F (r.getD k d,s.getD k e)).sum:=λ{r s} hl=>by
 congr 1;refine y2u λk=>?_
 by_cases c:k<r.length
 ·rw[y05,y05,y1d c,(y0l (z:=(r.getD k d,s.getD k e))).mpr ⟨?_,?_⟩]
  ·rfl
  ·show r[k]?=some (r.getD k d);rw[y06,y01 c];rfl
  ·show s[k]?=some (s.getD k e);rw[y06,y01 (show k<s.length by omega)];rfl
 ·rw[y0w (by rw[y04,y2k];omega),y0w (by rw[y04,y1z];omega)]
def zns (f:α->Int)(l:List (Nat × α))(h:Nat):Int:=(l.map λx=>if x.1=h then f x.2 else 0).sum
def zf2 (drs:List (List Nat))(R:List (List α)):List (Nat × α):=(drs.zip R).flatMap λx=>x.1.zip x.2
theorem zjy (h:RowsH drs L)(hl:sss.length=L.length){no:α}{f:α->Int}(f0:f no=0){i p h0:Nat}{c:PM.Cr}{ss:List α}(hc:L[i]?=some c)(hs:sss[i]?=some ss)(hp:c.1[p]?=some h0):zns f (zf2 drs (z2w drs L sss no)) h0=z4j f (z0q drs c.1 c.2) ss λq=>q.2==p:=by
 obtain⟨sh,e⟩:=za5 h hl (no:=no) (W:=λx k a=>if (z2r drs x).getD k 0=h0 then f a else 0) λy k=>by rw[f0];split<;>rfl
 have lhs:PM.S2 no drs.length (λx=>(z2r drs x).length) (λx k a=>if (z2r drs x).getD k 0=h0 then f a else 0) (z2w drs L sss no)=zns f (zf2 drs (z2w drs L sss no)) h0:=by
  unfold PM.S2 zns zf2;have fl:∀l:List (List Nat×List α),((l.flatMap λx=>x.1.zip x.2).map λx=>if x.1=h0 then f x.2 else 0).sum=(l.map λx=>((x.1.zip x.2).map λx=>if x.1=h0 then f x.2 else 0).sum).sum:=λl=>by
   induction l with
   | nil=>rfl
   | cons a r ih=>rw[y6w,y0f,y27,y0n,y0s,ih]
  rw[fl,z6i _ [] [] sh.1];congr 1;refine y0r λx hx=>?_;have xl:=y1j.mp hx;show _=((((drs.getD x []).zip ((z2w drs L sss no).getD x [])).map λx=>if x.1=h0 then f x.2 else 0)).sum
  rw[z6i _ 0 no (show((z2w drs L sss no).getD x []).length=(drs.getD x []).length from sh.2 x xl)]
  rfl
 rw[lhs] at e;rw[e];have zi:(L.zip sss)[i]?=some (c,ss):=(y0l (z:=(c,ss))).mpr ⟨hc,hs⟩;have val:∀{x hd:Nat},hd∈z2r drs x->(z2r drs x).getD ((z2r drs x).idxOf hd) 0=hd:=λ{x hd} hm=>by
  have l1:=y1e hm;rw[y06,y01 l1];exact y58 l1
 rw[PM.sum_only zi λj z hz hj=>?_]
 ·unfold z5y z4j;rw[y20];congr 1;refine y0r λq hq=>?_;have hn:=(h.nd c (y02 hc)).1;obtain⟨y,hd,h1,h2,h3⟩:=(z2c hn q.1.1 q.1.2).mp (y16 hq).1;show(if (z2r drs (c.2.getD q.1.1 0)).getD ((z2r drs (c.2.getD q.1.1 0)).idxOf (c.1.getD q.1.2 0)) 0=h0 then f q.2 else 0)=if (q.1.2==p)=true then f q.2 else 0
  rw[PM.getD_of h1,PM.getD_of h2,val h3]
  by_cases z:q.1.2=p
  ·have:hd=h0:=by rw[z,hp] at h2;exact(y11 h2).symm
   rw[if_pos this,if_pos (by simp[z])]
  ·have:¬hd=h0:=λe=>z (by rw[←z4v hn h2,←z4v hn hp,e])
   rw[if_neg this,if_neg (by simp[z])]
 ·obtain⟨z1,z2⟩:=(y0l (z:=z)).mp hz;have:∀t∈z5y drs z.1 z.2,(λt:Nat×Nat × α=>if (z2r drs t.1).getD t.2.1 0=h0 then f t.2.2 else 0) t=0:=λt ht=>by
   obtain⟨_,_,y,hd,_,y1,y2,y3,y4,y5⟩:=z3l (h.nd z.1 (y02 z1)).1 ht;refine if_neg λe=>hj ?_;rw[y4,y5,val y3] at e;subst e;exact z7v h.hd z1 hc (y02 y2) (y02 hp)
  rw[y0r this,PM.sum_zeroI]
end
theorem CrOk.rowsH {ws:List Int}{drs:List (List Nat)}{many:Nat}{L:List PM.Cr}(C:CrOk ws drs many L)(h0:0<many)(hl:drs.length=ws.length)(nr:∀r∈drs,r.Nodup):RowsH drs L:=by
 refine⟨nr,λc hc=>?_,?_,?_⟩
 ·obtain⟨a,b,d,e,f⟩:=C.lt hc;exact⟨z2e e,z2e f,λx hx=>by rw[hl];exact b x hx⟩
 ·have:=z5r C h0;unfold z68 at this;rw[z4r] at this;exact this.nodup_iff.mpr y4n
 ·have:=z5g C h0;unfold z5v at this;rw[z4r] at this;exact this.nodup_iff.mpr y4n
theorem zj7 {ws:List Int}{drs:List (List Nat)}{many:Nat}{L:List PM.Cr}(C:CrOk ws drs many L)(h0:0<many):∃ps qs,LayOk ws L ps/\LoadOk many L ps qs:=by
 have low:∀c∈L,∃p:Int×Int,Low p/\p.1*(c.1.length:Int)=PM.tot (z3e ws) c*p.2:=λc hc=>by
  have n0:0<c.1.length:=y0v.mpr (C.lt hc).2.2.1;obtain⟨_,_,h3,h4,h5⟩:=z8k (a:=PM.tot (z3e ws) c) (b:=(c.1.length:Int)) (by omega) rfl
  exact⟨(_,_),⟨h3,h4⟩,h5⟩
 have pf:∃pf:PM.Cr->Int×Int,∀c∈L,Low (pf c)/\(pf c).1*(c.1.length:Int)=PM.tot (z3e ws) c*(pf c).2:=by
  refine⟨λc=>if h:c∈L then Classical.choose (low c h) else (0,1),λc hc=>?_⟩
  simp only[hc,dif_pos];exact Classical.choose_spec (low c hc)
 obtain⟨pf,hpf⟩:=pf;have hp:=z5g C h0;unfold z5v at hp;rw[z4r] at hp;have ex:∀h<many,∃c,c∈L/\h∈c.1:=λh hh=>by
  obtain⟨c,hc,hin⟩:=y2m.mp (hp.mem_iff.mpr (y1j.mpr hh));exact⟨c,hc,hin⟩
 have nd:(L.flatMap (·.1)).Nodup:=hp.nodup_iff.mpr y4n;refine⟨L.map pf,(y0d many).map λh=>if hh:h<many then pf (Classical.choose (ex h hh)) else (0,1),⟨y04 ..,λi c p hc hp'=>?_⟩,⟨by rw[y04,y1z],λi c p hc hp' h hh=>?_⟩⟩
 ·rw[y05,hc] at hp';cases hp';exact hpf c (y02 hc)
 ·rw[y05,hc] at hp';cases hp';have hlt:h<many:=(C.lt (y02 hc)).1 h hh;rw[y05,y1d hlt];simp only[y78,hlt,dif_pos];obtain⟨z1,z2⟩:=Classical.choose_spec (ex h hlt);generalize Classical.choose (ex h hlt)=d at z1 z2;obtain⟨j,hj⟩:=y0a z1;have:j=i:=z7v nd hj hc z2 hh
  subst this;rw[hc] at hj;cases hj;rfl
structure PcsOk (ws:List Int)(drs:List (List Nat))(R:List (List Int))(qs:List (Int×Int)):Prop where
 len:R.length=drs.length
 row:∀(i:Nat) r s,drs[i]?=some r->R[i]?=some s->s.length=r.length/\s.sum=ws.getD i 0/\∀z∈s,0≤z
 got:∀(h:Nat) q,qs[h]?=some q->q.1 - q.2<zns id (zf2 drs R) h*q.2/\zns id (zf2 drs R) h*q.2<q.1+q.2
theorem zej {K:y03}{a:Addr}{rs:List V}{drs:List (List Nat)}{Q:VK}{H:Hp}(hS:H a=some (.lst rs))(hrs:IsAll K H rs (drs.map z3x))(hl:drs.length≤20)
  (hd:∀(l:Addr) (ys:List V) (H':Hp),Same H H'->H' l=some (.lst ys)->IsAll K H' ys (drs.map z3x)->Q (.ref l) H'):z4x (Itl K a) (z41 0) zj1 (tCB (zjd K) (zaj (xV 0) zj2)) [none] Q H:=by
 have rsl:rs.length=drs.length:=by rw[z0c hrs,y04]
 refine z1c (xs:=rs) (λj ys H5=>Same H H5/\ys.length≤j/\IsAll K H5 ys ((drs.take j).map z3x)) ⟨Same.refl _,y09 _,z0p⟩ (z0h (by omega)) ?_ ?_ ?_
 ·rintro j ys H5 _ ⟨e4,yl,_⟩;exact⟨SqL.of (e4 _ _ hS),yl⟩
 ·rintro j x ys H5 hx ⟨e4,yl,al4⟩;have hj:=(y00.mp hx).1;have hSj:drs[j]?=some (drs[j]'(by omega)):=y01 (by omega)
  obtain⟨ra,hra1,hra⟩:=z32 hrs hSj;rw[hx] at hra1;cases hra1;dsimp only[z41,zj1,tCB,zaj,zj2,xV,sg,y7r];refine z6m ⟨_,.inl (SqL.of (e4 _ _ hra)),λl1 hl1=>?_⟩;have f1:=z06 hl1 (.lst (z09 (drs[j]'(by omega))))
  refine CNx.mk ⟨e4.trans f1,by rw[y0c];show _+1≤_;omega,?_⟩ hj
  rw[z0l hSj,y0f];exact z1l (IsAll.same f1 _ _ al4) (is_list.mpr ⟨l1,_,rfl,z01,z3o _⟩)
 rintro ys H3 ⟨e3,yl,al3⟩ l hl';rw[rsl,y07 (y09 _)] at al3;have f3:=z06 hl' (.lst ys);exact hd l ys _ (e3.trans f3) z01 (IsAll.same f3 _ _ al3)
theorem z91 {K:y03}{H:Hp}:∀{xs:List V} {ds:List PyData},xs.length=ds.length->(∀(i:Nat) x d,xs[i]?=some x->ds[i]?=some d->Is K H x d)->IsAll K H xs ds
 | [],[],_,_=>z0p
 | x::xs,d::ds,hl,h=>z1o (h 0 x d rfl rfl) (z91 (by simpa using hl) λi y e h1 h2=>h (i+1) y e (by simpa using h1) (by simpa using h2))
theorem TellR.is {α:Type}{K:y03}{H H':Hp}{l:Addr}{rv:List Addr}{emb:α->PyData}{R:List (List α)}(t:TellR K H H' l rv emb R):Is K H' (.ref l) (.list (R.map λr=>.list (r.map emb))):=by
 refine is_list.mpr ⟨l,_,rfl,t.out,z91 (by rw[y04,y04,t.len]) λi x d hx hd=>?_⟩
 rw[y05] at hx hd;cases hr:rv[i]? with
 | none=>rw[hr] at hx;cases hx
 | some r =>
  cases hR:R[i]? with
  | none=>rw[hR] at hd;cases hd
  | some row =>
   rw[hr] at hx;rw[hR] at hd;cases hx;cases hd;obtain⟨v,h1,h2⟩:=t.at_ i r row hr hR;exact is_list.mpr ⟨r,v,rfl,h1,h2⟩
end My
set_option Elab.async false
set_option linter.all false
set_option maxRecDepth 100000
namespace My
open PySem L2 L2.EX
theorem zj4 {ws:List Int}{drs:List (List Nat)}{c:PM.Cr}{sent spare steps:List Int}(pc:CrowdP ws drs c)(wp:∀x∈ws,1≤x)
  (D:PM.Done (z2y (z0t ws c.1 c.2).length (takesIn ws c.1 c.2).length (z0q drs c.1 c.2)) (z0t ws c.1 c.2++takesIn ws c.1 c.2) sent spare steps) :
  sent.length=(z0q drs c.1 c.2).length/\(∀s∈sent,0≤s)/\(∀g<c.2.length,z4j id (z0q drs c.1 c.2) sent (λp=>p.1==g)=ws.getD (c.2.getD g 0) 0*c.1.length)/\∀t<c.1.length,z4j id (z0q drs c.1 c.2) sent (λp=>p.2==t)=PM.tot (z3e ws) c:=by
 have gl:(z0t ws c.1 c.2).length=c.2.length:=by unfold z0t;rw[y04]
 have lt:(takesIn ws c.1 c.2).length=c.1.length:=by unfold takesIn;rw[y1m]
 have ewt:z55 ws c.2=PM.tot (z3e ws) c:=by
  unfold z55 PM.tot;rw[y0r λx hx=>(zkk (pc.ci x hx)).symm]
 have tie:∀p∈z0q drs c.1 c.2,p.1<c.2.length/\p.2<c.1.length:=λp hp=>by
  obtain⟨x,h,h1,h2,_⟩:=(z2c pc.nd p.1 p.2).mp hp;exact⟨(y00.mp h1).1,(y00.mp h2).1⟩
 have W:=zag (G:=(z0t ws c.1 c.2).length) (T:=(takesIn ws c.1 c.2).length) (ties:=z0q drs c.1 c.2) λp hp=>by rw[gl,lt];exact tie p hp
 obtain⟨nh,k1,k2,k3,k4⟩:=zjv pc.nd pc.cn pc.rst wp gl D;have b:=D.bnd W;rw[zn8,gl,lt] at b;have gat:∀g<c.2.length,(z0t ws c.1 c.2).getD g 0=z3e ws (c.2.getD g 0)*c.1.length:=λg hg=>by
  unfold z0t;rw[y06,y05,PM.get_of_lt hg];show ws.getD (c.2.getD g 0) 0*_=_;rw[zkk (pc.ci _ (y02 (PM.get_of_lt hg)))]
 have e1:PM.upTo (λe=>if PM.nr steps e=true then 0 else (z0t ws c.1 c.2).getD e 0) c.2.length=PM.tot (z3e ws) c*c.1.length - PM.upTo (λg=>if PM.nr steps g=true then z3e ws (c.2.getD g 0) else 0) c.2.length*c.1.length:=by
  rw[←zkb,←zal,←zal];have z:PM.upTo (λg=>(if PM.nr steps g=true then z3e ws (c.2.getD g 0) else 0)*(c.1.length:Int)) c.2.length=PM.upTo (λg=>if PM.nr steps g=true then z3e ws (c.2.getD g 0)*c.1.length else 0) c.2.length:=PM.upTo_congr λg _=>by
   split
   ·rfl
   ·exact y3z _
  rw[z,←zki];refine PM.upTo_congr λg hg=>?_;rw[gat g hg]
 have e2:PM.upTo (λj=>if PM.nr steps (c.2.length+j)=true then (takesIn ws c.1 c.2).getD j 0 else 0) c.1.length=PM.tot (z3e ws) c*PM.cnt c nh:=by
  rw[←k4,gl];refine PM.upTo_congr λj hj=>?_;unfold takesIn;rw[zei hj,ewt]
 rw[e1,e2] at b;have big:PM.tot (z3e ws) c*c.1.length≤sent.sum:=by
  generalize PM.upTo (λg=>if PM.nr steps g=true then z3e ws (c.2.getD g 0) else 0) c.2.length=A at k1 b
  generalize PM.cnt c nh=m at k1 b;generalize PM.tot (z3e ws) c=t at *
  generalize (c.1.length:Int)=N at *
  have:A*N=N*A:=y1k _ _;omega
 have gsum:(z0t ws c.1 c.2).sum=PM.tot (z3e ws) c*c.1.length:=by
  unfold z0t PM.tot;rw[PM.sum_mulR];congr 1;refine y0r λx hx=>?_;rw[zkk (pc.ci x hx)]
 have tsum:(takesIn ws c.1 c.2).sum=PM.tot (z3e ws) c*c.1.length:=by
  unfold takesIn;rw[ewt];generalize c.1.length=m
  induction m with
  | zero=>simp
  | succ m ih =>
   rw[y1t,y0s,ih,show((m+1:Nat):Int)=(m:Int)+1 by omega,y4x,y4r]
   omega
 have gv:=zfg W D.flow (by rw[gsum];exact big)
 have tk:=zfs W D.flow (by rw[tsum];exact big)
 rw[gl] at gv;rw[lt,gl] at tk;refine⟨by have:=D.flow.ls;rw[z7y,y04] at this;exact this,λs hs=>?_,λg hg=>?_,λt ht=>?_⟩
 ·obtain⟨k,hk⟩:=y0a hs;exact D.flow.nn k s hk
 ·have:=gv g hg;rw[z7y,zh8 hg,gat g hg,zkk (pc.ci _ (y02 (PM.get_of_lt hg)))] at this;exact this
 ·have:=tk t ht;rw[z7y,zht (λp hp=>(tie p hp).1)] at this;rw[this];unfold takesIn;rw[zei ht,ewt]
structure ShcOk (ws:List Int)(drs:List (List Nat))(c:PM.Cr)(ss:List (Int×Int)):Prop where
 len:ss.length=(z0q drs c.1 c.2).length
 ok:∀p∈ss,Low p/\0≤p.1/\p.2∣(c.1.length:Int)/\Bd 330 p.1
 gv:∀M:Int,(c.1.length:Int)∣M->0<M->∀g<c.2.length,z4j (vl M) (z0q drs c.1 c.2) ss (λp=>p.1==g)=ws.getD (c.2.getD g 0) 0*M
 tk:∀M:Int,(c.1.length:Int)∣M->0<M->∀t<c.1.length,z4j (vl M) (z0q drs c.1 c.2) ss (λp=>p.2==t)*c.1.length=PM.tot (z3e ws) c*M
theorem zp8 {ws:List Int}{drs:List (List Nat)}{c:PM.Cr}{sent:List Int}{ss:List (Int×Int)}(pc:CrowdP ws drs c)(hb:∀s∈sent,Bd 330 s)
  (h1:sent.length=(z0q drs c.1 c.2).length) (h2:∀s∈sent,0≤s) (h3:∀g<c.2.length,z4j id (z0q drs c.1 c.2) sent (λp=>p.1==g)=ws.getD (c.2.getD g 0) 0*c.1.length) (h4:∀t<c.1.length,z4j id (z0q drs c.1 c.2) sent (λp=>p.2==t)=PM.tot (z3e ws) c)
  (sl:ss.length=sent.length) (sp:∀(k:Nat) p s,ss[k]?=some p->sent[k]?=some s->Low p/\p.1*c.1.length=s*p.2):ShcOk ws drs c ss:=by
 have n0:(0:Int)<c.1.length:=by have:=pc.n0;omega
 have one:∀(k:Nat) p s,ss[k]?=some p->sent[k]?=some s->p.2∣(c.1.length:Int)/\∀M:Int,(c.1.length:Int)∣M->vl M p*c.1.length=s*M:=λk p s hp hs=>by
  obtain⟨l,e⟩:=sp k p s hp hs;have d:=(z5w l.2 e).1;refine⟨d,λM hM=>?_⟩;have v:=zau (y46 d hM)
  have p1:=l.1;refine y1l (a:=p.2) (by omega) ?_
  have a1:vl M p*(c.1.length:Int)*p.2=vl M p*p.2*c.1.length:=by grind
  rw[a1,v];have a2:p.1*M*(c.1.length:Int)=p.1*c.1.length*M:=by grind
  rw[a2,e]
  grind
 have tl:∀(M:Int),(c.1.length:Int)∣M->∀P:Nat×Nat->Bool,z4j (vl M) (z0q drs c.1 c.2) ss P*c.1.length=z4j id (z0q drs c.1 c.2) sent P*M:=λM hM P=>by
  unfold z4j;rw[PM.sum_mulR,PM.sum_mulR];have z:(0,1)=((0:Int),(1:Int)):=rfl;rw[z6i _ (0,0) (0,1) (by omega),z6i _ (0,0) 0 (by omega)]
  congr 1;refine y0r λk hk=>?_;have hk:=y1j.mp hk;have hp:ss[k]?=some (ss.getD k (0,1)):=by rw[y06,y01 (by omega)];rfl
  have hs:sent[k]?=some (sent.getD k 0):=z1d (by omega)
  show(if P ((z0q drs c.1 c.2).getD k (0,0)) then vl M (ss.getD k (0,1)) else 0)*_=(if P ((z0q drs c.1 c.2).getD k (0,0)) then id (sent.getD k 0) else 0)*M
  split
  ·exact(one k _ _ hp hs).2 M hM
  ·rw[y3z,y3z]
 refine⟨by omega,λp hp=>?_,λM hM m0 g hg=>?_,λM hM m0 t ht=>?_⟩
 ·obtain⟨k,hk⟩:=y0a hp;have hkl:=(y00.mp hk).1;have hs:sent[k]?=some (sent.getD k 0):=z1d (by omega)
  obtain⟨l,e⟩:=sp k p _ hk hs;have s0:=h2 _ (y02 hs);have p1:=l.1
  refine⟨l,?_,(one k p _ hk hs).1,(hb _ (y02 hs)).of_le (zbz l.2 (by omega) e).1⟩
  refine y37 (a:=(c.1.length:Int)) ?_ n0;rw[y3z,e];exact y29 s0 (by omega)
 ·refine y1l (a:=(c.1.length:Int)) (by omega) ?_
  rw[tl M hM,h3 g hg]
  grind
 ·rw[tl M hM,h4 t ht]
theorem ziz {α:Type}{no:α}{n:Nat}{ln:Nat->Nat}:∀(T:List (Nat×Nat × α)) (R:List (List α)),PM.Shp n ln R->(∀t∈T,t.1<n/\t.2.1<ln t.1)->∀x k,PM.at2 no (T.foldl PM.putT R) x k=PM.at2 no R x k∨∃t∈T,t.1=x/\t.2.1=k/\PM.at2 no (T.foldl PM.putT R) x k=t.2.2
 | [],R,_,_,x,k=>.inl rfl
 | t::T,R,s,hb,x,k=>by
  obtain⟨b1,b2⟩:=hb t y0h;have s':PM.Shp n ln (PM.putT R t):=s.put (x:=t.1) (k:=t.2.1) (a:=t.2.2) b1;rw[y41];rcases ziz (no:=no) T (PM.putT R t) s' (λu hu=>hb u (y0b _ hu)) x k with h | ⟨u,hu,h1,h2,h3⟩
  ·have e:PM.at2 no (PM.putT R t) x k=_:=PM.at2_put (x:=t.1) (k:=t.2.1) (a:=t.2.2) s b1 b2 x k;rw[h,e]
   split
   ·rename_i c;exact .inr ⟨t,y0h,c.1.symm,c.2.symm,rfl⟩
   ·exact .inl rfl
  ·exact .inr ⟨u,y0b _ hu,h1,h2,h3⟩
def z9m (K:y03):Sp:=λvs H Q _=>∃(aw ad:Addr) (vc:V) (ws:List Int) (drs:List (List Nat)) (c:PM.Cr),vs = [.ref aw,.ref ad,vc]/\AsksC K H aw ad ws drs/\Is K H vc (z2u c)/\CrowdP ws drs c/\∀ss:List (Int×Int),ShcOk ws drs c ss->Res K H Q (z1v ss)
def zg3 (K:y03):Sp:=λvs H Q _=>∃(aw ad:Addr) (many:Nat) (ws:List Int) (drs:List (List Nat)),vs = [.ref aw,.ref ad,.int (many:Int)]/\AsksC K H aw ad ws drs/\DoOk ws drs many/\(∀r∈drs,r.Nodup) /\
 ∀(L:List PM.Cr) (sss:List (List (Int×Int))) (l:Addr) (rv:List Addr) (H':Hp),CrOk ws drs many L->sss.length=L.length->(∀(i:Nat) c ss,L[i]?=some c->sss[i]?=some ss->ShcOk ws drs c ss)->TellR K H H' l rv (λp:Int×Int=>z2b p.1 p.2) (z2w drs L sss (0,1))->Q (.ref l) H'
structure EvenR (ws:List Int)(drs:List (List Nat))(many:Nat)(R:List (List (Int×Int)))(qs:List (Int×Int)):Prop where
 len:R.length=drs.length
 row:∀(i:Nat) r s,drs[i]?=some r->R[i]?=some s->s.length=r.length
 sum:∀M:Int,0<M->232792560∣M->∀(i:Nat) s,R[i]?=some s->(s.map (vl M)).sum=ws.getD i 0*M
 ok:∀s∈R,∀p∈s,Low p/\0≤p.1/\p.2∣232792560/\Bd 330 p.1
 load:∀M:Int,0<M->232792560∣M->∀(h:Nat) q,qs[h]?=some q->FV M q (bag M (z20 drs R) h)
 even:∀(i:Nat) r s,drs[i]?=some r->R[i]?=some s->∀(k:Nat) p h,s[k]?=some p->r[k]?=some h->0<p.1->∀h'∈r,∀q q',qs[h]?=some q->qs[h']?=some q'->q.1*q'.2≤q'.1*q.2
theorem znd {ws:List Int}{drs:List (List Nat)}{many:Nat}{L:List PM.Cr}{sss:List (List (Int×Int))}{ps qs:List (Int×Int)}(C:CrOk ws drs many L)(h0:0<many)(hm:many≤20)(hw:ws.length≤20)(hl:drs.length=ws.length)(nr:∀r∈drs,r.Nodup)(wp:∀x∈ws,1≤x)(sl:sss.length=L.length)(pk:∀(i:Nat) c ss,L[i]?=some c->sss[i]?=some ss->ShcOk ws drs c ss)
  (lo:LayOk ws L ps) (lk:LoadOk many L ps qs):EvenR ws drs many (z2w drs L sss (0,1)) qs:=by
 have rh:=C.rowsH h0 hl nr;have sh:=(za5 rh sl (no:=((0:Int),(1:Int))) (W:=λ_ _ _=>0) λ_ _=>rfl).1
 have c20:∀c∈L,(c.1.length:Int)∣232792560:=λc hc=>by
  have p:=C.crowdP hm hw hc;exact zoq (by have:=p.n0;omega) (by have:=p.hl;omega)
 have v0:∀M:Int,vl M (0,1)=0:=λM=>y3z _;have pick:∀(i:Nat) c,L[i]?=some c->∃ss,sss[i]?=some ss/\ShcOk ws drs c ss:=λi c hc=>by
  have hi:=(y00.mp hc).1;have hs:sss[i]?=some (sss[i]'(by omega)):=y01 _
  exact⟨_,hs,pk i c _ hc hs⟩
 have rowl:∀(i:Nat) r s,drs[i]?=some r->(z2w drs L sss (0,1))[i]?=some s->s.length=r.length:=λi r s hr hs=>by
  have il:=(y00.mp hr).1;have es:(z2w drs L sss (0,1)).getD i []=s:=by rw[y06,hs];rfl
  have er:z2r drs i=r:=by unfold z2r;rw[y06,hr];rfl
  have:((z2w drs L sss (0,1)).getD i []).length=(z2r drs i).length:=sh.2 i il;rw[es,er] at this;exact this
 refine⟨sh.1,rowl,λM hM hd i s hs=>?_,?_,λM hM hd h q hq=>?_,λi r s hr hs k p h hp hh pos h' hin q q' hq hq'=>?_⟩
 ·have il:i<ws.length:=by rw[←hl,←sh.1];exact(y00.mp hs).1
  have es:(z2w drs L sss (0,1)).getD i []=s:=by rw[y06,hs];rfl
  have cp:=z5r C h0;unfold z68 at cp;rw[z4r] at cp;obtain⟨c,hc,hin⟩:=y2m.mp (cp.mem_iff.mpr (y1j.mpr il));obtain⟨j,hj⟩:=y0a hc;obtain⟨g,hg⟩:=y0a hin;obtain⟨ss,hss,pk1⟩:=pick j c hj;have rs:=zme rh sl (f:=vl M) (no:=((0:Int),(1:Int))) (v0 M) hj hss hg
  have gl:=(y00.mp hg).1;rw[es,pk1.gv M (y46 (c20 c hc) hd) hM g gl,PM.getD_of hg] at rs;exact rs
 ·refine PM.fold_all (P:=λp:Int×Int=>Low p/\0≤p.1/\p.2∣232792560/\Bd 330 p.1) (no:=(0,1)) ⟨⟨by decide,by decide⟩,by decide,by decide,by show(0:Int).natAbs<_;exact y6e (by decide)⟩ ((L.zip sss).flatMap λx=>z5y drs x.1 x.2) (z51 drs (0,1)) (λt ht=>?_) (λr hr a ha=>?_)
  ·obtain⟨u,hu,hu2⟩:=y2m.mp ht;obtain⟨i,hi⟩:=y0a hu;obtain⟨z1,z2⟩:=(y0l (z:=u)).mp hi;obtain⟨_,_,_,_,z3,_⟩:=z3l (rh.nd u.1 (y02 z1)).1 hu2;obtain⟨a,b,d,e⟩:=(pk i u.1 u.2 z1 z2).ok _ (y16 z3).2;exact⟨a,b,y46 d (c20 u.1 (y02 z1)),e⟩
  ·unfold z51 at hr;obtain⟨x,_,rfl⟩:=y1i.mp hr;rw[y5l ha];exact⟨⟨by decide,by decide⟩,by decide,by decide,by show(0:Int).natAbs<_;exact y6e (by decide)⟩
 ·have hh:h<many:=by rw[←lk.len];exact(y00.mp hq).1
  obtain⟨i,c,p,hc,hp,hin,hq'⟩:=lk.of_hand lo C h0 hh;rw[hq] at hq';cases hq';obtain⟨t,ht⟩:=y0a hin;obtain⟨ss,hss,pk1⟩:=pick i c hc;have hs:=zjy rh sl (f:=vl M) (no:=((0:Int),(1:Int))) (v0 M) hc hss ht;have tk:=pk1.tk M (y46 (c20 c (y02 hc)) hd) hM t (y00.mp ht).1
  rw[←hs] at tk;obtain⟨l1,l2⟩:=lo.at_ i c q hc hp;refine⟨l1,?_⟩;have n0:(0:Int)<c.1.length:=by have:=(C.crowdP hm hw (y02 hc)).n0;omega
  refine y1l (a:=(c.1.length:Int)) (by omega) ?_
  have eb:bag M (z20 drs (z2w drs L sss (0,1))) h=zns (vl M) (zf2 drs (z2w drs L sss (0,1))) h:=rfl;rw[eb,y2a q.2,tk];have:q.1*M*(c.1.length:Int)=q.1*c.1.length*M:=by grind
  rw[this,l2]
  grind
 ·have bnd:∀t∈(L.zip sss).flatMap λx=>z5y drs x.1 x.2,t.1<drs.length/\t.2.1<(z2r drs t.1).length:=λt ht=>by
   obtain⟨u,hu,hu2⟩:=y2m.mp ht;have hc:=rh.nd u.1 (y16 hu).1;obtain⟨_,_,x,hd,_,z1,_,z3,z4,z5⟩:=z3l hc.1 hu2;rw[z4,z5];exact⟨hc.2.2 x (y02 z1),y1e z3⟩
  have er:z2r drs i=r:=by unfold z2r;rw[y06,hr];rfl
  have ep:PM.at2 ((0:Int),(1:Int)) (z2w drs L sss (0,1)) i k=p:=by
   unfold PM.at2;rw[show(z2w drs L sss (0,1)).getD i []=s by rw[y06,hs];rfl,y06,hp]
   rfl
  rcases ziz (no:=((0:Int),(1:Int))) _ (z51 drs (0,1)) (z8v drs (0,1)) bnd i k with z | ⟨t,ht,t1,t2,t3⟩
  ·have:PM.at2 ((0:Int),(1:Int)) (z51 drs (0,1)) i k=(0,1):=by
    unfold PM.at2 z51;rw[y06 (l:=drs.map _),y05,hr];show(y08 r.length ((0:Int),(1:Int))).getD k (0,1)=_;rw[y06,y1a]
    split<;>rfl
   unfold z2w at ep;rw[z,this] at ep;rw[←ep] at pos;exact absurd pos (by decide)
  ·obtain⟨u,hu,hu2⟩:=y2m.mp ht;obtain⟨j,hj⟩:=y0a hu;obtain⟨z1,z2⟩:=(y0l (z:=u)).mp hj;obtain⟨g,pp,x,hd,_,y1,y2,y3,y4,y5⟩:=z3l (rh.nd u.1 (y02 z1)).1 hu2;rw[t1] at y4;subst y4;have ek:hd=h:=by
    rw[t2,er] at y5;rw[er] at y3;have l1:=y1e y3;have q1:r[r.idxOf hd]?=some hd:=by rw[y01 l1];simp
    rw[←y5,hh] at q1;exact(y11 q1).symm
   subst ek;have M0:(0:Int)<zd9 ps:=zas λp hp'=>by
    obtain⟨a,ha⟩:=y0a hp';have hal:=(y00.mp ha).1;rw[lo.len] at hal;exact(lo.at_ a _ p (y01 hal) ha).1.1
   have S:=lk.sol lo C h0 wp M0 λp hp'=>z8l hp';obtain⟨j2,d,jle,hd2,hin2⟩:=S.up j u.1 z1 i (y02 y1) h' (by rw[er];exact hin)
   have f:=S.falls (j - j2) j2 hd2 (by rw[show j2+(j - j2)=j by omega];exact z1) h' hin2 hd (y02 y2)
   have dv:∀(g:Nat) q,qs[g]?=some q->Low q/\q.2∣zd9 ps:=λg q hg=>by
    have gl:g<many:=by rw[←lk.len];exact(y00.mp hg).1
    obtain⟨a,c,p,b1,b2,b3,b4⟩:=lk.of_hand lo C h0 gl;rw[hg] at b4;cases b4;exact⟨(lo.at_ a c q b1 b2).1,z8l (y02 b2)⟩
   obtain⟨q1,q2⟩:=dv hd q hq;obtain⟨q3,q4⟩:=dv h' q' hq';exact zmy M0 q1.1 q3.1 (zd0 hq q2) (zd0 hq' q4) f
end My
set_option Elab.async false
set_option linter.all false
set_option maxRecDepth 100000
namespace L2.EX
open PySem PyProof.Rows
section
variable {prog:Program}{w:World}{A:Around}{R:Result->Shared->Prop}{I:Addr}{fp wr:List Addr}{n:Nat}{P:Nat->Value->Prop}{St:Nat->Heap->Prop}{d:Value}
theorem zgq (W:Walks prog w A.in1 I fp wr n P St){bt:Nat->Nat->Bool}(cmp:CmpOf prog w A.in1 .Gt P bt){S:Addr}(nf:S ∉ fp) :
  ∀(m j:Nat) (s:Shared) (b:Value) (c:Nat),n=j+1+m->St (j+1) s.heap->P (argBest bt j) b->s.heap.get? S=some { cls:=.type "list",dict:=none,data:=.seq #[b,b] c,slots:=#[] } ->
  (∀v h' tk,P (argBest bt (n - 1)) v->(∀a o,a ∉ wr->a≠S->s.heap.get? a=some o->h'.get? a=some o)->R (.ok (.ret v)) { s with heap:=h',toks:=tk }) ->
  codeAny (model prog w) A (.builtin "max.loop" ⟨[.ref I,.none,.ref S],[("default",d)]⟩) R s:=by
 have nw:S ∉ wr:=λh=>nf (W.sub _ h);have name:(toString "max"++toString ".loop":String) = "max.loop":=by decide
 intro m
 induction m with
 | zero =>
  intro j s b c e st hP hS fin;refine codeAny_builtin F.entry_max_loop ?_;rw[Around.under_plainId F.plain_max_loop _];show wpAny _ A.in1 (seqItems? (.ref S) >>= _) _ _ s;refine wpAny_bind (wpAny_seqItems hS rfl ?_);show wpAny _ A.in1 (tryCatch (pyNext (.ref I)) _ >>= _) _ _ s;have st':St n s.heap:=by rw[e];exact st
  refine wpAny_bind (wpAny_tryCatch (W.done s _ _ st' λh' tk keep=>?_));show wpAny _ A.in1 (updateSeq S (λ_=>#[]) >>= _) _ _ _;refine wpAny_bind (wpAny_updateSeq (keep S _ nw hS) rfl (wpAny_bind (wpAny_letGo (wpAny_pure ?_))));exact fin b _ tk (by rw[e];exact hP) λa o aw aS q=>(Heap.get?_update_other _ _ (Ne.symm aS)).trans (keep a o aw q)
 | succ m ih =>
  intro j s b c e st hP hS fin;refine codeAny_builtin F.entry_max_loop ?_;rw[Around.under_plainId F.plain_max_loop _];show wpAny _ A.in1 (seqItems? (.ref S) >>= _) _ _ s;refine wpAny_bind (wpAny_seqItems hS rfl ?_);show wpAny _ A.in1 (tryCatch (pyNext (.ref I)) _ >>= _) _ _ s;refine wpAny_bind (wpAny_tryCatch (W.item (j+1) s _ _ (by omega) st λv h' tk hv st' keep=>?_))
  have hS':=keep S _ nw hS;show wpAny _ A.in1 (tryCatch (holding [v,v] (richCompare .Gt v b >>= _)) _ >>= _) _ _ _;refine wpAny_bind (wpAny_tryCatch (wpAny_holding (wpAny_bind (cmp (j+1) (argBest bt j) v b _ _ _ hv hP ?_))));refine wpAny_bind (wpAny_holding (wpAny_truthy_bool (wpAny_bind (wpAny_letGo (wpAny_pure ?_)))))
  by_cases q:bt (j+1) (argBest bt j)=true
  ·rw[q];simp only[if_true];refine wpAny_bind (wpAny_updateSeq hS' rfl (wpAny_bind (wpAny_letGo ?_)));rw[name];refine wpAny_pure ⟨plainId_quiet F.plain_max_loop _,ih (j+1) _ v _ (by omega) (W.frame _ _ _ st' λa af o z=>?_) (by simp only[argBest,q,if_true];exact hv) (Heap.get?_update_self _ hS' rfl) λv' h2 tk2 hv' bP=>?_⟩
   ·exact(Heap.get?_update_other _ _ (λz':S=a=>nf (by rw[z'];exact af))).trans z
   ·exact fin v' h2 tk2 hv' λa o aw aS z=>bP a o aw aS ((Heap.get?_update_other _ _ (Ne.symm aS)).trans (keep a o aw z))
  ·have q':bt (j+1) (argBest bt j)=false:=by simpa using q
   rw[q'];simp only[y3e,if_false];refine wpAny_bind (wpAny_letGo ?_);rw[name];refine wpAny_pure ⟨plainId_quiet F.plain_max_loop _,ih (j+1) _ b c (by omega) st' (by simp only[argBest,q',y3e,if_false];exact hP) hS' λv' h2 tk2 hv' bP=>?_⟩
   exact fin v' h2 tk2 hv' λa o aw aS z=>bP a o aw aS (keep a o aw z)
end
section
variable {prog:Program}{w:World}{A:Around}{E:Value->Shared->Prop}{s:Shared}{d:Value}
theorem zhg (x:Value):argsOk "max" ⟨[x],[("default",d)]⟩:=by rfl
theorem zib {x:Value}{Q:Value->Shared->Prop}
  (h:wpAny (model prog w) A.in1 (pyIter x) (λit s₂=>∃I fp wr n P St bt,it = .ref I/\Walks prog w A.in1 I fp wr n P St/\St 0 s₂.heap/\(∀b∈fp,b<s₂.heap.objs.size)/\0<n/\CmpOf prog w A.in1 .Gt P bt /\
   ∀v h' tk,P (argBest bt (n - 1)) v->(∀b o,b ∉ wr->s₂.heap.get? b=some o->h'.get? b=some o)->Q v { s₂ with heap:=h',toks:=tk }) E s) :
  wpAny (model prog w) A (call (.builtin "max") [x] [("default",d)]) Q E s:=by
 have name:(toString "max"++toString ".loop":String) = "max.loop":=by decide
 have main:wpAny (model prog w) A.in1 (Builtin.max ⟨[x],[("default",d)]⟩) (λfin s'=>match fin with
   | .done f=>(match (Except.ok f:Result) with | .ok (.ret v)=>Q v s' | .ok _=>False | .error e=>E e s')
   | .again c'=>c'.quiet=true/\codeAny (model prog w) A c' (λr s'=>match r with | .ok (.ret v)=>Q v s' | .ok _=>False | .error e=>E e s') s') E s:=by
  show wpAny _ A.in1 (Builtin.Builtins.bindParams "max" ["key","default"] 0 ⟨[],[("default",d)]⟩ >>= _) _ _ s;refine wpAny_bind (wpAny_of_eq (show Builtin.Builtins.bindParams "max" ["key","default"] 0 ⟨[],[("default",d)]⟩=pure [none,some d] from rfl) ?_)
  refine wpAny_bind (wpAny_pure (wpAny_bind (wpAny_mono h (λit s2 h2=>?_) λ_ _ e=>e)));obtain⟨I,fp,wr,n,P,St,bt,rfl,W,st,hf,n0,cmp,fin⟩:=h2;refine wpAny_bind (wpAny_newObj_type ?_);have nf:s2.heap.objs.size ∉ fp:=λz=>y2v _ (hf _ z);have nw:s2.heap.objs.size ∉ wr:=λz=>nf (W.sub _ z)
  rw[name];refine wpAny_pure ⟨plainId_quiet F.plain_max_loop _,?_⟩;have hS:(s2.heap.push { cls:=.type "list",dict:=none,data:=.seq #[] 0,slots:=#[] }).get? s2.heap.objs.size=some { cls:=.type "list",dict:=none,data:=.seq #[] 0,slots:=#[] }:=Heap.get?_push_size _ rfl;refine codeAny_builtin F.entry_max_loop ?_;rw[Around.under_plainId F.plain_max_loop _];show wpAny _ A.in1 (seqItems? (.ref s2.heap.objs.size) >>= _) _ _ _;refine wpAny_bind (wpAny_seqItems hS rfl ?_);show wpAny _ A.in1 (tryCatch (pyNext (.ref I)) _ >>= _) _ _ _;refine wpAny_bind (wpAny_tryCatch (W.item 0 _ _ _ n0 (W.frame _ _ _ st λa _ o z=>Heap.get?_push_of_some _ z) λv h' tk hv st' keep=>?_));have hS':=keep s2.heap.objs.size _ nw hS
  show wpAny _ A.in1 (updateSeq s2.heap.objs.size (λ_=>#[v,v]) >>= _) _ _ _;refine wpAny_bind (wpAny_updateSeq hS' rfl ?_);rw[name];refine wpAny_pure ⟨plainId_quiet F.plain_max_loop _,zgq W cmp nf (n - 1) 0 _ v _ (by omega) (W.frame _ _ _ st' λa af o z=>?_) hv (Heap.get?_update_self _ hS' rfl) λv' h2 tk2 hv' bP=>?_⟩
  ·exact(Heap.get?_update_other _ _ (λz':s2.heap.objs.size=a=>nf (by rw[z'];exact af))).trans z
  ·exact fin v' h2 tk2 hv' λa o aw z=>by
    have na:a≠s2.heap.objs.size:=y0t (Heap.lt_size z);exact bP a o aw na ((Heap.get?_update_other _ _ (Ne.symm na)).trans (keep a o aw (Heap.get?_push_of_some _ z)))
 refine wpAny_call (codeAny_call_builtin F.plain_max F.entry_max ?_);simp only[checkBuiltinCall,F.kind_max];cases hs:Manifest.signature? "max" with
 | none=>exact wpAny_pure main
 | some sig =>
  have ha:Bind.checkArgs "max" sig ⟨[x],[("default",d)]⟩=pure ():=by
   have:=zhg (d:=d) x;simpa only[argsOk,hs] using this
  simp only[ha];exact wpAny_pure main
end
section
variable {X:Cx}{e dd:Expr}{t tk:TA}{p pos kpos:Pos}
theorem z7b (ns:List Int):∀k,∀j≤k,ns.getD j 0≤ns.getD (argBest (λi j=>decide (ns.getD i 0>ns.getD j 0)) k) 0
 | 0,j,h=>by
  have:j=0:=by omega
  subst this;exact y2e _
 | k+1,j,h=>by
  have ih:=z7b ns k;unfold argBest
  by_cases c:ns.getD (k+1) 0>ns.getD (argBest (λi j=>decide (ns.getD i 0>ns.getD j 0)) k) 0
  ·rw[if_pos (decide_eq_true c)]
   by_cases e:j=k+1
   ·rw[e];exact y2e _
   ·have:=ih j (by omega)
    omega
  ·rw[if_neg (λz=>c (of_decide_eq_true z))]
   by_cases e:j=k+1
   ·rw[e];omega
   ·exact ih j (by omega)
def zn9 (K:y03)(t tk:TA)(σ:St)(H:Hp)(Q:VK):Prop:=t σ H λxs H1=>tk σ H1 λzs H2=>match xs,zs with
 | [.ref p],[_]=>∃ns:List Int,SqL K H2 p (ns.map V.int)/\ns ≠ []/\∀z,z∈ns->(∀y∈ns,y≤z)->Q (.int z) H2
 | _,_=>False
theorem zm5 (hm:X.mg "max"=none)(ha:PA X [e] t)(hk:PK X [⟨some "default",dd,kpos⟩] tk)(hg:Gl X "max":=by rfl)(hc:X.calm=true:=by rfl)(he:backTo pos (starEach [e] X.env)=(false,eval e X.env)::backTo pos (starEach [] X.env):=by rfl)(hpl:(backTo pos (starEach [e] X.env)).any (·.1)=false:=by rfl) :
  PE X (.Call (.Name "max" p) [e] [⟨some "default",dd,kpos⟩] pos) (zn9 X.K t tk):=by
 intro aa s σ H Q I h;refine wpAny_Call_Name_kw (z6f I hg hm boot_max ?_ (by decide) (by decide))
 refine PyProof.Rows.callWith_kw (thn (ha pos aa s σ H _ I h) λus s1 ⟨xs,H1,I1,r,q⟩=>thn (hk pos aa s1 σ H1 _ I1 q) λws s2 ⟨zs,H2,I2,rz,q2⟩=>?_) he hpl;have key:∃l z,xs = [.ref l]/\zs = [z]/\∃ns:List Int,SqL X.K H2 l (ns.map V.int)/\ns ≠ []/\∀z,z∈ns->(∀y∈ns,y≤z)->Q (.int z) H2:=by
  dsimp only at q2
  split at q2
  ·exact⟨_,_,rfl,rfl,q2⟩
  ·exact q2.elim
 clear q2 q;obtain⟨l,z,rfl,rfl,ns,hS,hne,q⟩:=key
 ·obtain⟨u,rfl,ru⟩:=z6t r;cases ru;obtain⟨d,rfl,rd⟩:=z6t rz;obtain⟨its,rv,pl,hz⟩:=I2.list hS;have hlen:=rv.length;have esz:its.toArray.size=ns.length:=by simpa using hlen.symm
  have hpos:0<ns.length:=y0v.mpr hne;have hlt:l<s2.heap.objs.size:=by
   obtain⟨o,n,e,_⟩:=pl;exact Heap.lt_size e
  show wpAny _ _ (call (.builtin "max") [.ref l] [("default",d)]) _ _ s2;refine zib (wpAny_pyIter_list pl.isList ?_);refine⟨s2.heap.objs.size,_,_,_,_,_,λi j=>decide (ns.getD i 0>ns.getD j 0),rfl,Walks.list (zer (I2.ok.hd hc)) s2.heap.objs.size l (y0t hlt) _,⟨⟨_,Heap.get?_push_size _ rfl,rfl,rfl⟩,pl.isList.push _⟩,λb hb=>?_,by omega,λi j vi vj s' Q' E' hi hj hq=>?_,λv h' tk hv hk=>?_⟩
  ·rw[Heap.size_push];simp only[y0m,y1g,or_false] at hb;rcases hb with rfl | rfl
   ·exact y38 _
   ·exact y4c hlt
  ·obtain⟨t1,rfl⟩:=z2f rv (by simpa using hi)
   obtain⟨t2,rfl⟩:=z2f rv (by simpa using hj)
   exact gt_int hq
  ·have hv':its[argBest (λi j=>decide (ns.getD i 0>ns.getD j 0)) (its.length - 1)]?=some v:=by simpa using hv
   obtain⟨t,rfl⟩:=z2f rv hv';have esz':its.length=ns.length:=by simpa using esz
   rw[esz'];have hb:=z76 (λi j=>decide (ns.getD i 0>ns.getD j 0)) (ns.length - 1);refine⟨.int _,H2,walked I2 hk,⟨t,rfl⟩,q _ ?_ λy hy=>?_⟩
   ·rw[y06,y01 (by omega)]
    exact y39 _
   ·obtain⟨j,hj⟩:=y0a hy;have hjl:=(y00.mp hj).1;have m:=z7b ns (ns.length - 1) j (by omega)
    have ej:ns.getD j 0=y:=by rw[y06,hj];rfl
    rw[ej] at m;exact m
end
end L2.EX
set_option Elab.async false
set_option linter.all false
set_option maxRecDepth 100000
namespace My
open PySem L2 L2.EX
def M0:Int:=232792560
theorem z86:(0:Int)<M0:=by decide
theorem zk1:Bd 600 M0:=by
 have:Bd 28 M0:=by show _<_;decide
 exact this.le (by decide)
structure RatOk (drs:List (List Nat))(many:Nat)(R:List (List (Int×Int))):Prop where
 sh:ShOk M0 drs many R
 nn:∀s∈R,∀p∈s,0≤p.1
 nd:∀r∈drs,r.Nodup
 m20:many≤20
def z0r (L:List (Nat×(Int×Int)))(h:Nat):List (Int×Int):=(L.filter λx=>x.1==h).map (·.2)
theorem z7h (L:List (Nat×(Int×Int)))(g:Nat)(p:Int×Int)(h:Nat):z0r (L ++ [(g,p)]) h=z0r L h++(if g=h then [p] else []):=by
 unfold z0r;rw[y2g,y0f];congr 1
 by_cases c:g=h<;>simp[c]
theorem zbn (M:Int)(L:List (Nat×(Int×Int)))(h:Nat):((z0r L h).map (vl M)).sum=bag M L h:=by
 unfold z0r bag
 induction L with
 | nil=>rfl
 | cons x r ih =>
  rw[y0n,y0s,←ih,y2l]
  by_cases c:x.1=h
  ·rw[if_pos c,if_pos (by simp[c]),y0n,y0n,y0s]
  ·rw[if_neg c,if_neg (by simp[c]),y31]
theorem zd6 {L:List (Nat×(Int×Int))}{h:Nat}{p:Int×Int}(hp:p∈z0r L h):(h,p)∈L:=by
 unfold z0r at hp;obtain⟨x,hx,rfl⟩:=y1i.mp hp;obtain⟨h1,h2⟩:=y12.mp hx;have:x.1=h:=by simpa using h2
 rw[←this];exact h1
theorem zcg (L L':List (Nat×(Int×Int)))(h:Nat):z0r (L++L') h=z0r L h++z0r L' h:=by
 unfold z0r;rw[y2g,y0f]
theorem z7c (h:Nat):∀(r:List Nat) (s:List (Int×Int)),h ∉ r->z0r (r.zip s) h = []
 | [],s,_=>rfl
 | x::r,[],_=>rfl
 | x::r,p::s,hn=>by
  have ih:=z7c h r s (λz=>hn (y0b _ z));have ne:x≠h:=λz=>hn (z▸y0h)
  unfold z0r at *
  rw[y3a,y2l,if_neg (by simp[ne])]
  exact ih
theorem z88 (h:Nat):∀(r:List Nat) (s:List (Int×Int)),r.Nodup->(z0r (r.zip s) h).length≤1
 | [],s,_=>by show(0:Nat)≤1;omega
 | x::r,[],_=>by show(0:Nat)≤1;omega
 | x::r,p::s,nd=>by
  obtain⟨n1,n2⟩:=y3d.mp nd;have ih:=z88 h r s n2
  by_cases c:x=h
  ·have e:=z7c h r s (c▸n1);unfold z0r at *
   rw[y3a,y2l,if_pos (by simp[c]),y0n,e]
   exact y09 _
  ·unfold z0r at *
   rw[y3a,y2l,if_neg (by simp[c])]
   exact ih
theorem z85 {drs:List (List Nat)}{many:Nat}{R:List (List (Int×Int))}(ok:RatOk drs many R)(h:Nat):∀i:Nat,i≤drs.length->(z0r (z20 (drs.take i) (R.take i)) h).length≤i
 | 0,_=>by simp[z20,z0r]
 | i+1,hi=>by
  have hr:drs[i]?=some (drs[i]'(by omega)):=y01 _
  have hs:R[i]?=some (R[i]'(by rw[ok.sh.len];omega)):=y01 _
  rw[z6g hr hs,zcg,y0c];have:=z85 ok h i (by omega)
  have:=z88 h _ (R[i]'(by rw[ok.sh.len];omega)) (ok.nd _ (y02 hr))
  omega
theorem zbd {drs:List (List Nat)}{many:Nat}{R:List (List (Int×Int))}(ok:RatOk drs many R)(h:Nat):FVs M0 (z0r (z20 drs R) h) ((z0r (z20 drs R) h).map (vl M0)):=by
 have fw:=z85 ok h drs.length (y09 _);rw[y07 (y09 _),y07 (by rw[ok.sh.len];exact y09 _)] at fw
 have few:=ok.sh.few;have mem:∀p∈z0r (z20 drs R) h,Low p/\p.2∣M0/\Bd 600 p.1:=λp hp=>by
  have m:=zd6 hp;unfold z20 at m;obtain⟨x,hx,hm⟩:=y2m.mp m;exact ok.sh.ok x.2 (y16 (a:=x.1) (b:=x.2) hx).2 p (y16 hm).2
 refine⟨by rw[y04],λi p X hp hX=>?_,z86,zk1,λX hX=>?_,by rw[y04];omega⟩
 ·rw[y05,hp] at hX;cases hX;obtain⟨lo,d,b⟩:=mem p (y02 hp);refine⟨lo,?_⟩;rw[←zau d,y1k]
 ·obtain⟨p,hp,rfl⟩:=y1i.mp hX;obtain⟨lo,d,b⟩:=mem p hp;unfold vl Bd;rw[y32];have b1:p.1.natAbs<2^600:=b;have b2:(M0 / p.2).natAbs≤2^28:=by
   have:=Int.natAbs_ediv_le_natAbs M0 p.2;exact y13 this (by decide)
  have h3:p.1.natAbs*(M0 / p.2).natAbs≤2^600*2^28:=Nat.mul_le_mul (y4f b1) b2;exact y2p h3 (by rw[←y6a];exact Nat.pow_lt_pow_right (by decide) (by decide))
def z8i (K:y03):Sp:=λvs H Q _=>∃(ad as:Addr) (many:Nat) (drs:List (List Nat)) (R:List (List (Int×Int))),vs = [.ref ad,.int (many:Int),.ref as]/\Is K H (.ref ad) (z3z drs)/\Is K H (.ref as) (.list (R.map z1v))/\RatOk drs many R /\
 ∀(l:Addr) (vs:List V) (qs:List (Int×Int)) (H':Hp),qs.length=many->LdB M0 (z20 drs R) qs->H l=none->Same H H'->H' l=some (.lst vs)->IsAll K H' vs (qs.map λp=>z2b p.1 p.2)->Q (.ref l) H'
def zrx (qs:List (Int×Int))(hs:List Int):Prop:=hs.length=qs.length/\∀(i j:Nat) p q a b,qs[i]?=some p->qs[j]?=some q->hs[i]?=some a->hs[j]?=some b->(a<b↔p.1*q.2<q.1*p.2)
def zao (K:y03):Sp:=λvs H Q _=>∃(al:Addr) (qs:List (Int×Int)),vs = [.ref al]/\Is K H (.ref al) (z1v qs)/\qs ≠ []/\qs.length≤20/\(∀q∈qs,1≤q.2/\Bd 600 q.2/\Bd 1300 q.1)/\∀(l:Addr) (hs:List Int) (H':Hp),zrx qs hs->Same H H'->H' l=some (.lst (hs.map V.int))->Q (.ref l) H'
theorem zhd {a b c d G:Int}(hb:1≤b)(hd:1≤d)(bG:b≤G)(dG:d≤G):(a*G*G).fdiv b<(c*G*G).fdiv d↔a*d<c*b:=by
 rw[y2c _ (by omega),y2c _ (by omega)]
 have bp:(0:Int)<b:=by omega
 have dp:(0:Int)<d:=by omega
 have gg:(0:Int)<G*G:=y3m (by omega) (by omega)
 constructor
 ·intro h;rcases y28 (a*d) (c*b) with z | z
  ·exact z
  ·refine absurd h (Int.not_lt.mpr ?_);generalize hu:c*G*G / d=u;have h1:u*d≤c*G*G:=by rw[←hu];exact y5v _ (by omega)
   rw[y47 bp];refine y37 (a:=d) ?_ dp;have h2:c*G*G*b≤a*G*G*d:=by
    have:=y1r z (y1u gg);have e1:c*G*G*b=c*b*(G*G):=by grind
    have e2:a*G*G*d=a*d*(G*G):=by grind
    rw[e1,e2];exact this
   have h3:u*d*b≤c*G*G*b:=y1r h1 (by omega)
   have e3:u*b*d=u*d*b:=by grind
   rw[e3];exact y3k h3 h2
 ·intro h;generalize hv:a*G*G / b=v;have h1:v*b≤a*G*G:=by rw[←hv];exact y5v _ (by omega)
  have goal:v+1≤c*G*G / d:=by
   rw[y47 dp];refine y37 (a:=b) ?_ bp;have e1:(v+1)*d*b=v*b*d+d*b:=by grind
   have h2:v*b*d≤a*G*G*d:=y1r h1 (by omega)
   have h3:d*b≤G*G:=Int.mul_le_mul dG bG (by omega) (by omega)
   have h4:(a*d+1)*(G*G)≤c*b*(G*G):=y1r (by omega) (y1u gg)
   have e2:(a*d+1)*(G*G)=a*G*G*d+G*G:=by grind
   have e3:c*G*G*b=c*b*(G*G):=by grind
   omega
  omega
def unR (lt:Nat->Nat->Bool)(r:List Nat):List (Nat×(Int×Int))->Option (Nat×Nat)
 | []=>none
 | x::t=>if 0<x.2.1 then (match r.find? λo=>lt o x.1 with
   | some o=>some (x.1,o)
   | none=>unR lt r t) else unR lt r t
def unC (lt:Nat->Nat->Bool):Nat->List (List Nat×List (Int×Int))->Option (Nat×Nat×Nat)
 | _,[]=>none
 | i,x::t=>match unR lt x.1 (x.1.zip x.2) with
  | some o=>some (i,o.1,o.2)
  | none=>unC lt (i+1) t
def ltQ (qs:List (Int×Int))(a b:Nat):Bool:=decide ((qs.getD a (0,1)).1*(qs.getD b (0,1)).2<(qs.getD b (0,1)).1*(qs.getD a (0,1)).2)
def unV:Option (Nat×Nat×Nat)->PyData
 | none=>.none
 | some x=>.tuple [.int (x.1:Int),.int (x.2.1:Int),.int (x.2.2:Int)]
def zdi (K:y03):Sp:=λvs H Q _=>∃(ad as:Addr) (many:Nat) (drs:List (List Nat)) (R:List (List (Int×Int))),vs = [.ref ad,.int (many:Int),.ref as]/\Is K H (.ref ad) (z3z drs)/\Is K H (.ref as) (.list (R.map z1v))/\RatOk drs many R/\0<many/\∀qs:List (Int×Int),qs.length=many->LdB M0 (z20 drs R) qs->Res K H Q (unV (unC (ltQ qs) 0 (drs.zip R)))
def zba (K:y03):Sp:=λvs H Q _=>∃(ad as al:Addr) (many:Nat) (drs:List (List Nat)) (R:List (List (Int×Int))) (qs:List (Int×Int)),vs = [.ref ad,.ref as,.ref al]/\Is K H (.ref ad) (z3z drs)/\Is K H (.ref as) (.list (R.map z1v))/\Is K H (.ref al) (z1v qs)/\RatOk drs many R/\qs.length=many/\LdB M0 (z20 drs R) qs/\Res K H Q (unV (unC (ltQ qs) 0 (drs.zip R)))
theorem TellR.put {K:y03}{H H' H1:Hp}{l:Addr}{rv:List Addr}{R:List (List (Int×Int))}(t:TellR K H H' l rv (λp:Int×Int=>z2b p.1 p.2) R)(s:Same H' H1){c k:Nat}{r:Addr}{v:List V}{row:List (Int×Int)}{p:Int×Int}{x:V}(hr:rv[c]?=some r)(hR:R[c]?=some row)(hv:H' r=some (.lst v))(hx:Is K H1 x (z2b p.1 p.2)) :
  Same H (upd H1 r (.lst (v.set k x)))/\Is K (upd H1 r (.lst (v.set k x))) (.ref l) (.list ((R.set c (row.set k p)).map z1v)):=by
 have h1:=s _ _ hv;obtain⟨rn,rl⟩:=t.rows r (y02 hr);have sd:Same (del H1 r) (upd H1 r (.lst (v.set k x))):=by
  rw[←z3i (H:=H1) (l:=r) (o:=.lst (v.set k x))];exact del_sub
 refine⟨λb o hb=>?_,is_list.mpr ⟨l,rv.map V.ref,rfl,by rw[z0a (λz=>rl z.symm)];exact s _ _ t.out,z91 (by rw[y04,y04,y25,t.len]) λi y d hy hd=>?_⟩⟩
 ·rw[z0a (z08 hb rn)];exact s _ _ (t.same _ _ hb)
 ·rw[y05] at hy hd;obtain⟨ri,hri,rfl⟩:=y2r.mp hy;obtain⟨row',hrow,rfl⟩:=y2r.mp hd;have hi:=(y00.mp hri).1
  by_cases z:i=c
  ·subst z;rw[hr] at hri;cases hri;rw[y0q (by rw[←t.len];exact hi)] at hrow
   cases hrow;obtain⟨v',hv',al⟩:=t.at_ i r row hr hR;rw[hv] at hv';cases hv';refine is_list.mpr ⟨r,_,rfl,z01,?_⟩;refine IsAll.same sd _ _ ?_;rw[y2q];exact z60 (z6d h1 (IsAll.same s _ _ al)) (z6a hx h1)
  ·rw[y10 (λw=>z w.symm)] at hrow;obtain⟨v',hv',al⟩:=t.at_ i ri row' hri hrow;have ne:ri≠r:=λw=>by
    subst w;have hc:=(y00.mp hr).1;exact z ((y6x hi t.nd).mp (hri.trans hr.symm))
   refine is_list.mpr ⟨ri,v',rfl,by rw[z0a ne];exact s _ _ hv',?_⟩
   exact IsAll.same sd _ _ (z6d h1 (IsAll.same s _ _ al))
theorem RatOk.of_even {ws:List Int}{drs:List (List Nat)}{many:Nat}{R:List (List (Int×Int))}{qs:List (Int×Int)}(e:EvenR ws drs many R qs)(ro:RowsOk ws.length many drs)(h12:many≤12)(few:drs.length≤20):RatOk drs many R:=by
 refine⟨⟨e.len,few,λi r s hr hs=>?_,λs hs p hp=>?_,z86,zk1⟩,λs hs p hp=>(e.ok s hs p hp).2.1,λr hr=>(ro.2 r hr).2.1.imp λh=>y0t h,by omega⟩
 ·obtain⟨_,ce,lt⟩:=ro.2 r (y02 hr);exact⟨e.row i r s hr hs,y13 (z26 ce lt) h12,lt⟩
 ·obtain⟨a,b,c,d⟩:=e.ok s hs p hp;exact⟨a,c,d.le (by decide)⟩
theorem RatOk.put {drs:List (List Nat)}{many:Nat}{R:List (List (Int×Int))}(ok:RatOk drs many R){c k:Nat}{row:List (Int×Int)}{p:Int×Int}(hR:R[c]?=some row)(lo:Low p)(dv:p.2∣M0)(b:Bd 600 p.1)(nn:0≤p.1):RatOk drs many (R.set c (row.set k p)):=by
 have cl:=(y00.mp hR).1;have mem:∀s∈R.set c (row.set k p),∀x∈s,x=p∨∃s'∈R,x∈s':=λs hs x hx=>by
  rcases y3c hs with z | rfl
  ·exact .inr ⟨s,z,hx⟩
  ·rcases y3c hx with z | z
   ·exact .inr ⟨row,y02 hR,z⟩
   ·exact .inl z
 refine⟨⟨by rw[y25];exact ok.sh.len,ok.sh.few,λi r s hr hs=>?_,λs hs x hx=>?_,ok.sh.hM,ok.sh.bM⟩,λs hs x hx=>?_,ok.nd,ok.m20⟩
 ·by_cases z:i=c
  ·subst z;rw[y0q cl] at hs;cases hs;rw[y25];exact ok.sh.row i r row hr hR
  ·rw[y10 (λw=>z w.symm)] at hs;exact ok.sh.row i r s hr hs
 ·rcases mem s hs x hx with rfl | ⟨s',h1,h2⟩
  ·exact⟨lo,dv,b⟩
  ·exact ok.sh.ok s' h1 x h2
 ·rcases mem s hs x hx with rfl | ⟨s',h1,h2⟩
  ·exact nn
  ·exact ok.nn s' h1 x h2
theorem LdB.bds {drs:List (List Nat)}{many:Nat}{R:List (List (Int×Int))}{qs:List (Int×Int)}(ok:RatOk drs many R)(ld:LdB M0 (z20 drs R) qs){h:Nat}{q:Int×Int}(hq:qs[h]?=some q):Low q/\Bd 1300 q.1/\Bd 600 q.2:=by
 obtain⟨lo,e⟩:=ld h q hq;have f:=zbd ok h;have b:Bd 1300 (bag M0 (z20 drs R) h):=by
  rw[←zbn];have:=zgm f.bX (by have:=f.few;omega) ((z0r (z20 drs R) h).map (vl M0)).length
  rw[y07 (y09 _)] at this;exact this.le (by decide)
 have z:FV M0 q (bag M0 (z20 drs R) h):=⟨lo,e⟩;exact⟨lo,z.bd z86 zk1 b⟩
def zr6 (p:Int×Int):Prop:=Low p/\p.2∣M0/\0≤p.1/\p.1≤9/\p.2≤6
def zd7 (K:y03):Sp:=λvs H Q _=>∃z:Int,vs = [.int z]/\0≤z/\∀p,zr6 p->Res K H Q (z2b p.1 p.2)
def zel (K:y03):Sp:=λvs H Q _=>∃(a aw ad:Addr) (ns ws:List Int) (drs:List (List Nat)) (many:Nat),vs = [.ref a,.ref ad]/\SqL K H a (ns.map V.int)/\CrowdA K H aw ad ws drs many/\∀R,RatOk drs many R->Res K H Q (.list (R.map z1v))
def zai (K:y03):Sp:=λvs H Q _=>∃(a aw ad:Addr) (ns ws:List Int) (drs:List (List Nat)) (many:Nat),vs = [.ref a,.ref aw,.ref ad,.int (many:Int)]/\SqL K H a (ns.map V.int)/\ns.length≤63/\CrowdA K H aw ad ws drs many/\∀R,RatOk drs many R->Res K H Q (.list (R.map z1v))
theorem z6w {β:Type}{l:List β}{i:Nat}{x:β}(h:l[i]?=some x):l.drop i=x::l.drop (i+1):=by
 obtain⟨h1,h2⟩:=y00.mp h;rw[y5a h1,h2]
theorem zfw {lt:Nat->Nat->Bool}{r:List Nat}{l:List (Nat×(Int×Int))}{j:Nat}{h:Nat}{p:Int×Int}(hz:l[j]?=some (h,p))(n:0<p.1->r.find? (λo=>lt o h)=none):unR lt r (l.drop j)=unR lt r (l.drop (j+1)):=by
 rw[z6w hz];unfold unR
 by_cases c:0<p.1
 ·rw[if_pos c,n c];cases l.drop (j+1)<;>rfl
 ·rw[if_neg c];cases l.drop (j+1)<;>rfl
theorem zge {lt:Nat->Nat->Bool}{r:List Nat}{l:List (Nat×(Int×Int))}{j:Nat}{h o:Nat}{p:Int×Int}(hz:l[j]?=some (h,p))(c:0<p.1)(n:r.find? (λo=>lt o h)=some o):unR lt r (l.drop j)=some (h,o):=by
 rw[z6w hz];unfold unR;rw[if_pos c,n]
theorem zlb {lt:Nat->Nat->Bool}{l:List (List Nat×List (Int×Int))}{i:Nat}{r:List Nat}{s:List (Int×Int)}(hz:l[i]?=some (r,s))(n:unR lt r (r.zip s)=none):unC lt i (l.drop i)=unC lt (i+1) (l.drop (i+1)):=by
 rw[z6w hz];show(match unR lt r (r.zip s) with | some o=>some (i,o.1,o.2) | none=>unC lt (i+1) (l.drop (i+1)))=_
 rw[n]
theorem zhh {lt:Nat->Nat->Bool}{l:List (List Nat×List (Int×Int))}{i:Nat}{r:List Nat}{s:List (Int×Int)}{h o:Nat}(hz:l[i]?=some (r,s))(n:unR lt r (r.zip s)=some (h,o)):unC lt i (l.drop i)=some (i,h,o):=by
 rw[z6w hz];show(match unR lt r (r.zip s) with | some o=>some (i,o.1,o.2) | none=>unC lt (i+1) (l.drop (i+1)))=_
 rw[n]
theorem Low.nz {p:Int×Int}(l:Low p)(h:0≤p.1):(decide (p.1=0)&&decide (p.2=1)) = !decide (0<p.1):=by
 by_cases c:p.1=0
 ·have g:=l.2;rw[c,Int.gcd_zero_left] at g;have:=l.1
  have e:p.2=1:=by omega
  rw[c,e];rfl
 ·rw[decide_eq_false c,decide_eq_true (show 0<p.1 by omega)]
  rfl
theorem zo5 {n:Nat}(l:List Nat):Sh (n+1) (z3x l):=z3j λd hd=>by
 obtain⟨x,_,rfl⟩:=y1i.mp hd;exact z6l _
theorem zkx {n:Nat}(drs:List (List Nat)):Sh (n+2) (z3z drs):=z3j (n:=n+1) λd hd=>by
 obtain⟨x,_,rfl⟩:=y1i.mp hd;exact zo5 _
theorem zs7 {n:Nat}(R:List (List (Int×Int))):Sh (n+3) (.list (R.map z1v)):=z3j (n:=n+2) λd hd=>by
 obtain⟨x,_,rfl⟩:=y1i.mp hd;exact z4s _
theorem ziy {n:Nat}(drs:List (List Nat))(R:List (List (Int×Int))):Sh (n+4) (.list [z3z drs,.list (R.map z1v)]):=z3j (n:=n+3) λd hd=>by
 rcases y0m.mp hd with rfl | hd
 ·exact zkx (n:=n+1) _
 ·rw[y0e.mp hd];exact zs7 _
theorem zg6 {K:y03}{a:Addr}{rs:List V}{R:List (List (Int×Int))}{Q:VK}{H:Hp}(hS:H a=some (.lst rs))(hrs:IsAll K H rs (R.map z1v))(hl:R.length≤20)
  (hd:∀(l:Addr) (ys:List V) (H':Hp),Same H H'->H' l=some (.lst ys)->IsAll K H' ys (R.map z1v)->Q (.ref l) H'):z4x (Itl K a) (z41 0) zj1 (tCB (zjd K) (zaj (xV 0) zj2)) [none] Q H:=by
 have rsl:rs.length=R.length:=by rw[z0c hrs,y04]
 refine z1c (xs:=rs) (λj ys H5=>Same H H5/\ys.length≤j/\IsAll K H5 ys ((R.take j).map z1v)) ⟨Same.refl _,y09 _,z0p⟩ (z0h (by omega)) ?_ ?_ ?_
 ·rintro j ys H5 _ ⟨e4,yl,_⟩;exact⟨SqL.of (e4 _ _ hS),yl⟩
 ·rintro j x ys H5 hx ⟨e4,yl,al4⟩;have hj:=(y00.mp hx).1;have hSj:R[j]?=some (R[j]'(by omega)):=y01 (by omega)
  obtain⟨y',hy1,iy⟩:=z0z hrs (show(R.map z1v)[j]?=some (z1v (R[j]'(by omega))) by rw[y05,hSj];rfl)
  rw[hx] at hy1;cases hy1;obtain⟨sa,sv,rfl,hsa1,hsv⟩:=is_list.mp iy;dsimp only[z41,zj1,tCB,zaj,zj2,xV,sg,y7r];refine z6m ⟨_,.inl (SqL.of (e4 _ _ hsa1)),λl1 hl1=>?_⟩;have f1:=z06 hl1 (.lst sv);refine CNx.mk ⟨e4.trans f1,by rw[y0c];show _+1≤_;omega,?_⟩ hj
  rw[z0l hSj,y0f];exact z1l (IsAll.same f1 _ _ al4) (is_list.mpr ⟨l1,_,rfl,z01,IsAll.same (e4.trans f1) _ _ hsv⟩)
 rintro ys H3 ⟨e3,yl,al3⟩ l hl';rw[rsl,y07 (y09 _)] at al3;have f3:=z06 hl' (.lst ys);exact hd l ys _ (e3.trans f3) z01 (IsAll.same f3 _ _ al3)
theorem LdB.uniq {M:Int}{L:List (Nat×(Int×Int))}{qs rs:List (Int×Int)}(hM:0<M)(a:LdB M L qs)(b:LdB M L rs)(hl:qs.length=rs.length):qs=rs:=by
 refine y2u λi=>?_;cases h:qs[i]? with
 | none =>
  rw[y3b] at h;rw[y0w (by omega)]
 | some q =>
  have hi:=(y00.mp h).1;have h2:rs[i]?=some (rs[i]'(by omega)):=y01 _
  rw[h2];obtain⟨a1,a2⟩:=a i q h;obtain⟨b1,b2⟩:=b i _ h2;have fa:FV M q (bag M L i):=⟨a1,a2⟩;rw[fa.uniq hM ⟨b1,b2⟩]
end My
set_option Elab.async false
set_option linter.all false
set_option maxRecDepth 100000
set_option maxHeartbeats 4000000
namespace My
open PySem L2 L2.EX
def top (i:Nat):Stmt:=PySem.Challenge.pw_evenyoke_k32_loads_and_unrest.main.body.getD i (.Pass ⟨0,0,0,0⟩)
local macro_rules | `(tactic| walk_at "run")=>`(tactic| try dsimp only [zcx,zpr,zn9,zj0,Cx.nox,Cx.wish,zri,zqv,xT,onB,tOp,xV,sg,tC,zkz,z41,List.set,zq6,zm9,tCB,zaj,zj2,tUn,zpq,zpy,zpn,zpp,zq0,zpx,zpz,uEq,uNe,uLt,uLe,uGt,uGe,zpo,zjg,zp7,zrp,zke,tyN,zq8,xOr,zqh,zqw,tOr,zr7,zm6,zqe,zmw,zq3,zqn,spG,z7e,zek,z3u,z44,zpb,zll,zg5,zd5,zq9,zqi,za9,zj1,zct,zn2,zqc,zqd,zp1,zrg,zo7,zrs,zg9,zrn,zr1,zrl,znm,zq2,tIf,zql,zmx,zk3,zlu,zpu,xSl,zqm,zqt,zhz,zps,zdz,zdf,zqu,zq7,xR1,xR2,xR3,xT2,xT3,zn5,uIs])
local macro_rules | `(tactic| walk_at "one")=>`(tactic| try dsimp only [zcx,zpr,zn9,zj0,Cx.nox,Cx.wish,zqv,xT,onB,tOp,xV,sg,tC,zkz,z41,List.set,zq6,zm9,tCB,zaj,zj2,tUn,zpq,zpy,zpn,zpp,zq0,zpx,zpz,uEq,uNe,uLt,uLe,uGt,uGe,zpo,zjg,zp7,zrp,zke,tyN,zq8,xOr,zqh,zqw,tOr,zr7,zm6,zqe,zmw,zq3,zqn,spG,z7e,zek,z3u,z44,zpb,zll,zg5,zd5,zq9,zqi,za9,zj1,zct,zn2,zqc,zqd,zp1,zrg,zo7,zrs,zg9,zrn,zr1,zrl,znm,zq2,tIf,zql,zmx,zk3,zlu,zpu,xSl,zqm,zqt,zhz,zps,zdz,zdf,zqu,zq7,xR1,xR2,xR3,xT2,xT3,zn5,uIs])
local macro_rules | `(tactic| walk_at "c")=>`(tactic| first | rfl | (dsimp only [z0v]; done) | (dsimp only [z0v]; rfl))
section
variable {P:Program}{w:World}{K:y03}{mg:Str->Option Value}{base:Heap}
structure FldsPour (K:y03)(C:Addr):Prop where
 many_gives:ClsF K C "many_gives"
 sent:ClsF K C "sent"
 spare:ClsF K C "spare"
 tie_ends:ClsF K C "tie_ends"
 ties_at:ClsF K C "ties_at"
variable {aj:Addr}
noncomputable abbrev z5d:Stmt:=top 28
theorem sc_Lmixed:FnScope ["_law_cell","_law_k","_law_number","_law_time"] ["_law_cell","_law_k"] (z04 z5d):=⟨rfl,rfl,rfl,by decide +kernel,rfl,by decide +kernel,by decide +kernel⟩
theorem zil (T:Top K mg "_law_mixed" z5d ["_law_cell","_law_k"])(B:Blt mg) :Def P w K mg base "_law_mixed" 1 ["_law_cell","_law_k"] (z44):=by
 refine z1e (k:=0) T sc_Lmixed (λvs H Q E h=>?_) (λf cdv A outer s H vs Q E hr h=>?_)
 ·unfold z44 at h
  split at h
  ·rfl
  ·exact h.elim
 unfold z44 at h
 split at h
 ·rename_i c k;obtain⟨k0,k1,q⟩:=h;refine⟨_,(z02 (z2x (z0s z4y (z0m z1u (cv 0) z05) z05 (z0o _))
   (z02 (z0d 2 sc_Lmixed.nd (z0m z2a (z45 zbx B.abs zbr (z00 (cv 0) z03)) z05))
    (z02 (z1z (zf7 B.range (z00 (cv 1) z03)) (z0b 3 sc_Lmixed.nd)
    (z07 (z0d 2 sc_Lmixed.nd (z0m z2a (cv 2) (z0m zln z05 z05)))))
    (z07 (z0n (cv 2)))))
   z1h)
   (z02 (z0d 2 sc_Lmixed.nd (z0m z1u (z0m z2i (cv 0) (z0m z2j z05 (cv 1))) z05))
   (z02 (z0d 2 sc_Lmixed.nd (z0m z1u (z0m z2i (z0m z2i (z0m z2j (cv 2) (cv 2)) (z0m z2j z05 (cv 2))) (cv 1)) z05))
   (z07 (z0n (z0m z1u (z0m z2j (cv 2) (cv 2)) z05)))))),?_⟩
  refine rd (σ':=[some (.int c),some (.int k),none,none]) rfl ?_;walk_at "run";refine⟨by decide,z3m (λ_=>?_) (λ_=>?_)⟩
  ·refine⟨by decide,by decide +kernel,⟨by omega,by omega⟩,?_⟩
   refine z9v (λi σ H'=>H'=H/\∃(z:Int) (t:Option V),σ = [some (.int c),some (.int k),some (.int z),t]/\0≤z) ⟨rfl,_,_,rfl,?_⟩ ?_ ?_
   ·rw[y2c _ (by decide)]
    have:=zbj c;omega
   ·rintro i σ H' hi ⟨rfl,z,t,rfl,hz⟩;walk_at "run";refine⟨by decide,by decide +kernel,by decide +kernel,by decide +kernel,rfl,_,_,rfl,?_⟩
    rw[y2c _ (by decide +kernel)]
    exact y4v hz (by decide +kernel)
   ·rintro σ H' ⟨rfl,z,t,rfl,hz⟩;exact q z hz
  ·have m1:=y1q (c+7919*k) (show(2147483629:Int)≠0 by decide)
   have m2:=y1p (c+7919*k) (show(0:Int)<2147483629 by decide)
   have b1:=zef m1 m2;refine⟨z5i (m:=20) (n:=20) (by show _<_;decide) ?_ (by decide),by decide,z5i b1 b1 (by decide),z5i (m:=20) (by show _<_;decide) b1 (by decide),by decide,?_⟩
   ·show k.natAbs<2^20;have:(2:Nat)^20=1048576:=by decide
    omega
   have m3:=y1q ((c+7919*k) % 2147483629*((c+7919*k) % 2147483629)+16807*((c+7919*k) % 2147483629)+k) (show(2147483629:Int)≠0 by decide)
   have m4:=y1p ((c+7919*k) % 2147483629*((c+7919*k) % 2147483629)+16807*((c+7919*k) % 2147483629)+k) (show(0:Int)<2147483629 by decide)
   have b2:=zef m3 m4;exact⟨z5i b2 b2 (by decide),by decide,q _ (y1q _ (by decide))⟩
 ·exact h.elim
noncomputable abbrev z3r:Stmt:=top 27
theorem zce:FnScope ["_law_script","_law_k"] ["_law_script","_law_k"] (z04 z3r):=⟨rfl,rfl,rfl,by decide +kernel,rfl,by decide +kernel,by decide +kernel⟩
theorem zck (T:Top K mg "_law_cell_at" z3r ["_law_script","_law_k"])(B:Blt mg) :Def P w K mg base "_law_cell_at" 1 ["_law_script","_law_k"] (z7e K):=by
 refine z1e (k:=0) T zce (λvs H Q E h=>?_) (λf cdv A outer s H vs Q E hr h=>?_)
 ·unfold z7e at h
  split at h
  ·rfl
  ·exact h.elim
 unfold z7e at h
 split at h
 ·rename_i a k;obtain⟨ns,hS,hk,q⟩:=h;refine⟨_,(z02 (z2x (z0s z7k (cv 1) (z45 z29 B.len y19 (z00 (cv 0) z03)) (z0o _))
   (z07 (z0n (z0j z0k (cv 0) (cv 1) (λ_ _=>rfl))))
   z1h)
   (z07 (z0n z05))),?_⟩
  refine rd (σ':=[some (.ref a),some (.int k)]) rfl ?_;walk_at "run";refine⟨_,.inl hS,z3m (λc=>?_) (λc=>?_)⟩
  ·exact⟨_,_,.inl hS,zgc hk (of_decide_eq_true c),q⟩
  ·have c':¬k<((ns.map V.int).length:Nat):=λz=>c (decide_eq_true z);rw[y04] at c';have e:ns.getD k.toNat 0=0:=by
    rw[y06,y0w (by omega)]
    rfl
   rw[e] at q;exact q
 ·exact h.elim
noncomputable abbrev z9g:Stmt:=top 34
theorem sc_Lrow:FnScope ["_law_cell","_law_many","_law_thin","_law_number","_law_other","_law_row_here","_law_hand"] ["_law_cell","_law_many","_law_thin"] (z04 z9g):=⟨rfl,rfl,rfl,by decide +kernel,rfl,by decide +kernel,by decide +kernel⟩
theorem zls (T:Top K mg "_law_row" z9g ["_law_cell","_law_many","_law_thin"])(B:Blt mg)(aD:Def P w K mg base "_law_mixed" 1 ["_law_cell","_law_k"] (z44)):Def P w K mg base "_law_row" 2 ["_law_cell","_law_many","_law_thin"] (zio):=by
 refine z1e (k:=1) T sc_Lrow (λvs H Q E h=>?_) (λf cdv A outer s H vs Q E hr h=>?_)
 ·obtain⟨c,many,th,rfl,_⟩:=h;rfl
 obtain⟨c,many,th,rfl,hm1,hm,q⟩:=h;refine⟨_,(z02 (z0d 3 sc_Lrow.nd (z0f aD (hr.mono (by decide)) (z00 (cv 0) (z00 z05 z03))))
   (z02 (z0d 4 sc_Lrow.nd (z0f aD (hr.mono (by decide)) (z00 (cv 0) (z00 z05 z03))))
   (z02 (z0d 5 sc_Lrow.nd (z1p z03))
   (z02 (z1z (zf7 B.range (z00 (cv 1) z03)) (z0b 6 sc_Lrow.nd)
   (z02 (z9u (z2x (z8p (z0s z4y (z0m z1u (cv 3) z05) z05 (z0o _)) (z5l (z80 (z0s z4y (z0m z1u (cv 4) z05) z05 (z0o _)) (z8o (z46 (z3c (cv 2))))).pt)).pt
    (z07 (z22 (z1b (cv 5) (z00 (cv 6) z03))))
    z1h))
    (z02 (z0d 3 sc_Lrow.nd (z0m z2a (cv 3) z05))
    (z07 (z0d 4 sc_Lrow.nd (z0m z2a (cv 4) z05))))))
   (z02 (z2x (z0s (zdj hr) (cv 5) (z1p z03) (z0o _))
   (z07 (z0d 5 sc_Lrow.nd (z1p (z00 (z0m z1u (z0f aD (hr.mono (by decide)) (z00 (cv 0) (z00 z05 z03))) (cv 1)) z03))))
   z1h)
   (z07 (z0n (cv 5)))))))),?_⟩
 refine rd (σ':=[some (.int c),some (.int (many:Int)),some (.bl th),none,none,none,none]) rfl ?_;walk_at "run";refine⟨by decide,by decide,λz z0=>?_⟩
 walk_at "run";refine⟨by decide,by decide,λz' z0'=>?_⟩
 walk_at "run";refine⟨sz (by show 0≤1000;decide),λr hr1=>⟨⟨by omega,by omega⟩,?_⟩⟩
 refine z9v (λj σ' H'=>∃y y' t6 row,σ' = [some (.int c),some (.int (many:Int)),some (.bl th),some (.int y),some (.int y'),some (.ref r),t6]/\Same H H'/\H' r=some (.lst (z09 row))/\row.Pairwise (· < ·)/\∀h∈row,h<j) ⟨_,_,_,[],rfl,z06 hr1 _,z01,y6r,λ_ z=>(by cases z)⟩ ?_ ?_
 ·rintro j σ' H' hj ⟨y,y',t6,row,rfl,s2,kr,rp,rb⟩;have rl:row.length≤j:=z26 rp rb;walk_at "run";refine⟨fun σ' H'=>∃row,σ' = [some (.int c),some (.int (many:Int)),some (.bl th),some (.int y),some (.int y'),some (.ref r),some (.int (j:Int))]/\Same H H'/\H' r=some (.lst (z09 row))/\row.Pairwise (· < ·)/\∀h∈row,h<j+1,?_,?_⟩
  ·have no:∃row,[some (V.int c),some (.int (many:Int)),some (.bl th),some (.int y),some (.int y'),some (.ref r),some (.int (0+(j:Int)))] = [some (V.int c),some (.int (many:Int)),some (.bl th),some (.int y),some (.int y'),some (.ref r),some (.int (j:Int))]/\Same H H'/\H' r=some (.lst (z09 row))/\row.Pairwise (· < ·)/\∀h∈row,h<j+1:=⟨row,by rw[y31],s2,kr,rp,λh hh=>by have:=rb h hh;omega⟩
   have yes:(∃xs,H' r=some (.lst xs))/\∃xs,H' r=some (.lst xs)/\xs.length<sizeLine/\∃row,[some (V.int c),some (.int (many:Int)),some (.bl th),some (.int y),some (.int y'),some (.ref r),some (.int (0+(j:Int)))] = [some (V.int c),some (.int (many:Int)),some (.bl th),some (.int y),some (.int y'),some (.ref r),some (.int (j:Int))]/\Same H (upd H' r (.lst (xs ++ [.int (0+(j:Int))])))/\upd H' r (.lst (xs ++ [.int (0+(j:Int))])) r=some (.lst (z09 row))/\row.Pairwise (· < ·)/\∀h∈row,h<j+1:=by
    obtain⟨ra,rb'⟩:=RowOk.add (many:=many) ⟨rp,rb⟩;refine⟨⟨_,kr⟩,_,kr,z0h (by rw[z0i];omega),row ++ [j],by rw[y31],λb o hb=>?_,?_,ra,rb'⟩
    ·rw[z0a (z08 hb hr1)];exact s2 _ _ hb
    ·rw[z01];unfold z09;rw[y0f,y31];rfl
   walk_at "run";refine⟨by decide,z3m (λ_=>⟨by decide,z3m (λ_=>z6m yes) (λ_=>?_)⟩) (λ_=>z7t no)⟩
   cases th
   ·exact z6m yes
   ·exact z7t no
  ·rintro σ' H' ⟨row,rfl,s2,kr,rp,rb⟩;walk_at "run";exact⟨by decide,by decide +kernel,by decide,by decide +kernel,_,_,_,row,rfl,s2,kr,rp,rb⟩
 ·rintro σ' H' ⟨y,y',t6,row,rfl,s2,kr,rp,rb⟩;rw[show((many:Int)).toNat=many by omega] at rb
  walk_at "run";refine⟨sz (by show 0≤1000;decide),λu hu=>?_⟩
  have sU:=z06 hu (.lst []);refine⟨z3x row,.list [],is_list.mpr ⟨r,_,rfl,sU _ _ kr,z3o _⟩,is_list.mpr ⟨u,[],rfl,z01,z0p⟩,zdk _,zdk [],?_⟩;walk_at "run";unfold z3x;rw[z9x];refine z3m (λ_=>?_) (λhne=>?_)
  ·have mpos:(0:Int)<(many:Int):=by omega
   refine⟨by decide,by decide,λw w0=>⟨mpos,sz (by show 1≤1000;decide),λr2 hr2=>?_⟩⟩
   obtain⟨m,hm'⟩:=y2b (y1q w (show(many:Int)≠0 by omega))
   have hml:=y1p w mpos;rw[hm'] at hml ⊢
   refine q r2 [m] _ (by simp) (y5o _ _) (λh hh=>by rw[y0e.mp hh];omega) (z2v (s2.trans sU) hr2) (s2.trans (sU.trans (z06 hr2 _))) z01
  ·refine q r row _ (λz=>?_) rp rb hr1 (s2.trans sU) (sU _ _ kr);subst z;exact hne rfl
noncomputable abbrev z6r:Stmt:=top 33
theorem sc_Lwork:FnScope ["_law_cell","_law_number"] ["_law_cell"] (z04 z6r):=⟨rfl,rfl,rfl,by decide +kernel,rfl,by decide +kernel,by decide +kernel⟩
theorem zjm (T:Top K mg "_law_work" z6r ["_law_cell"])(B:Blt mg)(aD:Def P w K mg base "_law_mixed" 1 ["_law_cell","_law_k"] (z44)):Def P w K mg base "_law_work" 2 ["_law_cell"] (zhc):=by
 refine z1e (k:=1) T sc_Lwork (λvs H Q E h=>?_) (λf cdv A outer s H vs Q E hr h=>?_)
 ·obtain⟨c,rfl,_⟩:=h;rfl
 obtain⟨c,rfl,q⟩:=h;refine⟨_,(z02 (z0d 1 sc_Lwork.nd (z0f aD (hr.mono (by decide)) (z00 (cv 0) (z00 z05 z03))))
   (z02 (z2x (z0s z4y (z0m z1u (cv 1) z05) z05 (z0o _))
   (z07 (z0n (z0m z2i z05 (z0m z1u (cv 0) (z0m zou (z0m zln z05 z05) z05)))))
   z1h)
   (z02 (z2x (z0s z4y (z0m z1u (cv 1) z05) z05 (z0o _))
   (z07 (z0n (z0m z2i z05 (z0m z1u (z0m z2a (cv 1) z05) z05))))
   z1h)
   (z07 (z0n (z0m z2i z05 (z0m z1u (z0m z2a (cv 1) z05) z05))))))),?_⟩
 refine rd (σ':=[some (.int c),none]) rfl ?_;walk_at "run";refine⟨by decide,by decide,λz z0=>?_⟩
 walk_at "run";have big:(1001:Int)≤10^60:=by decide +kernel
 refine⟨by decide,z3m (λ_=>?_) (λ_=>⟨by decide,z3m (λ_=>?_) (λ_=>?_)⟩)⟩
 ·have m0:=y1q c (show(10^y4i 60 - 1:Int)≠0 by decide +kernel)
  have m1:=y1p c (show(0:Int)<10^y4i 60 - 1 by decide +kernel)
  have e6:(10:Int)^y4i 60=10^60:=rfl;exact⟨by decide,by decide +kernel,by decide +kernel,q _ (by omega) (by rw[e6] at m1 ⊢;omega)⟩
 ·have m0:=y1q (z.fdiv 4) (show(1000:Int)≠0 by decide)
  have m1:=y1p (z.fdiv 4) (show(0:Int)<1000 by decide)
  exact⟨by decide,by decide +kernel,by decide,q _ (by omega) (by omega)⟩
 ·have m0:=y1q (z.fdiv 4) (show(5:Int)≠0 by decide)
  have m1:=y1p (z.fdiv 4) (show(0:Int)<5 by decide)
  exact⟨by decide,by decide +kernel,by decide,q _ (by omega) (by omega)⟩
noncomputable abbrev z5c:Stmt:=top 35
theorem sc_Lcrowd:FnScope ["_law_script","_law_number","_law_many","_law_way","_law_works","_law_doers","_law_k","_law_cell","_law_row_here"] ["_law_script"] (z04 z5c):=⟨rfl,rfl,rfl,by decide +kernel,rfl,by decide +kernel,by decide +kernel⟩
theorem zii (T:Top K mg "_law_crowd" z5c ["_law_script"])(B:Blt mg)(aD:Def P w K mg base "_law_mixed" 1 ["_law_cell","_law_k"] (z44))(aI:Def P w K mg base "_law_cell_at" 1 ["_law_script","_law_k"] (z7e K))(D_Lrow:Def P w K mg base "_law_row" 2 ["_law_cell","_law_many","_law_thin"] (zio))(D_Lwork:Def P w K mg base "_law_work" 2 ["_law_cell"] (zhc)):Def P w K mg base "_law_crowd" 3 ["_law_script"] (zgn K):=by
 refine z1e (k:=2) T sc_Lcrowd (λvs H Q E h=>?_) (λf cdv A outer s H vs Q E hr h=>?_)
 ·obtain⟨a,ns,rfl,_⟩:=h;rfl
 obtain⟨a,ns,rfl,hS,hlen,q⟩:=h;refine⟨_,(z02 (z0d 1 sc_Lcrowd.nd (z0f aD (hr.mono (by decide)) (z00 (z0f aI (hr.mono (by decide)) (z00 (cv 0) (z00 z05 z03))) (z00 z05 z03))))
   (z02 (z0d 2 sc_Lcrowd.nd (z0m z2i z05 (z0m z1u (cv 1) z05)))
   (z02 (z0d 3 sc_Lcrowd.nd (z0m z1u (z0m z2a (cv 1) z05) z05))
   (z02 (z9u (z2x (z0s z4y (cv 3) z05 (z0o _))
   (z07 (z0d 2 sc_Lcrowd.nd z05))
   z1h))
   (z02 (z0d 4 sc_Lcrowd.nd (z1p z03))
   (z02 (z0d 5 sc_Lcrowd.nd (z1p z03))
   (z02 (z1z (z71 B.enumerate (zkc (cv 0) (z3t z05) (z3t (z0m z2i z05 (z0m z1u (z0m z2a (cv 1) z05) z05))))) (z5k (z0b 6 sc_Lcrowd.nd) (z0b 7 sc_Lcrowd.nd))
   (z02 (z0d 8 sc_Lcrowd.nd (z0f D_Lrow (hr.mono (by decide)) (z00 (cv 7) (z00 (cv 2) (z00 (zob (z3k z7k (cv 3) z05 (z0o _)) (z81 (z3k z4y (cv 3) z05 (z0o _)))) z03)))))
    (z02 (z9u (z2x (z0s z4y (cv 3) z05 (z0o _))
    (z07 (z0d 8 sc_Lcrowd.nd (z45 zga B.sorted zg1 (z00 (zkc (z1p (z00 (z0m z1u (cv 6) (cv 2)) (z00 (z0m z1u (z0m z2i (cv 6) z05) (cv 2)) z03))) z6q (z3t (z45 zm1 B.min zlh (z00 (cv 2) (z00 z05 z03))))) z03))))
    z1h))
    (z02 (z9u (z2x (z0s z4y (cv 3) z05 (z0o _))
    (z07 (z8h (N:=["_law_hand"]) (fr:=[]) 8 1 sc_Lcrowd.nd (zf7 B.range (z00 (z0m z2i z05 (z0m z1u (cv 6) (cv 2))) z03)) (λC hN=>by exact pgC ((z0b 0 hN)) (by walk_at "c")) (λC hN=>by exact peC ((cv 0)) (by walk_at "c"))))
    z1h))
    (z02 (z22 (z1b (cv 4) (z00 (z0f D_Lwork (hr.mono (by decide)) (z00 (cv 7) z03)) z03)))
    (z07 (z22 (z1b (cv 5) (z00 (cv 8) z03)))))))))
   (z07 (z0n (z2s (z00 (cv 4) (z00 (cv 5) (z00 (cv 2) z03))))))))))))),?_⟩
 refine rd (σ':=[some (.ref a),none,none,none,none,none,none,none,none]) rfl ?_;walk_at "run";refine⟨ns,hS,by decide,by decide,by decide,λz z0=>⟨by decide,by decide,by decide +kernel,by decide,?_⟩⟩
 obtain⟨n,hn⟩:∃n:Nat,z.fdiv 48 % 9=(n:Int):=⟨(z.fdiv 48 % 9).toNat,by omega⟩
 have n8:n≤8:=by omega
 refine⟨fun σ' H'=>H'=H/\∃(many:Nat) (way:Int),σ' = [some (.ref a),some (.int z),some (.int (many:Int)),some (.int way),none,none,none,none,none]/\0<many/\many≤12,?_,?_⟩
 ·walk_at "run";refine z3m (λ_=>⟨rfl,12,_,rfl,by decide,by decide⟩) (λ_=>⟨rfl,(1+z % 6).toNat,z.fdiv 6 % 8,?_,by omega,by omega⟩)
  rw[show(((1+z % 6).toNat:Nat):Int)=1+z % 6 by omega]
 rintro σ' H' ⟨rfl,many,way,rfl,h0,h12⟩;walk_at "run";refine⟨sz (by show 0≤1000;decide),λlw hlw=>⟨sz (by show 0≤1000;decide),λld hld=>⟨by decide,by decide +kernel,by decide,?_⟩⟩⟩
 rw[hn];have mpos:(0:Int)<(many:Int):=by omega
 have sW:=(z06 hlw (.lst [])).trans (z06 hld (.lst []));refine⟨_,sW.seq hS,λu hu=>?_⟩;obtain⟨ms,hms,hml,hml2⟩:=zlr ns 2 n;rw[show((2:Nat):Int)=2 by rfl] at hms
 rw[hms];obtain⟨tw0,nu1,nu2,hu0⟩:=zgi (K:=K) (O:=.lst (ms.map V.int)) hlw hld hu;have sB:=z06 hu0 (.lst (ms.map V.int));have kb:=z01 (H:=H') (a:=u) (o:=.lst (ms.map V.int))
 generalize upd H' u (.lst (ms.map V.int))=Hb at tw0 sB kb;have ku0:=tw0.same _ _ kb;generalize upd (upd (upd H' lw (.lst [])) ld (.lst [])) u (.lst (ms.map V.int))=H3 at tw0 ku0 ⊢
 refine⟨⟨_,SqL.of ku0⟩,?_⟩;refine za3 (xs:=ms.map V.int) (λj σ' H'=>∃t6 t7 t8 ws rs drs,σ' = [some (.ref a),some (.int z),some (.int (many:Int)),some (.int way),some (.ref lw),some (.ref ld),t6,t7,t8]/\Two K Hb H' lw ld (ws.map V.int) rs (ws.map PyData.int) (drs.map z3x)/\ws.length=j/\drs.length=j/\(∀x∈ws,1≤x/\x≤10^60)/\∀r∈drs,r ≠ []/\r.Pairwise (· < ·)/\∀h∈r,h<many) ⟨_,_,_,[],[],[],rfl,tw0,rfl,rfl,λ_ z=>(by cases z),λ_ z=>(by cases z)⟩ ?_ ?_ ?_
 ·rintro j σ' H' _ ⟨t6,t7,t8,ws,rs,drs,rfl,tw,_⟩;exact SqL.of (tw.same _ _ kb)
 ·rintro j x σ' H' Tp hx ⟨t6,t7,t8,ws,rs,drs,rfl,tw,wl,dl,wb,db⟩ hT;obtain⟨c,hc,rfl⟩:=zla hx;have hj:=(y00.mp hc).1;have sT:=z06 hT (.tup [.int (j:Int),.int c])
  have tw1:=tw.more sT;have kT:=z01 (H:=H') (a:=Tp) (o:=.tup [.int (j:Int),.int c])
  generalize upd H' Tp (.tup [.int (j:Int),.int c])=H4 at tw1 kT ⊢
  walk_at "run";refine⟨_,_,SqT.of kT,?_⟩;walk_at "run";refine znk (P:=λth=>zio [.int c,.int (many:Int),.bl th] H4 _ E0) λth=>?_;refine⟨c,many,th,rfl,h0,h12,λr row H5 rne ce rlt nr s5 hr5=>?_⟩;have tw2:=tw1.more s5;have n1:r≠lw:=λz=>by rw[z,tw1.h1] at nr;cases nr
  have n2:r≠ld:=λz=>by rw[z,tw1.h2] at nr;cases nr
  clear tw tw1 sT kT s5 nr;refine⟨fun σ' H'=>∃r row,σ' = [some (.ref a),some (.int z),some (.int (many:Int)),some (.int way),some (.ref lw),some (.ref ld),some (.int (j:Int)),some (.int c),some (.ref r)]/\Two K Hb H' lw ld (ws.map V.int) rs (ws.map PyData.int) (drs.map z3x)/\r≠lw/\r≠ld/\H' r=some (.lst (z09 row))/\row ≠ []/\row.Pairwise (· < ·)/\∀h∈row,h<many,?_,?_⟩
  ·walk_at "run";refine z3m (λ_=>?_) (λ_=>⟨r,row,rfl,tw2,n1,n2,hr5,rne,ce,rlt⟩);refine⟨mpos,mpos,sz (by show 2≤1000;decide),λl1 hl1=>?_⟩
   have f1:=z06 hl1 (.lst [.int ((j:Int) % (many:Int)),.int (((j:Int)+1) % (many:Int))]);refine⟨_,SqL.of z01,λl2 hl2=>?_⟩;rw[zkt h0];have f2:=z06 hl2 (.lst (((zan j many).map λ(x:Nat)=>(x:Int)).map V.int))
   obtain⟨rk1,rk2,rk3⟩:=zjh (j:=j) h0;refine⟨_,SqL.of z01,by rw[y04];unfold zan;split<;>simp,λss ps os l3 hl3=>?_⟩
   obtain⟨r',er,pr,sr⟩:=zhb rk1 ps os;rw[er];have f3:=z06 hl3 (.lst (z09 r'));have tw3:=tw2.more (f1.trans (f2.trans f3))
   have h3:=z2v (f1.trans f2) hl3;refine⟨l3,r',rfl,tw3,λz=>?_,λz=>?_,z01,λz=>?_,sr,λh hh=>rk3 h (pr.mem_iff.mp hh)⟩
   ·rw[z,tw2.h1] at h3;cases h3
   ·rw[z,tw2.h2] at h3;cases h3
   ·subst z;exact rk2 (List.nil_perm.mp pr)
  rintro σ' H6 ⟨r,row,rfl,tw3,n1,n2,hr6,rne,ce,rlt⟩;clear tw2 hr5;refine⟨fun σ' H'=>∃r row,σ' = [some (.ref a),some (.int z),some (.int (many:Int)),some (.int way),some (.ref lw),some (.ref ld),some (.int (j:Int)),some (.int c),some (.ref r)]/\Two K Hb H' lw ld (ws.map V.int) rs (ws.map PyData.int) (drs.map z3x)/\r≠lw/\r≠ld/\H' r=some (.lst (z09 row))/\row ≠ []/\row.Pairwise (· < ·)/\∀h∈row,h<many,?_,?_⟩
  ·walk_at "run";refine z3m (λ_=>?_) (λ_=>⟨r,row,rfl,tw3,n1,n2,hr6,rne,ce,rlt⟩);have jm:(j:Int) % (many:Int)=((j % many:Nat):Int):=by omega
   have jl:=y7j j h0;refine⟨mpos,⟨by omega,by omega⟩,?_⟩
   rw[jm,show((1:Int)+((j % many:Nat):Int)).toNat=1+j % many by omega]
   refine cgo (σ':=[none]) rfl ?_;refine zj8 (by omega) λl1 hl1=>?_
   have f1:=z06 hl1 (.lst (z09 (y0d (1+j % many))));refine⟨l1,y0d (1+j % many),rfl,tw3.more f1,λz=>?_,λz=>?_,z01,λz=>?_,y48,λh hh=>?_⟩
   ·rw[z,tw3.h1] at hl1;cases hl1
   ·rw[z,tw3.h2] at hl1;cases hl1
   ·have:=congrArg y68 z;rw[y1z] at this;simp at this
   ·have:=y1j.mp hh;omega
  rintro σ' H7 ⟨r,row,rfl,tw4,n1,n2,hr7,rne,ce,rlt⟩;clear tw3 hr6;walk_at "run";refine⟨⟨_,tw4.h1⟩,c,rfl,λw w1 w2=>?_⟩;refine⟨_,tw4.h1,z0h (by rw[y04];omega),?_⟩
  have ai:IsAll K (z7o H7 lw ld) (ws.map V.int ++ [.int w]) (ws.map PyData.int ++ [.int w]):=z1l tw4.a1 (by simp only[Is])
  have tw5:=tw4.set1 ai;have hr8:upd H7 lw (.lst (ws.map V.int ++ [.int w])) r=some (.lst (z09 row)):=by rw[z0a n1];exact hr7
  generalize upd H7 lw (.lst (ws.map V.int ++ [.int w]))=H8 at tw5 hr8 ⊢
  have rl:rs.length=j:=by rw[z0c tw4.a2,y04,dl]
  refine⟨⟨_,tw5.h2⟩,_,tw5.h2,z0h (by omega),?_⟩
  have tw6:=tw5.set2 (z1l tw5.a2 (is_list.mpr ⟨r,_,rfl,by rw[z42 n1 n2];exact hr8,z3o row⟩))
  refine⟨_,_,_,ws ++ [w],rs ++ [.ref r],drs ++ [row],rfl,by rw[y0f,y0f,y0f];exact tw6,by rw[y0c];simp;omega,by rw[y0c];simp;omega,λx hx=>?_,λx hx=>?_⟩
  ·rcases y0z.mp hx with hx | hx
   ·exact wb x hx
   ·rw[y0e.mp hx];exact⟨w1,w2⟩
  ·rcases y0z.mp hx with hx | hx
   ·exact db x hx
   ·rw[y0e.mp hx];exact⟨rne,ce,rlt⟩
 ·rintro σ' H' ⟨t6,t7,t8,ws,rs,drs,rfl,tw,wl,dl,wb,db⟩;rw[y04] at wl dl;walk_at "run";refine⟨sz (by show 3≤1000;decide),λp hp=>?_⟩
  have s5:=z06 hp (.tup [.ref lw,.ref ld,.int (many:Int)]);have tw5:=tw.more s5
  have rok:RowsOk ws.length many drs:=⟨by rw[dl,wl],db⟩
  refine q p lw ld ws drs many _ ⟨⟨tw5.h1,is_list.mpr ⟨ld,rs,rfl,tw5.h2,IsAll.same z67 _ _ tw5.a2⟩,by rw[dl,wl],by omega,rok.row (by omega),λx hx=>(wb x hx).1,λx hx=>?_⟩,rok,λx hx=>(wb x hx).2,h0,h12,by omega⟩ (sB.trans tw5.same) z01
  have:=wb x hx;show x.natAbs<2^300;have:(10:Nat)^60<2^300:=by decide +kernel
  omega
noncomputable abbrev z3s:Stmt:=top 30
theorem sc_Ldivisor:FnScope ["_law_one","_law_other","_law_left","_law_right"] ["_law_one","_law_other"] (z04 z3s):=⟨rfl,rfl,rfl,by decide +kernel,rfl,by decide +kernel,by decide +kernel⟩
theorem zd4 (T:Top K mg "_law_divisor" z3s ["_law_one","_law_other"])(B:Blt mg) :Def P w K mg base "_law_divisor" 1 ["_law_one","_law_other"] (spG):=by
 refine z1e (k:=0) T sc_Ldivisor (λvs H Q E h=>?_) (λf cdv A outer s H vs Q E hr h=>?_)
 ·unfold spG at h
  split at h
  ·rfl
  ·exact h.elim
 unfold spG at h
 split at h
 ·rename_i a b;refine⟨_,(z02 (z0d 2 sc_Ldivisor.nd (z45 zbx B.abs zbr (z00 (cv 0) z03)))
   (z02 (z0d 3 sc_Ldivisor.nd (z45 zbx B.abs zbr (z00 (cv 1) z03)))
   (z02 (zed (z0s z6e (cv 2) z05 (z0o _))
   (z07 (zot 2 3 sc_Ldivisor.nd (z00 (z0m z1u (cv 3) (cv 2)) (z00 (cv 2) z03)))))
   (z07 (z0n (cv 3)))))),?_⟩
  refine rd (σ':=[some (.int a),some (.int b),none,none]) rfl ?_;walk_at "run";refine⟨fun σ H'=>H'=H/\∃(l g:Int),σ = [some (.int a),some (.int b),some (.int l),some (.int g)]/\0≤g/\0≤l/\y1b g l=y1b a b,
   fun σ _=>match σ with | [_,_,some (.int l),_]=>l.toNat | _=>0,⟨rfl,_,_,rfl,zbj b,zbj a,by rw[y3y];exact zix a b⟩,?_⟩
  rintro σ H' ⟨rfl,l,g,rfl,hg,hl,e⟩;walk_at "run";refine z3m (λc=>?_) (λc=>?_)
  ·have c':0<l:=of_decide_eq_true c;refine⟨c',⟨rfl,g % l,l,rfl,hl,y1q _ (by omega),by rw[zeo hg c',e]⟩,?_⟩
   have:=y1p g c';have:=y1q g (show l≠0 by omega)
   omega
  ·have c':¬ 0<l:=λz=>c (decide_eq_true z);have e0:l=0:=by omega
   subst e0;rw[←e,ze1 hg] at h;exact h
 ·exact h.elim
noncomputable abbrev z4f:Stmt:=top 32
theorem sc_Llowest:FnScope ["_law_top","_law_bottom","_law_by"] ["_law_top","_law_bottom"] (z04 z4f):=⟨rfl,rfl,rfl,by decide +kernel,rfl,by decide +kernel,by decide +kernel⟩
theorem zf5 (T:Top K mg "_law_lowest" z4f ["_law_top","_law_bottom"])(B:Blt mg)(aX:Def P w K mg base "_law_divisor" 1 ["_law_one","_law_other"] (spG)):Def P w K mg base "_law_lowest" 2 ["_law_top","_law_bottom"] (zbu K):=by
 refine z1e (k:=1) T sc_Llowest (λvs H Q E h=>?_) (λf cdv A outer s H vs Q E hr h=>?_)
 ·obtain⟨a,b,rfl,_⟩:=h;rfl
 obtain⟨a,b,rfl,hb,hB,q⟩:=h;refine⟨_,(z02 (z0d 2 sc_Llowest.nd (z0f aX (hr.mono (by decide)) (z00 (cv 0) (z00 (cv 1) z03))))
   (z02 (z2x (z0s z7k (cv 1) z05 (z0o _))
   (z07 (z0d 2 sc_Llowest.nd (zcw z8r (cv 2))))
   z1h)
   (z07 (z0n (z2s (z00 (z0m z2a (cv 0) (cv 2)) (z00 (z0m z2a (cv 1) (cv 2)) z03))))))),?_⟩
 refine rd (σ':=[some (.int a),some (.int b),none]) rfl ?_;walk_at "run";have fin:∀j:Int,j=(if b<0 then -((y1b a b:Nat):Int) else (y1b a b:Nat))->j≠0/\j.natAbs.log2<9000/\j≠0/\j.natAbs.log2<9000/\2≤sizeLine/\∀p,H p=none->Q (.ref p) (upd H p (.tup [.int (a.fdiv j),.int (b.fdiv j)])):=λj hj=>by
  obtain⟨h1,h2,h3,h4,h5⟩:=z8k hb hj;exact⟨h1,znp hB h2 h1,h1,znp hB h2 h1,sz (by show 2≤1000;decide),(q _ _ h3 h4 h5).ints2⟩
 refine z3m (λc=>?_) (λc=>?_)
 ·exact fin _ (if_pos (of_decide_eq_true c)).symm
 ·exact fin _ (if_neg (λz=>c (decide_eq_true z))).symm
noncomputable abbrev z5a:Stmt:=top 40
theorem zgf:FnScope ["_law_number"] ["_law_number"] (z04 z5a):=⟨rfl,rfl,rfl,by decide +kernel,rfl,by decide +kernel,by decide +kernel⟩
theorem zgv (T:Top K mg "_law_small" z5a ["_law_number"])(B:Blt mg)(bh:Def P w K mg base "_law_lowest" 2 ["_law_top","_law_bottom"] (zbu K)):Def P w K mg base "_law_small" 3 ["_law_number"] (zd7 K):=by
 refine z1e (k:=2) T zgf (λvs H Q E h=>?_) (λf cdv A outer s H vs Q E hr h=>?_)
 ·obtain⟨z,rfl,_⟩:=h;rfl
 obtain⟨z,rfl,z0,q⟩:=h;refine⟨_,(z02 (z2x (z0s z4y (z0m z1u (cv 0) z05) z05 (z0o _))
   (z07 (z0n (z2s (z00 z05 (z00 z05 z03)))))
   z1h)
   (z07 (z0n (z0f bh (hr.mono (by decide)) (z00 (z0m z1u (z0m z2a (cv 0) z05) z05) (z00 (z0m z2i z05 (z0m z1u (z0m z2a (cv 0) z05) z05)) z03)))))),?_⟩
 refine rd (σ':=[some (.int z)]) rfl ?_;walk_at "run";refine⟨by decide,z3m (λ_=>?_) (λ_=>?_)⟩
 ·refine⟨sz (by show 2≤1000;decide),?_⟩
  exact(q (0,1) ⟨⟨by decide,by decide⟩,by decide,by decide,by decide,by decide⟩).ints2
 refine⟨by decide,by decide +kernel,by decide,by decide,by decide +kernel,by decide,?_⟩
 have m0:=y1q (z.fdiv 2) (show(10:Int)≠0 by decide)
 have m1:=y1p (z.fdiv 2) (show(0:Int)<10 by decide)
 have m2:=y1q (z.fdiv 20) (show(6:Int)≠0 by decide)
 have m3:=y1p (z.fdiv 20) (show(0:Int)<6 by decide)
 generalize z.fdiv 2 % 10=za at m0 m1 ⊢
 obtain⟨zb,hzb⟩:∃zb,zb=1+z.fdiv 20 % 6:=⟨_,rfl⟩;rw[←hzb];have zb1:1≤zb/\zb≤6:=by omega
 refine⟨za,zb,rfl,by omega,?_,λn d d1 dg de=>q (n,d) ?_⟩
 ·show zb.natAbs<2^9000;exact y0p (show zb.natAbs<2^3 by omega) (y3s (by decide) (by decide))
 obtain⟨l1,l2⟩:=zbz dg (by omega) de
 obtain⟨d3,_⟩:=z5w dg de;have n0:0≤n:=by
  rcases y28 n 0 with z | z
  ·have h1:n*zb<0:=y5b z (by omega)
   have h2:0≤za*d:=y29 m0 (by omega)
   omega
  ·exact z
 exact⟨⟨d1,dg⟩,y46 d3 (zoq zb1.1 (by omega)),n0,by show n≤9;omega,by show d≤6;omega⟩
noncomputable abbrev z9f:Stmt:=top 39
theorem zlx:FnScope ["_law_script","_law_at","_law_k"] ["_law_script","_law_at","_law_k"] (z04 z9f):=⟨rfl,rfl,rfl,by decide +kernel,rfl,by decide +kernel,by decide +kernel⟩
theorem zmk (T:Top K mg "_law_far" z9f ["_law_script","_law_at","_law_k"])(B:Blt mg)(aD:Def P w K mg base "_law_mixed" 1 ["_law_cell","_law_k"] (z44))(aI:Def P w K mg base "_law_cell_at" 1 ["_law_script","_law_k"] (z7e K)):Def P w K mg base "_law_far" 2 ["_law_script","_law_at","_law_k"] (zg4 K):=by
 refine z1e (k:=1) T zlx (λvs H Q E h=>?_) (λf cdv A outer s H vs Q E hr h=>?_)
 ·obtain⟨a,ns,at',k,rfl,_⟩:=h;rfl
 obtain⟨a,ns,at',k,rfl,hS,h1,h2,h3,h4,q⟩:=h;refine⟨_,(z02 (z2x (z0s z7k (cv 1) (z45 z29 B.len y19 (z00 (cv 0) z03)) (z0o _))
   (z07 (z0n (z0f aD (hr.mono (by decide)) (z00 (z0j z0k (cv 0) (cv 1) (λ_ _=>rfl)) (z00 (cv 2) z03)))))
   z1h)
   (z07 (z0n (z0f aD (hr.mono (by decide)) (z00 (z0f aI (hr.mono (by decide)) (z00 (cv 0) (z00 z05 z03))) (z00 (z0m z2i (z0m z2i z05 (cv 1)) (z0m z2j z05 (cv 2))) z03)))))),?_⟩
 refine rd (σ':=[some (.ref a),some (.int at'),some (.int k)]) rfl ?_;walk_at "run";refine⟨_,.inl hS,?_⟩;walk_at "run";refine z3m (λc=>?_) (λc=>?_)
 ·have c':at'<((ns.map V.int).length:Int):=of_decide_eq_true c;refine⟨_,_,.inl hS,zgc h1 c',?_⟩;exact⟨h3,by omega,λz z0=>q z z0⟩
 ·refine⟨ns,hS,by decide,?_⟩
  have b1:Bd 8 (7:Int):=by show _<_;decide
  have b2:Bd 8 k:=by show k.natAbs<2^8;omega
  refine⟨z5i b1 b2 (by decide),by omega,by omega,λz z0=>q z z0⟩
noncomputable abbrev z5f:Stmt:=top 41
theorem sc_Ldrawn:FnScope ["_law_script","_law_doers","_law_shares_here","_law_at","_law_row_here","_law_some","_law_hand"] ["_law_script","_law_doers"] (z04 z5f):=⟨rfl,rfl,rfl,by decide +kernel,rfl,by decide +kernel,by decide +kernel⟩
theorem zia (T:Top K mg "_law_drawn" z5f ["_law_script","_law_doers"])(B:Blt mg)(bx:Def P w K mg base "_law_small" 3 ["_law_number"] (zd7 K))(bW:Def P w K mg base "_law_far" 2 ["_law_script","_law_at","_law_k"] (zg4 K)):Def P w K mg base "_law_drawn" 4 ["_law_script","_law_doers"] (zel K):=by
 refine z1e (k:=3) T sc_Ldrawn (λvs H Q E h=>?_) (λf cdv A outer s H vs Q E hr h=>?_)
 ·obtain⟨a,aw,ad,ns,ws,drs,many,rfl,_⟩:=h;rfl
 obtain⟨a,aw,ad,ns,ws,drs,many,rfl,hS,cr,q⟩:=h;obtain⟨_,rs,e0,hda,hrs⟩:=is_list.mp cr.ask.d;cases e0;have few:=cr.few;have dl:=cr.ask.len
 have h12:=cr.h12;have rsl:rs.length=drs.length:=by rw[z0c hrs,y04]
 refine⟨_,(z02 (z0d 2 sc_Ldrawn.nd (z1p z03))
   (z02 (z0d 3 sc_Ldrawn.nd z05)
   (z02 (z1z (z1i (cv 1)) (z0b 4 sc_Ldrawn.nd)
   (z02 (z0d 5 sc_Ldrawn.nd (z1p z03))
    (z02 (z1z (z1i (cv 4)) (z0b 6 sc_Ldrawn.nd)
    (z02 (z22 (z1b (cv 5) (z00 (z0f bx (hr.mono (by decide)) (z00 (z0f bW (hr.mono (by decide)) (z00 (cv 0) (z00 (z0m z2i z05 (z0m z1u (cv 3) z05)) (z00 (z0m z2a (cv 3) z05) z03)))) z03)) z03)))
     (z07 (z0d 3 sc_Ldrawn.nd (z0m z2i (cv 3) z05)))))
    (z07 (z22 (z1b (cv 2) (z00 (cv 5) z03)))))))
   (z07 (z0n (cv 2)))))),?_⟩
 refine rd (σ':=[some (.ref a),some (.ref ad),none,none,none,none,none]) rfl ?_;walk_at "run";refine⟨sz (by show 0≤1000;decide),λl hl=>?_⟩
 have g0:Grow K H (upd H l (.lst [])) l [] ((([]:List (List (Int×Int)))).map z1v):=Grow.start hl;generalize upd H l (.lst [])=H1 at g0 ⊢
 refine .inl ⟨⟨_,SqL.of (g0.same _ _ hda)⟩,?_⟩;refine z3w (xs:=rs) (λi σ' H'=>∃(t4 t5 t6:Option V) (at':Nat) (vs:List V) (R:List (List (Int×Int))),σ' = [some (.ref a),some (.ref ad),some (.ref l),some (.int (at':Int)),t4,t5,t6]/\Grow K H H' l vs (R.map z1v)/\R.length=i/\at'≤20+12*i/\(∀(i:Nat) r s,drs[i]?=some r->R[i]?=some s->s.length=r.length)/\∀s∈R,∀p∈s,zr6 p) ⟨_,_,_,20,_,[],rfl,g0,rfl,by decide,λi r s _ h=>(by simp at h),λs h=>(by cases h)⟩ ?_ ?_ ?_
 ·rintro i σ' H' _ ⟨t4,t5,t6,at',vs,R,rfl,g,_⟩;exact SqL.of (g.same _ _ hda)
 ·rintro i y σ' H' hy ⟨t4,t5,t6,at',vs,R,rfl,g,rl,atl,ro,so⟩;have hi:=(y00.mp hy).1;have hr1:drs[i]?=some (drs[i]'(by omega)):=y01 _
  generalize drs[i]'(by omega)=r at hr1
  obtain⟨ra,hra1,hra⟩:=z32 hrs hr1;rw[hy] at hra1;cases hra1;obtain⟨rne,ce,rlt⟩:=cr.rows.2 r (y02 hr1);have rl12:r.length≤12:=y13 (z26 ce rlt) h12;walk_at "run";refine⟨sz (by show 0≤1000;decide),λl1 hl1=>?_⟩
  have n1:l1≠l:=λz=>by rw[z,g.here] at hl1;cases hl1
  have g1:=g.more (z06 hl1 (.lst []));have k1:Grow K H' (upd H' l1 (.lst [])) l1 [] ((([]:List (Int×Int))).map λp=>z2b p.1 p.2):=Grow.start hl1
  generalize upd H' l1 (.lst [])=H2 at g1 k1 ⊢
  refine .inl ⟨⟨_,SqL.of (g1.same _ _ hra)⟩,?_⟩;refine z3w (xs:=z09 r) (λj σ' H2=>∃(t6:Option V) (ps:List (Int×Int)) (vs1:List V),σ' = [some (.ref a),some (.ref ad),some (.ref l),some (.int ((at'+j:Nat):Int)),some (.ref ra),some (.ref l1),t6]/\Grow K H' H2 l1 vs1 (ps.map λp=>z2b p.1 p.2)/\ps.length=j/\∀p∈ps,zr6 p) ⟨_,[],_,rfl,k1,rfl,λp h=>(by cases h)⟩ ?_ ?_ ?_
  ·rintro j σ' H3 _ ⟨t6,ps,vs1,rfl,g3,_⟩;exact SqL.of ((g.same.trans g3.same) _ _ hra)
  ·rintro j x σ' H3 hx ⟨t6,ps,vs1,rfl,g3,pl,po⟩;have hj:=(y00.mp hx).1;rw[z0i] at hj;have v1l:vs1.length=j:=by rw[z0c g3.all,y04,pl]
   walk_at "run";have e4:((at'+j:Nat):Int).fdiv 43=(((at'+j) / 43:Nat):Int):=by
    rw[y2c _ (by decide)]
    omega
   have m1:=y1p ((at'+j:Nat):Int) (show(0:Int)<43 by decide)
   have m0:=y1q ((at'+j:Nat):Int) (show(43:Int)≠0 by decide)
   have d2:(at'+j) / 43≤2:=by omega
   rw[e4];refine⟨⟨_,g3.here⟩,by decide,by decide,by decide +kernel,a,ns,_,_,rfl,(g.same.trans g3.same).seq hS,by omega,by omega,by omega,by omega,λz z0=>⟨z,rfl,z0,λp sp v4 H4 s4 is4=>?_⟩⟩
   have g4:=g3.more s4;refine⟨_,g4.here,z0h (by omega),?_⟩
   refine⟨_,ps ++ [p],vs1 ++ [v4],by rw[show((at'+(j+1):Nat):Int)=((at'+j:Nat):Int)+1 by omega],?_,by rw[y0c,pl];rfl,λu hu=>?_⟩
   ·rw[y0f];exact g4.push (z6a is4 g4.here)
   ·rcases y0z.mp hu with w | w
    ·exact po u w
    ·rw[y0e.mp w];exact sp
  ·rintro σ' H3 ⟨t6,ps,vs1,rfl,g3,pl,po⟩;rw[z0i] at pl;have g4:=g.more g3.same;have vl5:vs.length=i:=by rw[z0c g4.all,y04,rl]
   walk_at "run";refine⟨⟨_,g4.here⟩,_,g4.here,z0h (by omega),?_⟩
   have g5:=g4.push (v:=.ref l1) (d:=z1v ps) (is_list.mpr ⟨l1,vs1,rfl,by rw[z9c n1];exact g3.here,z6d g4.here (IsAll.same del_sub _ _ g3.all)⟩)
   refine⟨_,_,_,at'+r.length,vs ++ [.ref l1],R ++ [ps],by rw[z0i],by rw[y0f];exact g5,by rw[y0c,rl];rfl,by omega,λk r' s' hr' hs'=>?_,λs hs p hp=>?_⟩
   ·rcases z3b hs' with w | ⟨w,rfl⟩
    ·exact ro k r' s' hr' w
    ·rw[w,rl,hr1] at hr';cases hr';exact pl
   ·rcases y0z.mp hs with w | w
    ·exact so s w p hp
    ·rw[y0e.mp w] at hp;exact po p hp
 ·rintro σ' H' ⟨t4,t5,t6,at',vs,R,rfl,g,rl,atl,ro,so⟩;walk_at "run";refine q R ⟨⟨by omega,by omega,λi r s hr hs=>?_,λs hs p hp=>?_,z86,zk1⟩,λs hs p hp=>(so s hs p hp).2.2.1,λr hr=>(cr.rows.2 r hr).2.1.imp λh=>y0t h,by omega⟩ _ _ g.same g.is
  ·obtain⟨_,ce,lt⟩:=cr.rows.2 r (y02 hr);exact⟨ro i r s hr hs,y13 (z26 ce lt) h12,lt⟩
  ·obtain⟨b1,b2,b3,b4,b5⟩:=so s hs p hp;refine⟨b1,b2,?_⟩;show p.1.natAbs<2^600;exact y0p (show p.1.natAbs<2^4 by omega) (y3s (by decide) (by decide))
noncomputable abbrev z37:Stmt:=z30 (top 11) 0
theorem sc_Pour_init:FnScope ["self","gives","takes","ties","sent","tie","ends","end"] ["self","gives","takes","ties","sent"] (z04 z37):=⟨rfl,rfl,rfl,by decide +kernel,rfl,by decide +kernel,by decide +kernel⟩
theorem zay (T:MTop K aj "__init__" "Pour.__init__" z37 ["self","gives","takes","ties","sent"])(B:Blt mg)(F:FldsPour K aj) :MDef P w K mg base aj "__init__" 1 ["self","gives","takes","ties","sent"] (zh3 K aj):=by
 refine z3a (k:=0) T sc_Pour_init (λvs H Q E h=>?_) (λf cdv A outer s H vs Q E hr h=>?_)
 ·obtain⟨x,dx,ag,ak,ai,ase,gs,ts,ss,ties,rfl,_⟩:=h;rfl
 obtain⟨x,dx,ag,ak,ai,ase,gs,ts,ss,ties,rfl,hx,hg,hk,hi,hs,hties,hssl,hsm,htl,q⟩:=h;obtain⟨_,tv,e1,hai,hal⟩:=is_list.mp hi;cases e1;have htv:tv.length=ties.length:=by simpa using z0c hal
 have nk:∀{b:Addr} {xs:List V},H b=some (.lst xs)->b≠x:=λh=>z77 h hx (by intro z;cases z)
 have nkt:∀{b:Addr} {xs:List V},H b=some (.tup xs)->b≠x:=λh=>z77 h hx (by intro z;cases z)
 refine⟨_,(z02 (zb3 F.many_gives (cv 0) (z45 z29 B.len y19 (z00 (cv 1) z03)))
   (z02 (zb3 F.tie_ends (cv 0) (z2t (N:=["give","take","self"]) (fr:=[0]) 2 (z1i (cv 3)) (λC hN=>by exact pgC ((z5k (z0b 0 hN) (z0b 1 hN))) (by walk_at "c")) (λC hN=>by exact peC ((z2s (z00 (cv 0) (z00 (z0m z2i (z1s F.many_gives (cv 2)) (cv 1)) z03)))) (by walk_at "c"))))
   (z02 (zb3 F.sent (cv 0) (znq z8f B.list z5n (z00 (cv 4) z03)))
   (z02 (zb3 F.spare (cv 0) (z0m z2i (cv 1) (cv 2)))
   (z02 (zb3 F.ties_at (cv 0) (z2t (N:=["end"]) (fr:=[]) 1 (z1i (z1s F.spare (cv 0))) (λC hN=>by exact pgC ((z0b 0 hN)) (by walk_at "c")) (λC hN=>by exact peC ((z1p z03)) (by walk_at "c"))))
   (z07 (z1z (z71 B.enumerate (z1s F.tie_ends (cv 0))) (z5k (z0b 5 sc_Pour_init.nd) (z0b 6 sc_Pour_init.nd))
   (z07 (z1z (z1i (cv 6)) (z0b 7 sc_Pour_init.nd)
    (z02 (z5t (z1s F.spare (cv 0)) (cv 7) z8m (z0j z0k (z1s F.sent (cv 0)) (cv 5) (λ_ _=>rfl)) za7 z4t)
     (z07 (z22 (z1b (z0j z0k (z1s F.ties_at (cv 0)) (cv 7) (λ_ _=>rfl)) (z00 (cv 5) z03)))))))))))))),?_⟩
 refine rd (σ':=[some (.ref x),some (.ref ag),some (.ref ak),some (.ref ai),some (.ref ase),none,none,none]) rfl ?_;walk_at "run";refine⟨_,.inl (SqL.of hg),dx,[],hx,by decide,?_⟩
 have hgl:(gs.map V.int).length=gs.length:=y04 _;rw[hgl];have ff1:=FF.nil.put "many_gives" (.int (gs.length:Int))
 generalize z8u ("many_gives":Str) (V.int (gs.length:Int)) []=fs1 at ff1 ⊢
 have fz1:Frz [x] H (upd H x (.ins aj dx fs1)):=Frz.upd (by simp)
 have hx1:upd H x (.ins aj dx fs1) x=some (.ins aj dx fs1):=z01;generalize upd H x (.ins aj dx fs1)=H1 at fz1 hx1 ⊢
 have kp1:∀{b:Addr} {o:HO},b≠x->H b=some o->H1 b=some o:=λh q=>fz1 _ _ (by simpa using h) q
 refine .inl ⟨⟨_,SqL.of (kp1 (nk hai) hai)⟩,cgo (σ':=[none,none,some (.ref x)]) rfl ?_⟩;refine z1c (xs:=tv) (λi ys H'=>Same H1 H'/\IsAll K H' ys (((z0u gs.length ties).take i).map pr)/\ys.length≤i) ⟨Same.refl _,z0p,y09 _⟩ (z0h (by omega)) ?_ ?_ ?_
 ·rintro i ys H' _ ⟨s1,_,hi⟩;exact⟨SqL.of (s1 _ _ (kp1 (nk hai) hai)),hi⟩
 ·rintro i y ys H' hy ⟨s1,al,hi⟩;have hil:=(y00.mp hy).1;have hp:ties[i]?=some (ties[i]'(by omega)):=y01 _
  obtain⟨a,ha1,ha2⟩:=zk7 hal hp;rw[hy] at ha1;cases ha1;have ha':=s1 _ _ (kp1 (nkt ha2) ha2);refine⟨_,_,SqT.of ha',?_⟩;walk_at "run";refine z6m ⟨_,_,.int (gs.length:Int),s1 _ _ hx1,by rw[ff1.get,if_pos rfl],sz (by show 2≤1000;decide),λp' hp'=>?_⟩
  have s2:=z06 hp' (.tup [.int ((ties[i]'(by omega)).1:Int),.int ((gs.length:Int)+((ties[i]'(by omega)).2:Int))])
  refine CNx.mk ⟨s1.trans s2,?_,by rw[y0c];simp;omega⟩ hil
  have hend:(z0u gs.length ties)[i]?=some ((ties[i]'(by omega)).1,gs.length+(ties[i]'(by omega)).2):=by
   unfold z0u;rw[y05,hp];rfl
  rw[z0l hend,y0f];refine z1l (IsAll.same s2 _ _ al) ?_;refine is_frac.mpr ⟨p',rfl,?_⟩;rw[z01];rfl
 rintro tl H2 ⟨s2,al2,_⟩ lT hlT;have hel:(z0u gs.length ties).length=ties.length:=by unfold z0u;rw[y04]
 rw[htv,y07 (by omega)] at al2
 have s3:=z06 hlT (.lst tl);refine⟨dx,fs1,(s2.trans s3) _ _ hx1,y2p ff1.len (by decide),?_⟩
 have ff2:=ff1.put "tie_ends" (.ref lT);generalize z8u ("tie_ends":Str) (V.ref lT) fs1=fs2 at ff2 ⊢
 have nlTx:lT≠x:=λz=>(z08 (s2 _ _ hx1) hlT) z.symm;have fz3:Frz [x] H (upd (upd H2 lT (.lst tl)) x (.ins aj dx fs2)):=(fz1.trans (Frz.of (s2.trans s3))).trans (Frz.upd (by simp))
 have hx3:upd (upd H2 lT (.lst tl)) x (.ins aj dx fs2) x=some (.ins aj dx fs2):=z01;have hT3:upd (upd H2 lT (.lst tl)) x (.ins aj dx fs2) lT=some (.lst tl):=by rw[z0a nlTx,z01]
 have al3:IsAll K (upd (upd H2 lT (.lst tl)) x (.ins aj dx fs2)) tl ((z0u gs.length ties).map pr):=z2p (IsAll.same s3 _ _ al2) λb xs hb=>by
  rw[z0a (z77 hb ((s2.trans s3) _ _ hx1) (by intro z;cases z))]
  exact hb
 have hHT:H lT=none:=by
  cases z:H lT with
  | none=>rfl
  | some o =>
   exfalso;have:=s2 _ _ (kp1 nlTx z);rw[hlT] at this;cases this
 clear s3 al2;generalize upd (upd H2 lT (.lst tl)) x (.ins aj dx fs2)=H3 at fz3 hx3 hT3 al3 ⊢
 have kp3:∀{b:Addr} {o:HO},b≠x->H b=some o->H3 b=some o:=λh q=>fz3 _ _ (by simpa using h) q
 refine⟨_,.inl (SqL.of (kp3 (nk hs) hs)),λlS hlS=>?_⟩;have s4:=z06 hlS (.lst (ss.map V.int));refine⟨dx,fs2,s4 _ _ hx3,y2p ff2.len (by decide),?_⟩
 have ff3:=ff2.put "sent" (.ref lS);generalize z8u ("sent":Str) (V.ref lS) fs2=fs3 at ff3 ⊢
 have nSx:lS≠x:=λz=>(z08 hx3 hlS) z.symm;have nST:lS≠lT:=λz=>(z08 hT3 hlS) z.symm
 have hHS:H lS=none:=by
  cases z:H lS with
  | none=>rfl
  | some o =>
   exfalso;have:=kp3 nSx z;rw[hlS] at this;cases this
 have fz4:Frz [x] H (upd (upd H3 lS (.lst (ss.map V.int))) x (.ins aj dx fs3)):=(fz3.trans (Frz.of s4)).trans (Frz.upd (by simp))
 have hx4:upd (upd H3 lS (.lst (ss.map V.int))) x (.ins aj dx fs3) x=some (.ins aj dx fs3):=z01;have hT4:upd (upd H3 lS (.lst (ss.map V.int))) x (.ins aj dx fs3) lT=some (.lst tl):=by rw[z0a nlTx];exact s4 _ _ hT3
 have hS4:upd (upd H3 lS (.lst (ss.map V.int))) x (.ins aj dx fs3) lS=some (.lst (ss.map V.int)):=by rw[z0a nSx,z01]
 have al4:IsAll K (upd (upd H3 lS (.lst (ss.map V.int))) x (.ins aj dx fs3)) tl ((z0u gs.length ties).map pr):=z2p (IsAll.same s4 _ _ al3) λb xs hb=>by
  rw[z0a (z77 hb (s4 _ _ hx3) (by intro z;cases z))]
  exact hb
 clear s4 al3 hx3 hT3 kp3 fz3 hlS;generalize upd (upd H3 lS (.lst (ss.map V.int))) x (.ins aj dx fs3)=H4 at fz4 hx4 hT4 hS4 al4 ⊢
 have kp4:∀{b:Addr} {o:HO},b≠x->H b=some o->H4 b=some o:=λh q=>fz4 _ _ (by simpa using h) q
 refine⟨_,_,kp4 (nk hg) hg,kp4 (nk hk) hk,sz (by rw[y04,y04];exact hsm),λlP hlP=>?_⟩
 have ecap:gs.map V.int++ts.map V.int=(gs++ts).map V.int:=by rw[y0f]
 rw[ecap];have s5:=z06 hlP (.lst ((gs++ts).map V.int));refine⟨dx,fs3,s5 _ _ hx4,y2p ff3.len (by decide),?_⟩
 have ff4:=ff3.put "spare" (.ref lP);generalize z8u ("spare":Str) (V.ref lP) fs3=fs4 at ff4 ⊢
 have nPx:lP≠x:=λz=>(z08 hx4 hlP) z.symm;have nPT:lP≠lT:=λz=>(z08 hT4 hlP) z.symm
 have nPS:lP≠lS:=λz=>(z08 hS4 hlP) z.symm;have hHP:H lP=none:=by
  cases z:H lP with
  | none=>rfl
  | some o =>
   exfalso;have:=kp4 nPx z;rw[hlP] at this;cases this
 have fz5:Frz [x] H (upd (upd H4 lP (.lst ((gs++ts).map V.int))) x (.ins aj dx fs4)):=(fz4.trans (Frz.of s5)).trans (Frz.upd (by simp))
 have hx5:upd (upd H4 lP (.lst ((gs++ts).map V.int))) x (.ins aj dx fs4) x=some (.ins aj dx fs4):=z01;have hT5:upd (upd H4 lP (.lst ((gs++ts).map V.int))) x (.ins aj dx fs4) lT=some (.lst tl):=by rw[z0a nlTx];exact s5 _ _ hT4
 have hS5:upd (upd H4 lP (.lst ((gs++ts).map V.int))) x (.ins aj dx fs4) lS=some (.lst (ss.map V.int)):=by rw[z0a nSx];exact s5 _ _ hS4
 have hP5:upd (upd H4 lP (.lst ((gs++ts).map V.int))) x (.ins aj dx fs4) lP=some (.lst ((gs++ts).map V.int)):=by rw[z0a nPx,z01]
 have al5:IsAll K (upd (upd H4 lP (.lst ((gs++ts).map V.int))) x (.ins aj dx fs4)) tl ((z0u gs.length ties).map pr):=z2p (IsAll.same s5 _ _ al4) λb xs hb=>by
  rw[z0a (z77 hb (s5 _ _ hx4) (by intro z;cases z))]
  exact hb
 clear s5 al4 hx4 hT4 hS4 kp4 fz4 hlP;generalize upd (upd H4 lP (.lst ((gs++ts).map V.int))) x (.ins aj dx fs4)=H5 at fz5 hx5 hT5 hS5 hP5 al5 ⊢
 refine⟨_,_,.ref lP,hx5,by rw[ff4.get,if_pos rfl],?_⟩
 refine .inl ⟨⟨_,SqL.of hP5⟩,cgo (σ':=[none]) rfl ?_⟩;have hcl:((gs++ts).map V.int).length=gs.length+ts.length:=by rw[y04,y0c]
 refine z1c (xs:=(gs++ts).map V.int) (λi ys H'=>Same H5 H'/\∃as:List Addr,ys=as.map V.ref/\as.length=i/\as.Nodup/\∀a∈as,H' a=some (.lst [])/\H5 a=none) ⟨Same.refl _,[],rfl,rfl,List.nodup_nil,λa ha=>by simp at ha⟩ (z0h (by omega)) ?_ ?_ ?_
 ·rintro i ys H' _ ⟨s6,as,rfl,hal,_⟩;exact⟨SqL.of (s6 _ _ hP5),by rw[y04];omega⟩
 ·rintro i y ys H' hy ⟨s6,as,rfl,hal,hnd,has⟩;walk_at "run";refine z6m ⟨sz (by show 0≤1000;decide),λp hp=>?_⟩
  have s7:=z06 hp (.lst []);refine CNx.mk ⟨s6.trans s7,as ++ [p],by rw[y0f];rfl,by rw[y0c];simp;omega,?_,λa ha=>?_⟩ (y00.mp hy).1
  ·rw[y5j];refine⟨hnd,by simp,λa ha b hb=>?_⟩
   rw[y0e.mp hb];exact z08 (has a ha).1 hp
  ·rcases y0z.mp ha with ha | ha
   ·exact⟨s7 _ _ (has a ha).1,(has a ha).2⟩
   ·rw[y0e.mp ha];exact⟨z01,s6.free hp⟩
 rintro ys H6 ⟨s6,as,rfl,hasl,hnd,has⟩ lA hlA;have s7:=z06 hlA (.lst (as.map V.ref));refine⟨dx,fs4,(s6.trans s7) _ _ hx5,y2p ff4.len (by decide),?_⟩
 have ff5:=ff4.put "ties_at" (.ref lA);generalize z8u ("ties_at":Str) (V.ref lA) fs4=fs5 at ff5 ⊢
 have hHA:lA≠x:=λz=>(z08 (s6 _ _ hx5) hlA) z.symm;have nfresh:∀a∈as,a≠x/\a≠lT/\a≠lS/\a≠lP/\a≠lA:=λa ha=>by
  obtain⟨h1,h2⟩:=has a ha;exact⟨λz=>(z08 hx5 h2) z.symm,λz=>(z08 hT5 h2) z.symm,λz=>(z08 hS5 h2) z.symm,λz=>(z08 hP5 h2) z.symm,λz=>(z08 h1 hlA) z⟩
 have Ap:Aprt x lT lS lP lA as:=⟨nPx,nPT,nPS,λz=>(z08 (s6 _ _ hP5) hlA) z,λz=>(nfresh _ z).2.2.2.1 rfl,λz=>(nfresh _ z).1 rfl,λz=>(nfresh _ z).2.1 rfl,λz=>(nfresh _ z).2.2.1 rfl,λz=>(nfresh _ z).2.2.2.2 rfl,hnd⟩;have nAT:lT≠lA:=z08 (s6 _ _ hT5) hlA
 have nAS:lS≠lA:=z08 (s6 _ _ hS5) hlA;have fz7:Frz [x] H (upd (upd H6 lA (.lst (as.map V.ref))) x (.ins aj dx fs5)):=(fz5.trans (Frz.of (s6.trans s7))).trans (Frz.upd (by simp))
 have s67:=s6.trans s7;have I7:IniAt K aj (upd (upd H6 lA (.lst (as.map V.ref))) x (.ins aj dx fs5)) x dx lT lS lP lA fs5 tl (z0u gs.length ties) ss as (gs.length+ts.length) (λe=>(gs++ts).getD e 0) (λ_=>[]):=by
  refine⟨z01,by rw[z0a nlTx];exact s67 _ _ hT5,z2p (IsAll.same s67 _ _ al5) λb xs hb=>by rw[z0a (z77 hb (s67 _ _ hx5) (by intro z;cases z))];exact hb,by rw[z0a nSx];exact s67 _ _ hS5,by rw[z0a hHA,z01],?_,λe a h=>?_⟩
  ·rw[z0a nPx,s67 _ _ hP5];have:=zev (gs++ts);rw[y0c] at this;rw[this]
  ·have hm:=y02 h;rw[z0a (nfresh a hm).1];exact s7 _ _ (has a hm).1
 generalize upd (upd H6 lA (.lst (as.map V.ref))) x (.ins aj dx fs5)=H7 at fz7 I7 ⊢
 have hasH:∀a∈as,H a=none:=λa ha=>by
  cases z:H a with
  | none=>rfl
  | some o =>
   exfalso;have:=fz5 _ _ (by simpa using (nfresh a ha).1) z
   rw[(has a ha).2] at this;cases this
 clear s7 s67 s6 hx5 hT5 hS5 hP5 al5 has nfresh hlA fz5;have hG:fs5.lookup ("many_gives":Str)=some (.int (gs.length:Int)):=by rw[ff5.get,if_neg (by decide),if_neg (by decide),if_neg (by decide),if_neg (by decide),if_pos rfl]
 have hTe:fs5.lookup ("tie_ends":Str)=some (.ref lT):=by rw[ff5.get,if_neg (by decide),if_neg (by decide),if_neg (by decide),if_pos rfl]
 have hSe:fs5.lookup ("sent":Str)=some (.ref lS):=by rw[ff5.get,if_neg (by decide),if_neg (by decide),if_pos rfl]
 have hPe:fs5.lookup ("spare":Str)=some (.ref lP):=by rw[ff5.get,if_neg (by decide),if_pos rfl]
 have hAe:fs5.lookup ("ties_at":Str)=some (.ref lA):=by rw[ff5.get,if_pos rfl]
 have htll:tl.length=ties.length:=by have:=z0c I7.al;rw[y04,hel] at this;exact this
 have hasn:as.length=gs.length+ts.length:=by rw[hasl,hcl]
 walk_at "run";refine⟨_,_,_,I7.me,hTe,⟨_,SqL.of I7.te⟩,?_⟩;refine za3 (xs:=tl) (λi σ H'=>∃t5 t6 t7:Option V,σ = [some (.ref x),some (.ref ag),some (.ref ak),some (.ref ai),some (.ref ase),t5,t6,t7]/\Frz [x] H H'/\IniAt K aj H' x dx lT lS lP lA fs5 tl (z0u gs.length ties) ss as (gs.length+ts.length) (zfn (gs++ts) (z0u gs.length ties) ss i) (zde (z0u gs.length ties) i))
  ⟨_,_,_,rfl,fz7,?_⟩ ?_ ?_ ?_
 ·have e1:(λe=>(gs++ts).getD e 0)=zfn (gs++ts) (z0u gs.length ties) ss 0:=by
   funext e;unfold zfn;simp[PM.load]
  have e2:(λ_=>[])=zde (z0u gs.length ties) 0:=by
   funext e;rfl
  rw[←e1,←e2];exact I7
 ·rintro i σ H' _ ⟨t5,t6,t7,rfl,fz,I⟩;exact SqL.of I.te
 ·clear I7 fz7;rintro i y σ H' p hy ⟨t5,t6,t7,rfl,fz,I⟩ hp;have hil:i<ties.length:=by rw[←htll];exact(y00.mp hy).1
  obtain⟨pt,hpt⟩:∃pt,ties[i]?=some pt:=⟨_,y01 hil⟩;have hend:(z0u gs.length ties)[i]?=some (pt.1,gs.length+pt.2):=by
   unfold z0u;rw[y05,hpt];rfl
  obtain⟨v1,v2⟩:=hties pt (y02 hpt);obtain⟨a,ha1,ha2⟩:=zk7 I.al hend;rw[hy] at ha1;cases ha1;obtain⟨sv,hsv⟩:∃sv,ss[i]?=some sv:=⟨_,y01 (by omega)⟩
  have s8:=z06 hp (.tup [.int (i:Int),.ref a]);have hpx:H p=none:=by
   cases z:H p with
   | none=>rfl
   | some o =>
    exfalso
    by_cases c:p=x
    ·subst c;rw[I.me] at hp;cases hp
    ·rw[fz _ _ (by simpa using c) z] at hp
     cases hp
  have I8:=I.same s8;have fz8:=fz.trans (Frz.of (L:=[x]) s8)
  refine⟨_,_,SqT.of z01,?_⟩;have ha8:=s8 _ _ ha2;clear I fz;generalize upd H' p (.tup [.int (i:Int),.ref a])=H8 at I8 fz8 ha8 ⊢
  walk_at "run";refine .inr ⟨⟨_,SqT.of ha8⟩,?_⟩;refine zlj (xs:=[.int (pt.1:Int),.int ((gs.length+pt.2:Nat):Int)]) (λj σ H'=>∃t7:Option V,σ = [some (.ref x),some (.ref ag),some (.ref ak),some (.ref ai),some (.ref ase),some (.int (i:Int)),some (.ref a),t7]/\Frz [x] H H'/\H' a=some (.tup [.int (pt.1:Int),.int ((gs.length+pt.2:Nat):Int)])/\∃(sf:Nat->Int) (af:Nat->List Nat),IniAt K aj H' x dx lT lS lP lA fs5 tl (z0u gs.length ties) ss as (gs.length+ts.length) sf af /\
    (∀e,sf e=zfn (gs++ts) (z0u gs.length ties) ss i e - (if 1≤j/\e=pt.1 then sv else 0) - (if 2≤j/\e=gs.length+pt.2 then sv else 0))/\(∀e,af e=zde (z0u gs.length ties) i e++(if 1≤j/\e=pt.1 then [i] else [])++(if 2≤j/\e=gs.length+pt.2 then [i] else [])))
   ⟨_,rfl,fz8,ha8,_,_,I8,λe=>by simp,λe=>by simp⟩ ?_ ?_ ?_
  ·rintro j σ H' _ ⟨t7,rfl,fz,h,_⟩;exact SqT.of h
  ·clear I8 fz8 ha8;rintro j v σ H' hv ⟨t7,rfl,fz,hta,sf,af,I,hsf,haf⟩;obtain⟨e,rfl,he,hej⟩:∃e:Nat,v = .int (e:Int)/\e<gs.length+ts.length/\((j=0/\e=pt.1)∨(j=1/\e=gs.length+pt.2)):=by
    match j,hv with
    | 0,hv=>exact⟨pt.1,(y11 hv).symm,by omega,.inl ⟨rfl,rfl⟩⟩
    | 1,hv=>exact⟨gs.length+pt.2,(y11 hv).symm,by omega,.inr ⟨rfl,rfl⟩⟩
    | n+2,hv=>cases hv
   obtain⟨ae,hae⟩:∃ae,as[e]?=some ae:=⟨_,y01 (by omega)⟩
   walk_at "run";refine⟨_,_,_,I.me,hPe,_,_,I.sp,by omega,z5u (z6c sf he),_,_,_,I.me,hSe,_,_,.inl (SqL.of I.st),z3d hsv,?_⟩
   walk_at "run";refine⟨_,e,I.sp,z3f (by rw[y04,y04,y1z];exact he),?_⟩
   have hset:(((y0d (gs.length+ts.length)).map sf).map V.int).set e (.int (sf e - sv))=((y0d (gs.length+ts.length)).map (λy=>if y=e then sf e - sv else sf y)).map V.int:=by rw[←znl,y2q]
   rw[hset];have I9:=I.spare Ap (λy=>if y=e then sf e - sv else sf y)
   have fz9:Frz [x] H (upd H' lP (.lst (((y0d (gs.length+ts.length)).map (λy=>if y=e then sf e - sv else sf y)).map V.int))):=fz.new hHP
   have hta9:upd H' lP (.lst (((y0d (gs.length+ts.length)).map (λy=>if y=e then sf e - sv else sf y)).map V.int)) a=some (.tup [.int (pt.1:Int),.int ((gs.length+pt.2:Nat):Int)]):=by rw[z0a (z77 hta I.sp (by intro z;cases z))];exact hta
   generalize upd H' lP (.lst (((y0d (gs.length+ts.length)).map (λy=>if y=e then sf e - sv else sf y)).map V.int))=H9 at I9 fz9 hta9 ⊢
   have hr9:(as.map V.ref)[e]?=some (.ref ae):=by rw[y05,hae];rfl
   refine⟨_,_,_,I9.me,hAe,_,_,.inl (SqL.of I9.ta),z0x hr9,?_⟩;walk_at "run";have hafl:(z09 (af e)).length≤2000:=by
    rw[z4k,haf e];have h1:(zde (z0u gs.length ties) i e).length≤i:=by
     unfold zde;refine y13 (y2x _ _) ?_;simp
    rw[y0c,y0c]
    split<;>split<;>simp<;>omega
   refine⟨⟨_,I9.tt e ae hae⟩,_,I9.tt e ae hae,y2p hafl (by decide),?_⟩
   rw[zb8];have I10:=I9.tie Ap hae (af e ++ [i]);have hHae:H ae=none:=hasH ae (y02 hae)
   refine⟨_,rfl,fz9.new hHae,by rw[z0a (z77 hta9 (I9.tt e ae hae) (by intro z;cases z))];exact hta9,_,_,I10,λy=>?_,λy=>?_⟩
   ·by_cases c:y=e
    ·subst c;rw[if_pos rfl,hsf y];rcases hej with ⟨rfl,h2⟩ | ⟨rfl,h2⟩
     ·simp[h2]
     ·have:y≠pt.1:=by omega
      simp[h2,this]
    ·rw[if_neg c,hsf y];rcases hej with ⟨rfl,h2⟩ | ⟨rfl,h2⟩
     ·have:y≠pt.1:=by omega
      simp[this]
     ·have:y≠gs.length+pt.2:=by omega
      simp[this]
   ·by_cases c:y=e
    ·subst c;rw[if_pos rfl,haf y];rcases hej with ⟨rfl,h2⟩ | ⟨rfl,h2⟩
     ·simp[h2]
     ·have:y≠pt.1:=by omega
      simp[h2,this]
    ·rw[if_neg c,haf y];rcases hej with ⟨rfl,h2⟩ | ⟨rfl,h2⟩
     ·have:y≠pt.1:=by omega
      simp[this]
     ·have:y≠gs.length+pt.2:=by omega
      simp[this]
  ·rintro σ H' ⟨t7,rfl,fz,hta,sf,af,I,hsf,haf⟩;refine⟨_,_,_,rfl,fz,?_⟩;have e1:sf=zfn (gs++ts) (z0u gs.length ties) ss (i+1):=by
    funext e;rw[hsf e];unfold zfn;rw[z0l hend,z0l hsv,zbf (by rw[y0x,y0x];omega)]
    by_cases c1:e=pt.1
    ·have c2:¬e=gs.length+pt.2:=by omega
     have:PM.inc (pt.1,gs.length+pt.2) e=true:=by simp[PM.inc,c1]
     simp[c1,this];have c3:¬pt.1=gs.length+pt.2:=by omega
     simp[c3];rw[c1] at this;simp[this];omega
    ·by_cases c2:e=gs.length+pt.2
     ·have:PM.inc (pt.1,gs.length+pt.2) e=true:=by simp[PM.inc,c2]
      simp only[c1,and_false,if_false,this,if_true,c2,and_self];simp;rw[c2] at this;simp[this];omega
     ·have:PM.inc (pt.1,gs.length+pt.2) e=false:=by
       simp[PM.inc];omega
      simp[c1,c2,this]
   have e2:af=zde (z0u gs.length ties) (i+1):=by
    funext e;rw[haf e,zis,show(z0u gs.length ties).getD i (0,0)=(pt.1,gs.length+pt.2) by simp[y1n,hend]]
    by_cases c1:e=pt.1
    ·subst c1;have c2:¬pt.1=gs.length+pt.2:=by omega
     have:PM.inc (pt.1,gs.length+pt.2) pt.1=true:=by simp[PM.inc]
     simp[c2,this]
    ·by_cases c2:e=gs.length+pt.2
     ·subst c2;have:PM.inc (pt.1,gs.length+pt.2) (gs.length+pt.2)=true:=by simp[PM.inc]
      simp[c1,this]
     ·have:PM.inc (pt.1,gs.length+pt.2) e=false:=by
       simp[PM.inc];omega
      simp[c1,c2,this]
   rw[←e1,←e2];exact I
 ·clear I7 fz7;rintro σ H' ⟨t5,t6,t7,rfl,fz,I⟩;rw[htll] at I;have nin:∀{b:Addr},b≠lS->b≠lP->(if b=lS∨b=lP then none else H' b)=H' b:=λh1 h2=>if_neg λz=>z.elim h1 h2
  refine q lS lP H' fz hHS hHP ⟨⟨λb=>if b=lS∨b=lP then none else H' b,λb o h=>?_,if_pos (.inl rfl),if_pos (.inr rfl),λm hm=>by simp at hm,⟨dx,fs5,lT,lA,?_,hG,hTe,hSe,hPe,hAe,?_,?_,λm hm=>?_⟩⟩,λm hm=>by simp at hm,I.st,?_,nPS.symm,zag hties,?_,?_,?_,?_⟩
  ·have h':(if b=lS∨b=lP then none else H' b)=some o:=h
   split at h'
   ·cases h'
   ·exact h'
  ·refine(nin nSx.symm nPx.symm).trans ?_;exact I.me
  ·refine is_list.mpr ⟨lT,tl,rfl,?_,z2p I.al λb ys hb=>?_⟩
   ·refine(nin nST.symm nPT.symm).trans ?_;exact I.te
   ·refine(nin (z77 hb I.st (by intro z;cases z)) (z77 hb I.sp (by intro z;cases z))).trans ?_
    exact hb
  ·refine is_list.mpr ⟨lA,as.map V.ref,rfl,?_,zeg ?_ λi v dd h1 h2=>?_⟩
   ·refine(nin nAS.symm Ap.PA.symm).trans ?_;exact I.ta
   ·show _=(((y0d (gs.length+ts.length)).map (zde (z0u gs.length ties) ties.length)).map z3x).length;rw[y04,y04,y04,y1z];exact hasn
   ·have h2':(((y0d (gs.length+ts.length)).map (zde (z0u gs.length ties) ties.length)).map z3x)[i]?=some dd:=h2;rw[y05] at h1;cases z:as[i]? with
    | none=>rw[z] at h1;cases h1
    | some a =>
     rw[z] at h1;cases h1;have hin:i<gs.length+ts.length:=by have:=(y00.mp z).1;omega
     rw[y05,z6c _ hin] at h2';cases h2';have hm:=y02 z;refine is_list.mpr ⟨a,_,rfl,?_,z3o _⟩;refine(nin (λe=>Ap.inS (by rw[←e];exact hm)) (λe=>Ap.inP (by rw[←e];exact hm))).trans ?_
     exact I.tt i a z
  ·rw[ff5.get];simp only[y0m,y1g,or_false] at hm;rcases hm with rfl | rfl | rfl | rfl | rfl | rfl | rfl | rfl | rfl | rfl | rfl | rfl<;>(rw[if_neg (by decide),if_neg (by decide),if_neg (by decide),if_neg (by decide),if_neg (by decide)])
  ·exact I.sp
  ·show ss.length=(ties.map _).length;rw[y04];exact hssl
  ·show _=gs.length+ts.length;simp
  ·show gs.length+ts.length≤1000;exact hsm
  ·show(ties.map _).length≤1000;rw[y04];exact htl
noncomputable abbrev z0w:Stmt:=z30 (top 11) 3
theorem z4n:FnScope ["self"] ["self"] (z04 z0w):=⟨rfl,rfl,rfl,by decide +kernel,rfl,by decide +kernel,by decide +kernel⟩
theorem z4p (T:MTop K aj "gives_with_rest" "Pour.gives_with_rest" z0w ["self"])(B:Blt mg)(F:FldsPour K aj) :MDef P w K mg base aj "gives_with_rest" 1 ["self"] (zie K aj):=by
 refine z3a (k:=0) T z4n (λvs H Q E h=>?_) (λf cdv A outer s H vs Q E hr h=>?_)
 ·obtain⟨me,N,aS,aP,sent,spare,M,rfl,_⟩:=h;rfl
 obtain⟨me,N,aS,aP,sent,spare,M,rfl,hP,q⟩:=h;obtain⟨dx,fs,aT,aA,ts,rs,g1,g2,g3,g4,g5,g6,g7,g8,g9,g10,g11⟩:=hP.get;refine⟨_,(z07 (z0n (z49 (N:=["give","self"]) (fr:=[0]) 1 (zf7 B.range (z00 (z1s F.many_gives (cv 0)) z03)) (λC hN=>by exact pgC ((z0b 0 hN)) (by walk_at "c")) (λC hN=>by exact ptC ((z0s z6e (z0j z0k (z1s F.spare (cv 1)) (cv 0) (λ_ _=>rfl)) z05 (z0o _))) (by walk_at "c")) (λC hN=>by exact peC ((cv 0)) (by walk_at "c"))))),?_⟩
 refine rd (σ':=[some (.ref me)]) rfl ?_;walk_at "run";have gG:N.G≤N.nE:=hP.wf.gle;have hsm:=hP.sm
 refine⟨_,_,_,g1,g2,?_⟩;walk_at "run";refine⟨⟨by omega,by omega⟩,cgo (σ':=[none,some (.ref me)]) rfl ?_⟩
 refine z6u (n:=(N.G:Int).toNat) (λi ys H'=>H'=H/\ys=z09 ((y0d i).filter λg=>decide (0<spare.getD g 0))) ⟨rfl,rfl⟩ (z0h (by omega)) ?_ ?_ ?_
 ·rintro i ys H' _ ⟨rfl,rfl⟩;unfold z09;rw[y04];refine y13 (y2x _ _) ?_;simp
 ·rintro i ys H' hi ⟨rfl,rfl⟩;have hi':i<spare.length:=by rw[hP.lp];omega
  walk_at "run";refine⟨_,_,_,g1,g5,_,_,.inl (SqL.of hP.sp),by rw[y31];exact z3d (z1d hi'),?_⟩
  walk_at "run";have e:(y0d (i+1)).filter (λg=>decide (0<spare.getD g 0))=(y0d i).filter (λg=>decide (0<spare.getD g 0))++(if 0<spare.getD i 0 then [i] else []):=by
   rw[y3o,y2g];congr 1
   by_cases c:0<spare.getD i 0<;>simp only[y2l,y62,decide_eq_true_eq,c,if_true,if_false]
  refine z3m (λc=>?_) (λc=>?_)
  ·refine CNx.mk ⟨rfl,?_⟩ hi;rw[e,if_pos (of_decide_eq_true c)];unfold z09;rw[y0f,y31];rfl
  ·refine CNx.mk ⟨rfl,?_⟩ hi;rw[e,if_neg (λz=>c (decide_eq_true z)),y2i]
 ·rintro ys H' ⟨rfl,rfl⟩ l hl;exact q l hl
noncomputable abbrev z1w:Stmt:=z30 (top 11) 4
theorem z7p:FnScope ["self","ends"] ["self","ends"] (z04 z1w):=⟨rfl,rfl,rfl,by decide +kernel,rfl,by decide +kernel,by decide +kernel⟩
theorem z7m (T:MTop K aj "has_room" "Pour.has_room" z1w ["self","ends"])(B:Blt mg)(F:FldsPour K aj) :MDef P w K mg base aj "has_room" 1 ["self","ends"] (zdu K aj):=by
 refine z3a (k:=0) T z7p (λvs H Q E h=>?_) (λf cdv A outer s H vs Q E hr h=>?_)
 ·obtain⟨me,N,aS,aP,sent,spare,M,l,es,rfl,_⟩:=h;rfl
 obtain⟨me,N,aS,aP,sent,spare,M,l,es,rfl,hP,hl,hz,hes,q⟩:=h;obtain⟨dx,fs,aT,aA,ts,rs,g1,g2,g3,g4,g5,g6,g7,g8,g9,g10,g11⟩:=hP.get;refine⟨_,(z07 (z0n (z45 zlq B.any zl0 (z00 (z2t (N:=["end","self"]) (fr:=[0]) 1 (z1i (cv 1)) (λC hN=>by exact pgC ((z0b 0 hN)) (by walk_at "c")) (λC hN=>by exact peC ((zb4 (z3k zmg (cv 0) (z1s F.many_gives (cv 1)) (z0o _)) (z81 (z3k z6e (z0j z0k (z1s F.spare (cv 1)) (cv 0) (λ_ _=>rfl)) z05 (z0o _))))) (by walk_at "c"))) z03)))),?_⟩
 refine rd (σ':=[some (.ref me),some (.ref l)]) rfl ?_;walk_at "run";refine .inl ⟨⟨_,SqL.of hl⟩,cgo (σ':=[none,some (.ref me)]) rfl ?_⟩;refine z1c (xs:=z09 es) (λi ys H'=>H'=H/\ys=((es.take i).map (z5q N spare)).map V.bl) ⟨rfl,rfl⟩ (z0h (by unfold z09;rw[y04];exact hz)) ?_ ?_ ?_
 ·rintro i ys H' _ ⟨rfl,rfl⟩;refine⟨SqL.of hl,?_⟩;rw[y04,y04,y0x];omega
 ·rintro i x ys H' hx ⟨rfl,rfl⟩;obtain⟨e,he,rfl⟩:=z2q hx;have hil:=(y00.mp hx).1;have hen:=hes e (y02 he)
  have hlp:=hP.lp;have hgoal:∀b:Bool,b=z5q N spare e->CNx (λi ys H''=>H''=H'/\ys=((es.take i).map (z5q N spare)).map V.bl) (z09 es).length (i+1) (((es.take i).map (z5q N spare)).map V.bl ++ [V.bl b]) H':=λb hb=>by
   refine CNx.mk ⟨rfl,?_⟩ hil;rw[z0l he,y0f,y0f,hb];rfl
  walk_at "run";refine z6m ⟨_,_,_,g1,g2,?_⟩;walk_at "run";refine z3m (λc=>?_) (λc=>?_)
  ·have c':N.G≤e:=by have:=of_decide_eq_true c;omega
   refine⟨_,_,_,g1,g5,_,_,.inl (SqL.of hP.sp),z3d (z1d (by omega)),?_⟩
   walk_at "run";refine hgoal _ ?_;unfold z5q;rw[decide_eq_true c'];rfl
  ·have c':¬N.G≤e:=λz=>c (decide_eq_true (by omega))
   refine hgoal _ ?_;unfold z5q;rw[decide_eq_false c'];rfl
 ·rintro ys H' ⟨rfl,rfl⟩ l' hl';have hn:(z09 es).length=es.length:=by unfold z09;rw[y04]
  rw[hn,y07 (y09 _)];refine⟨es.map (z5q N spare),SqL.of z01,?_⟩;rw[List.any_map];exact q _ (z06 hl' _)
noncomputable abbrev z27:Stmt:=z30 (top 11) 1
theorem sc_Pour_far_end:FnScope ["self","end","tie","ends"] ["self","end","tie"] (z04 z27):=⟨rfl,rfl,rfl,by decide +kernel,rfl,by decide +kernel,by decide +kernel⟩
theorem z7x (T:MTop K aj "far_end" "Pour.far_end" z27 ["self","end","tie"])(B:Blt mg)(F:FldsPour K aj) :MDef P w K mg base aj "far_end" 1 ["self","end","tie"] (zj3 K aj):=by
 refine z3a (k:=0) T sc_Pour_far_end (λvs H Q E h=>?_) (λf cdv A outer s H vs Q E hr h=>?_)
 ·obtain⟨me,N,aS,aP,sent,spare,M,e,k,b,rfl,_⟩:=h;rfl
 obtain⟨me,N,aS,aP,sent,spare,M,e,k,b,rfl,hP,ht,q⟩:=h;obtain⟨dx,fs,aT,aA,ts,rs,g1,g2,g3,g4,g5,g6,g7,g8,g9,g10,g11⟩:=hP.get;obtain⟨p,hp,hpe⟩:=ht;obtain⟨a,h1,h2⟩:=zk7 g8 hp;have hlo:=hP.wf.lo k p hp;refine⟨_,(z02 (z0d 3 sc_Pour_far_end.nd (z0j z0k (z1s F.tie_ends (cv 0)) (cv 2) (λ_ _=>rfl)))
   (z07 (z0n (zae (z0s z4y (cv 1) (z0j z0k (cv 3) z05 (λ_ _=>rfl)) (z0o _)) (z0j z0k (cv 3) z05 (λ_ _=>rfl)) (z0j z0k (cv 3) z05 (λ_ _=>rfl)))))),?_⟩
 refine rd (σ':=[some (.ref me),some (.int (e:Int)),some (.int (k:Int)),none]) rfl ?_;walk_at "run";refine⟨_,_,_,g1,g3,_,_,.inl (SqL.of g7),z0x h1,?_⟩;walk_at "run";have hT:SqT K H a _:=SqT.of h2;refine⟨_,_,.inr hT,rfl,z3m (λc=>?_) (λc=>?_)⟩
 ·have c':(e:Int)=(p.1:Int):=of_decide_eq_true c;have hb:b=p.2:=by
   rcases hpe with h | h<;>omega
  rw[hb] at q;exact⟨_,_,.inr hT,rfl,q⟩
 ·have c':¬(e:Int)=(p.1:Int):=λz=>c (decide_eq_true z);have hb:b=p.1:=by
   rcases hpe with h | h
   ·exact absurd (congrArg Int.ofNat h.1.symm) c'
   ·exact h.2.symm
  rw[hb] at q;exact⟨_,_,.inr hT,rfl,q⟩
noncomputable abbrev z2g:Stmt:=z30 (top 11) 2
theorem z9a:FnScope ["self","end","tie"] ["self","end","tie"] (z04 z2g):=⟨rfl,rfl,rfl,by decide +kernel,rfl,by decide +kernel,by decide +kernel⟩
theorem z97 (T:MTop K aj "may_go" "Pour.may_go" z2g ["self","end","tie"])(B:Blt mg)(F:FldsPour K aj) :MDef P w K mg base aj "may_go" 1 ["self","end","tie"] (zmu K aj):=by
 refine z3a (k:=0) T z9a (λvs H Q E h=>?_) (λf cdv A outer s H vs Q E hr h=>?_)
 ·obtain⟨me,N,aS,aP,sent,spare,M,e,k,rfl,_⟩:=h;rfl
 obtain⟨me,N,aS,aP,sent,spare,M,e,k,rfl,hP,hk,q⟩:=h;obtain⟨dx,fs,aT,aA,ts,rs,g1,g2,g3,g4,g5,g6,g7,g8,g9,g10,g11⟩:=hP.get;refine⟨_,(z07 (z0n (zob (z3k z7k (cv 1) (z1s F.many_gives (cv 0)) (z0o _)) (z81 (z3k z6e (z0j z0k (z1s F.sent (cv 0)) (cv 2) (λ_ _=>rfl)) z05 (z0o _)))))),?_⟩;refine rd (σ':=[some (.ref me),some (.int (e:Int)),some (.int (k:Int))]) rfl ?_;walk_at "run";refine⟨_,_,_,g1,g2,?_⟩;walk_at "run";unfold goB at q;refine z3m (λc=>?_) (λc=>?_)
 ·have c':e<N.G:=by have:=of_decide_eq_true c;omega
  rw[decide_eq_true c'] at q;exact q
 ·have c':¬e<N.G:=λz=>c (decide_eq_true (by omega))
  rw[decide_eq_false c'] at q;refine⟨_,_,_,g1,g4,_,_,.inl (SqL.of hP.st),z3d (z1d hk),?_⟩;walk_at "run";exact q
noncomputable abbrev z1k:Stmt:=z30 (top 11) 6
theorem sc_Pour_row_behind:FnScope ["self","row","steps","behind","end","tie","far"] ["self","row","steps"] (z04 z1k):=⟨rfl,rfl,rfl,by decide +kernel,rfl,by decide +kernel,by decide +kernel⟩
theorem z62 (T:MTop K aj "row_behind" "Pour.row_behind" z1k ["self","row","steps"])(B:Blt mg)(F:FldsPour K aj)(aB:MDef P w K mg base aj "far_end" 1 ["self","end","tie"] (zj3 K aj))(aL:MDef P w K mg base aj "may_go" 1 ["self","end","tie"] (zmu K aj)):MDef P w K mg base aj "row_behind" 2 ["self","row","steps"] (zec K aj):=by
 refine z3a (k:=1) T sc_Pour_row_behind (λvs H Q E h=>?_) (λf cdv A outer s H vs Q E hr h=>?_)
 ·obtain⟨me,N,aS,aP,sent,spare,M,ar,ast,row,aq,d,rfl,_⟩:=h;rfl
 obtain⟨me,N,aS,aP,sent,spare,M,ar,ast,row,aq,d,rfl,hP,hM,hr0,hne,hst,hl0,hrow,q⟩:=h;obtain⟨G0,f1,f2,f3,f4,fx⟩:=hP.ok;obtain⟨dx,fs,aT,aA,ts,rs,g1,g2,g3,g4,g5,g6,g7,g8,g9,g10,g11⟩:=fx.get;have Fst:=f4 _ hM;refine⟨_,(z02 (z0d 3 sc_Pour_row_behind.nd (z1p z03))
   (z02 (z1z (z1i (cv 1)) (z0b 4 sc_Pour_row_behind.nd)
   (z07 (z1z (z1i (z0j z0k (z1s F.ties_at (cv 0)) (cv 4) (λ_ _=>rfl))) (z0b 5 sc_Pour_row_behind.nd)
    (z02 (z0d 6 sc_Pour_row_behind.nd (z2m aB (hr.mono (by decide)) (cv 0) (z00 (cv 4) (z00 (cv 5) z03))))
     (z07 (z2x (z8p (z0s z7k (z0j z0k (cv 2) (cv 6) (λ_ _=>rfl)) z05 (z0o _)) (z5l (z3c (z2m aL (hr.mono (by decide)) (cv 0) (z00 (cv 4) (z00 (cv 5) z03)))))).pt
     (z02 (z9j (z0m z2i (z0j z0k (cv 2) (cv 4) (λ_ _=>rfl)) z05) (zc2 (cv 2) (cv 6) z4t))
      (z07 (z22 (z1b (cv 3) (z00 (cv 6) z03)))))
     z1h))))))
   (z07 (z0n (cv 3))))),?_⟩
 refine rd (σ':=[some (.ref me),some (.ref ar),some (.ref ast),none,none,none,none]) rfl ?_;walk_at "run";refine⟨sz (by show 0≤1000;decide),λl hl=>.inl ⟨⟨_,SqL.of (z06 hl _ _ _ hr0)⟩,?_⟩⟩
 have hlst:l≠ast:=λz=>(z08 hst hl) z.symm;have hlar:ar≠l:=z08 hr0 hl
 have Fl:=f1.free hl;refine z3w (xs:=z09 row) (λi σ H'=>∃(steps:List Int) (behind:List Nat) (t4 t5 t6:Option V),σ = [some (.ref me),some (.ref ar),some (.ref ast),some (.ref l),t4,t5,t6]/\Frz [ast] H H'/\H' ast=some (.lst (steps.map V.int))/\H' l=some (.lst (z09 behind))/\PM.Behind N sent d row aq (λa _=>a∈row.take i) steps behind/\behind.length+PM.unr steps=PM.unr aq)
  ⟨aq,[],_,_,_,rfl,Frz.of (z06 hl _),z06 hl _ _ _ hst,z01,PM.Behind.start.weak (λa k h=>by simp at h),by simp⟩ ?_ ?_ ?_
 ·rintro i σ H' _ ⟨steps,behind,t4,t5,t6,rfl,fz,_⟩;exact SqL.of (fz _ _ (by simpa using hne) hr0)
 ·rintro i x σ H' hx ⟨steps,behind,t4,t5,t6,rfl,fz,h1,h2,B,hu⟩;obtain⟨e,he,rfl⟩:=z2q hx;have hem:=y02 he;have hlv:=hrow e hem
  have hen:e<N.nE:=by rw[←hl0];exact zc0 (by omega)
  obtain⟨le,hle⟩:∃le,N.at'[e]?=some le:=⟨_,y01 (by rw[hP.wf.len];exact hen)⟩
  obtain⟨ae,ha1,ha2⟩:=z32 g10 hle;have sF':=Same.frz f1 fz (λx hx=>by rw[y0e.mp hx];exact Fst)
  walk_at "run";refine⟨_,_,_,sF' _ _ g1,g6,_,_,.inl (SqL.of (sF' _ _ g9)),z0x ha1,?_⟩;walk_at "run";refine .inl ⟨⟨_,SqL.of (sF' _ _ ha2)⟩,?_⟩;refine z3w (xs:=z09 le) (λj σ H'=>∃(steps:List Int) (behind:List Nat) (t5 t6:Option V),σ = [some (.ref me),some (.ref ar),some (.ref ast),some (.ref l),some (.int (e:Int)),t5,t6]/\Frz [ast] H H'/\H' ast=some (.lst (steps.map V.int))/\H' l=some (.lst (z09 behind))/\PM.Behind N sent d row aq (λa k=>a∈row.take i∨(a=e/\k∈le.take j)) steps behind/\behind.length+PM.unr steps=PM.unr aq)
   ⟨steps,behind,_,_,rfl,fz,h1,h2,B.weak (λa k h=>by simpa using h),hu⟩ ?_ ?_ ?_
  ·rintro j σ H' _ ⟨steps,behind,t5,t6,rfl,fz,_⟩;exact SqL.of ((Same.frz f1 fz (λx hx=>by rw[y0e.mp hx];exact Fst)) _ _ ha2)
  ·clear B h1 h2 hu sF' fz;rintro j x σ H' hx ⟨steps,behind,t5,t6,rfl,fz,h1,h2,B,hu⟩;obtain⟨k,hk,rfl⟩:=z2q hx;have hP':=hP.frz fz (λx hx=>by rw[y0e.mp hx];exact hM)
   have sF':=Same.frz f1 fz (λx hx=>by rw[y0e.mp hx];exact Fst)
   obtain⟨p,hp,hpe⟩:=(hP.wf.mem e le k hle).mp (y02 hk);obtain⟨b,ht⟩:∃b,PM.Tie N e k b:=by
    rcases hpe with z | z
    ·exact⟨p.2,p,hp,.inl ⟨z,rfl⟩⟩
    ·exact⟨p.1,p,hp,.inr ⟨z,rfl⟩⟩
   have hkl:k<sent.length:=by rw[hP.ls];exact(y00.mp hp).1
   have hbn:b<N.nE:=by
    obtain⟨p',hp',hq⟩:=ht;have:=hP.wf.lo k p' hp';have:=hP.wf.gle
    rcases hq with z | z<;>omega
   have hsl:steps.length=N.nE:=by rw[B.len,hl0]
   have hle1:PM.Lv steps e=d:=by rw[B.old e (by omega)];exact hlv
   have nxt:∀{P:Nat->Nat->Prop} {steps:List Int} {behind:List Nat},PM.Behind N sent d row aq (λx y=>(x∈row.take i∨(x=e/\y∈le.take j))∨(x=e/\y=k)) steps behind->PM.Behind N sent d row aq (λa k=>a∈row.take i∨(a=e/\k∈le.take (j+1))) steps behind:=λ{P steps behind} B=>B.weak λa y h=>by
    rw[z0l hk] at h;rcases h with h | ⟨h1,h2⟩
    ·exact .inl (.inl h)
    ·rcases y0z.mp h2 with h2 | h2
     ·exact .inl (.inr ⟨h1,h2⟩)
     ·exact .inr ⟨h1,y0e.mp h2⟩
   walk_at "run";refine⟨_,_,sF' _ _ g1,g11 _ (by decide),me,N,aS,aP,sent,spare,M,e,k,b,rfl,hP',ht,?_⟩
   walk_at "run";refine⟨_,_,.inl (SqL.of h1),z3d (zey (by omega)),?_⟩
   walk_at "run";refine z3m (λc=>?_) (λc=>?_)
   ·have c':=of_decide_eq_true c;refine⟨_,_,sF' _ _ g1,g11 _ (by decide),me,N,aS,aP,sent,spare,M,e,k,rfl,hP',hkl,?_⟩
    walk_at "run";refine z3m (λcg=>?_) (λcg=>?_)
    ·have go:=(zcf hkl).mp cg;refine⟨_,_,.inl (SqL.of h1),z3d (zey (by omega)),?_⟩
     walk_at "run";refine⟨_,b,h1,z3f (by rw[y04];omega),?_⟩
     have hset:(steps.map V.int).set b (.int (PM.Lv steps e+1))=(steps.set b (PM.Lv steps e+1)).map V.int:=by rw[y2q]
     rw[hset,hle1];have B':=nxt (P:=λ_ _=>True) (B.mark hP.wf ht go hem c' (by omega))
     have hu':=PM.unr_set (zey (steps:=steps) (e:=b) (by omega)) c' (show(0:Int)≤(d:Int)+1 by omega)
     have hul:=PM.unr_len aq;have hsm:=hP.sm
     have h2':upd H' ast (.lst ((steps.set b ((d:Int)+1)).map V.int)) l=some (.lst (z09 behind)):=by rw[z0a hlst];exact h2
     have hbl:(z09 behind).length=behind.length:=by unfold z09;rw[y04]
     refine⟨⟨_,h2'⟩,_,h2',z0h (by omega),?_⟩
     refine⟨_,behind ++ [b],_,_,rfl,?_,?_,?_,B',by rw[y0c];simp;omega⟩
     ·intro x o hx q';have hx':x≠ast:=by simpa using hx
      have hxl:x≠l:=z08 q' hl;rw[z0a hxl,z0a hx'];exact fz x o hx q'
     ·rw[z0a (Ne.symm hlst),z01]
     ·rw[z01];unfold z09;rw[y0f];rfl
    ·exact⟨steps,behind,_,_,rfl,fz,h1,h2,nxt (P:=λ_ _=>True) (B.skip hP.wf ht (.inr λz=>cg ((zcf hkl).mpr z))),hu⟩
   ·have c':¬PM.Lv steps b<0:=λz=>c (decide_eq_true z);exact⟨steps,behind,_,_,rfl,fz,h1,h2,nxt (P:=λ_ _=>True) (B.skip hP.wf ht (.inl (by omega))),hu⟩
  ·clear B h1 h2 hu sF' fz;rintro σ H' ⟨steps,behind,t5,t6,rfl,fz,h1,h2,B,hu⟩;refine⟨steps,behind,_,_,_,rfl,fz,h1,h2,B.weakT λa k b h t=>?_,hu⟩;rw[z0l he] at h;rcases y0z.mp h with h | h
   ·exact .inl h
   ·have:=y0e.mp h;subst this;refine .inr ⟨rfl,?_⟩;have hn:(z09 le).length=le.length:=by unfold z09;rw[y04]
    rw[hn,y07 (y09 _)];exact t.mem hP.wf hle
 ·rintro σ H' ⟨steps,behind,t4,t5,t6,rfl,fz,h1,h2,B,hu⟩;walk_at "run";refine q l steps behind H' fz h1 hl h2 (B.weak λa k h=>?_) hu;have hn:(z09 row).length=row.length:=by unfold z09;rw[y04]
  rw[hn,y07 (y09 _)];exact h
noncomputable abbrev z19:Stmt:=z30 (top 11) 5
theorem sc_Pour_steps_to_room:FnScope ["self","steps","row","give"] ["self"] (z04 z19):=⟨rfl,rfl,rfl,by decide +kernel,rfl,by decide +kernel,by decide +kernel⟩
theorem z52 (T:MTop K aj "steps_to_room" "Pour.steps_to_room" z19 ["self"])(B:Blt mg)(F:FldsPour K aj)(ay:MDef P w K mg base aj "gives_with_rest" 1 ["self"] (zie K aj))(az:MDef P w K mg base aj "has_room" 1 ["self","ends"] (zdu K aj))(aV:MDef P w K mg base aj "row_behind" 2 ["self","row","steps"] (zec K aj)):MDef P w K mg base aj "steps_to_room" 3 ["self"] (zfx K aj):=by
 refine z3a (k:=2) T sc_Pour_steps_to_room (λvs H Q E h=>?_) (λf cdv A outer s H vs Q E hr h=>?_)
 ·obtain⟨me,N,aS,aP,sent,spare,M,rfl,_⟩:=h;rfl
 obtain⟨me,N,aS,aP,sent,spare,M,rfl,hP,q⟩:=h;obtain⟨dx,fs,aT,aA,ts,rs,g1,g2,g3,g4,g5,g6,g7,g8,g9,g10,g11⟩:=hP.get;have hsm:=hP.sm;have hg:=hP.wf.gle
 have hsp:(spare.map V.int).length=N.nE:=by rw[y04];exact hP.lp
 refine⟨_,(z02 (z0d 1 sc_Pour_steps_to_room.nd (z0m z2j (z1p (z00 (zcw z8r z05) z03)) (z45 z29 B.len y19 (z00 (z1s F.spare (cv 0)) z03))))
   (z02 (z0d 2 sc_Pour_steps_to_room.nd (z65 ay (hr.mono (by decide)) (cv 0)))
   (z02 (z1z (z1i (cv 2)) (z0b 3 sc_Pour_steps_to_room.nd)
   (z07 (z9j z05 (zc2 (cv 1) (cv 3) z4t))))
   (z02 (z4g (z8p (z0s z6e (z45 z29 B.len y19 (z00 (cv 2) z03)) z05 (z0o _)) (z5l (z46 (z3c (z2m az (hr.mono (by decide)) (cv 0) (z00 (cv 2) z03)))))).pt
   (z07 (z0d 2 sc_Pour_steps_to_room.nd (z2m aV (hr.mono (by decide)) (cv 0) (z00 (cv 2) (z00 (cv 1) z03))))))
   (z07 (z0n (cv 1))))))),?_⟩
 refine rd (σ':=[some (.ref me),none,none,none]) rfl ?_;walk_at "run";refine⟨sz (by show 1≤1000;decide),λl0 hl0=>?_⟩
 have s0:=z06 hl0 (.lst [.int (-1)]);refine⟨_,_,_,s0 _ _ g1,g5,_,.inl (SqL.of (s0 _ _ hP.sp)),?_⟩;rw[hsp];walk_at "run";refine⟨_,z01,by omega,by omega,sz (by show 1*_≤1000;omega),λl hl=>?_⟩
 rw[z4o];have e0:y08 ((N.nE:Int)).toNat (V.int (-1))=(y08 N.nE (-1)).map V.int:=by rw[y3h];rfl
 rw[e0];have s1:=z06 hl (.lst ((y08 N.nE (-1)).map V.int));have sA:=s0.trans s1
 have hlH:H l=none:=s0.free hl;have hP1:=(hP.same s0).new hl |>.same s1
 refine⟨_,_,sA _ _ g1,g11 _ (by decide),me,N,aS,aP,sent,spare,_,rfl,hP1,λr hr=>?_⟩
 have s2:=z06 hr (.lst (z09 (rest N spare)));have hl1:upd (upd (upd H l0 (.lst [.int (-1)])) l (.lst ((y08 N.nE (-1)).map V.int))) r (.lst (z09 (rest N spare))) l=some (.lst ((y08 N.nE (-1)).map V.int)):=s2 _ _ z01
 have hrl:r≠l:=λz=>by
  subst z;rw[z01] at hr;cases hr
 walk_at "run";refine .inl ⟨⟨_,SqL.of z01⟩,?_⟩;have hP3:=hP1.same s2;have hr3:upd (upd (upd H l0 (.lst [.int (-1)])) l (.lst ((y08 N.nE (-1)).map V.int))) r (.lst (z09 (rest N spare))) r=some (.lst (z09 (rest N spare))):=z01
 have sB:=sA.trans s2;have e1:H me=some (.ins aj dx fs):=g1
 clear hP1 s0 s1 s2 sA hr hl e0;generalize upd (upd (upd H l0 (.lst [.int (-1)])) l (.lst ((y08 N.nE (-1)).map V.int))) r (.lst (z09 (rest N spare)))=H3 at hP3 hr3 hl1 sB ⊢
 have back:∀H',Frz [l] H3 H'->Same H H':=λH' fz b o h=>fz b o (by simpa using z08 h hlH) (sB b o h)
 have hlen:(z09 (rest N spare)).length=(rest N spare).length:=by unfold z09;rw[y04]
 refine z3w (xs:=z09 (rest N spare)) (λi σ H'=>∃(steps:List Int) (t:Option V),σ = [some (.ref me),some (.ref l),some (.ref r),t]/\Frz [l] H3 H'/\H' l=some (.lst (steps.map V.int))/\steps.length=N.nE/\∀e,PM.Lv steps e=if e∈(rest N spare).take i then 0 else -1)
  ⟨_,_,rfl,λb o _ h=>h,hl1,by rw[y1m],λe=>?_⟩ ?_ ?_ ?_
 ·unfold PM.Lv;rw[y06,y1a]
  split<;>simp
 ·rintro i σ H' _ ⟨steps,t,rfl,fz,_⟩;exact SqL.of (fz _ _ (by simpa using hrl) hr3)
 ·rintro i x σ H' hx ⟨steps,t,rfl,fz,h1,hsl,hlv⟩;obtain⟨g,hg1,rfl⟩:=z2q hx;have hgm:=rest_mem.mp (y02 hg1);walk_at "run";refine⟨_,g,h1,z3f (by rw[y04];omega),steps.set g 0,_,rfl,fz.trans (Frz.upd (by simp)),by rw[z01,y2q],by rw[y25];exact hsl,λe=>?_⟩
  rw[PM.lv_set (by omega),z0l hg1]
  by_cases c:e=g
  ·subst c;simp
  ·rw[if_neg c,hlv e];simp[c]
 rintro σ H' ⟨steps,t,rfl,fz,h1,hsl,hlv⟩;rw[hlen,y07 (y09 _)] at hlv;have R0:=zrd (sent:=sent) hP.wf hsl hP.lp hlv;have hrl':=zjf (N:=N) (spare:=spare)
 walk_at "run";refine⟨λm σ H'=>∃(d:Nat) (row:List Nat) (steps:List Int) (ar:Addr) (t:Option V),σ = [some (.ref me),some (.ref l),some (.ref ar),t]/\Frz [l] H3 H'/\H' l=some (.lst (steps.map V.int))/\H' ar=some (.lst (z09 row))/\ar≠l/\steps.length=N.nE/\row.length≤1000/\PM.Rows N sent spare d row steps/\m=2*PM.unr steps+(if row = [] then 0 else 1),
  ⟨_,0,rest N spare,steps,r,_,rfl,fz,h1,fz _ _ (by simpa using hrl) hr3,hrl,hsl,by omega,R0,rfl⟩,?_⟩
 clear R0 hlv h1 fz hsl;rintro m σ H' ⟨d,row,steps,ar,t,rfl,fz,h1,h2,hne,hsl,hrow,R,rfl⟩;have hrn:(z09 row).length=row.length:=by unfold z09;rw[y04]
 have sH:=back H' fz;have hP':=hP3.frz fz (λx hx=>by rw[y0e.mp hx];exact y0h)
 have inr:∀e∈row,e<N.nE:=λe he=>by
  have:=(R.row e).mp he;rw[←hsl];exact zc0 (by omega)
 walk_at "run";refine⟨_,.inl (SqL.of h2),?_⟩;rw[hrn];walk_at "run";refine z3m (λc=>?_) (λc=>z7t ?_)
 ·have c':row ≠ []:=by
   rintro rfl;simp at c
  refine⟨_,_,sH _ _ g1,g11 _ (by decide),me,N,aS,aP,sent,spare,_,ar,row,rfl,hP',h2,hrow,inr,λH4 s4=>?_⟩
  walk_at "run";refine z3m (λca=>?_) (λca=>?_)
  ·have nor:∀e∈row,¬PM.Room N spare e:=λe he hR=>by
    have:row.any (z5q N spare)=true:=y1v.mpr ⟨e,he,(z4i (by rw[hP.lp];exact inr e he)).mpr hR⟩
    rw[this] at ca;cases ca
   refine⟨_,_,(sH.trans s4) _ _ g1,g11 _ (by decide),me,N,aS,aP,sent,spare,_,ar,l,row,steps,d,rfl,hP'.same s4,y0h,s4 _ _ h2,hne,s4 _ _ h1,hsl,λe he=>(R.row e).mp he,λl2 steps2 behind H5 fz5 k1 k2 k3 B hu=>?_⟩
   have hul:=PM.unr_len steps;refine⟨_,?_,d+1,behind,steps2,l2,_,rfl,fz.trans ((Frz.of s4).trans fz5),k1,k3,λz=>?_,by rw[B.len];exact hsl,by omega,R.next B nor,rfl⟩
   ·rw[if_neg c']
    split
    ·omega
    ·rename_i hb;have:=y0v.mpr hb;omega
   ·subst z;rw[s4 _ _ h1] at k2;cases k2
  ·have ca':row.any (z5q N spare)=true:=by simpa using ca
   obtain⟨e,he,hR⟩:=y1v.mp ca';exact q l steps H4 (sH.trans s4) hlH (s4 _ _ h1) hsl ⟨d,row,R,.inr ⟨e,he,(z4i (by rw[hP.lp];exact inr e he)).mp hR⟩⟩
 ·have c':row = []:=by
   rcases y2f row.length with z | z
   ·exact y1x.mp z
   ·exact absurd (decide_eq_true (by omega)) c
  exact q l steps H' sH hlH h1 hsl ⟨d,row,R,.inl c'⟩
noncomputable abbrev z1y:Stmt:=z30 (top 11) 10
theorem z7j:FnScope ["self","end","tie","steps"] ["self","end","tie","steps"] (z04 z1y):=⟨rfl,rfl,rfl,by decide +kernel,rfl,by decide +kernel,by decide +kernel⟩
theorem z7l (T:MTop K aj "leads_on" "Pour.leads_on" z1y ["self","end","tie","steps"])(B:Blt mg)(aL:MDef P w K mg base aj "may_go" 1 ["self","end","tie"] (zmu K aj))(aB:MDef P w K mg base aj "far_end" 1 ["self","end","tie"] (zj3 K aj)):MDef P w K mg base aj "leads_on" 2 ["self","end","tie","steps"] (zhm K aj):=by
 refine z3a (k:=1) T z7j (λvs H Q E h=>?_) (λf cdv A outer s H vs Q E hr h=>?_)
 ·obtain⟨me,N,aS,aP,sent,spare,M,ast,steps,e,k,b,rfl,_⟩:=h;rfl
 obtain⟨me,N,aS,aP,sent,spare,M,ast,steps,e,k,b,rfl,hP,hst,hsl,ht,q⟩:=h;obtain⟨dx,fs,aT,aA,ts,rs,g1,g2,g3,g4,g5,g6,g7,g8,g9,g10,g11⟩:=hP.get;obtain⟨t1,t2,t3⟩:=zlf hP.wf ht;refine⟨_,(z07 (z0n (zb4 (z3k z4y (z0j z0k (cv 3) (z2m aB (hr.mono (by decide)) (cv 0) (z00 (cv 1) (z00 (cv 2) z03))) (λ_ _=>rfl)) (z0m z2i (z0j z0k (cv 3) (cv 1) (λ_ _=>rfl)) z05) (z0o _)) (z81 (z2m aL (hr.mono (by decide)) (cv 0) (z00 (cv 1) (z00 (cv 2) z03))))))),?_⟩
 refine rd (σ':=[some (.ref me),some (.int (e:Int)),some (.int (k:Int)),some (.ref ast)]) rfl ?_;walk_at "run";refine⟨_,_,g1,g11 _ (by decide),me,N,aS,aP,sent,spare,M,e,k,b,rfl,hP,ht,?_⟩
 walk_at "run";refine⟨_,_,.inl (SqL.of hst),z3d (zey (by omega)),_,_,.inl (SqL.of hst),z3d (zey (by omega)),?_⟩
 walk_at "run";unfold ziu at q;refine z3m (λc=>?_) (λc=>?_)
 ·rw[c,y7l] at q;exact⟨_,_,g1,g11 _ (by decide),me,N,aS,aP,sent,spare,M,e,k,rfl,hP,by rw[hP.ls];exact t3,q⟩
 ·rw[eq_false_of_ne_true c,y66] at q;exact q
noncomputable abbrev z0y:Stmt:=z30 (top 11) 9
theorem sc_Pour_skip_dead_ties:FnScope ["self","end","steps","tried","ties"] ["self","end","steps","tried"] (z04 z0y):=⟨rfl,rfl,rfl,by decide +kernel,rfl,by decide +kernel,by decide +kernel⟩
theorem z4u (T:MTop K aj "skip_dead_ties" "Pour.skip_dead_ties" z0y ["self","end","steps","tried"])(B:Blt mg)(F:FldsPour K aj)(bf:MDef P w K mg base aj "leads_on" 2 ["self","end","tie","steps"] (zhm K aj)):MDef P w K mg base aj "skip_dead_ties" 3 ["self","end","steps","tried"] (zl5 K aj):=by
 refine z3a (k:=2) T sc_Pour_skip_dead_ties (λvs H Q E h=>?_) (λf cdv A outer s H vs Q E hr h=>?_)
 ·obtain⟨me,N,aS,aP,sent,spare,M,ast,atr,steps,tried,e,g,es,way,rfl,_⟩:=h;rfl
 obtain⟨me,N,aS,aP,sent,spare,M,ast,atr,steps,tried,e,g,es,way,rfl,hP,hM,hne,hst,hsl,htr,W0,hes,hen,q⟩:=h;obtain⟨G0,f1,f2,f3,f4,fx⟩:=hP.ok;obtain⟨dx,fs,aT,aA,ts,rs,g1,g2,g3,g4,g5,g6,g7,g8,g9,g10,g11⟩:=fx.get;have Ftr:=f4 _ hM;obtain⟨le,hle⟩:∃le,N.at'[e]?=some le:=⟨_,y01 (by rw[hP.wf.len];exact hen)⟩
 obtain⟨ae,ha1,ha2⟩:=z32 g10 hle;have hnl:(z09 le).length=le.length:=by unfold z09;rw[y04]
 refine⟨_,(z02 (z0d 4 sc_Pour_skip_dead_ties.nd (z0j z0k (z1s F.ties_at (cv 0)) (cv 1) (λ_ _=>rfl)))
   (z07 (z4g (z8p (z0s z7k (z0j z0k (cv 3) (cv 1) (λ_ _=>rfl)) (z45 z29 B.len y19 (z00 (cv 4) z03)) (z0o _)) (z5l (z46 (z3c (z2m bf (hr.mono (by decide)) (cv 0) (z00 (cv 1) (z00 (z0j z0k (cv 4) (z0j z0k (cv 3) (cv 1) (λ_ _=>rfl)) (λ_ _=>rfl)) (z00 (cv 2) z03)))))))).pt
   (z07 (z5t (cv 3) (cv 1) z8m z05 zcq z4t))))),?_⟩
 refine rd (σ':=[some (.ref me),some (.int (e:Int)),some (.ref ast),some (.ref atr),none]) rfl ?_;walk_at "run";refine⟨_,_,_,f1 _ _ g1,g6,_,_,.inl (SqL.of (f1 _ _ g9)),z0x ha1,?_⟩;refine⟨λm σ H'=>∃(av:List Int) (t:Nat),σ = [some (.ref me),some (.int (e:Int)),some (.ref ast),some (.ref atr),some (.ref ae)]/\Frz [atr] H H'/\H' atr=some (.lst (av.map V.int))/\PM.Walk N sent spare steps g av es way/\PM.pot N.at' av≤PM.pot N.at' tried/\(∀b,PM.Exh N spare tried b->PM.Exh N spare av b)/\av[e]?=some (t:Int)/\t≤le.length/\m=le.length - t,?_,?_⟩
 ·have hl:=W0.tr.len;obtain⟨z,hz⟩:∃z,tried[e]?=some z:=⟨_,y01 (by omega)⟩
  obtain⟨z0,z1⟩:=W0.tr.ok e le z hle hz;obtain⟨t,rfl⟩:=y2b z0;exact⟨_,tried,t,rfl,λb o _ h=>h,htr,W0,y09 _,λb h=>h,hz,by omega,rfl⟩
 ·rintro m σ H' ⟨av,t,rfl,fz,h1,W,hp,hx,ht,htl,rfl⟩;have sF':=Same.frz f1 fz (λx hx=>by rw[y0e.mp hx];exact Ftr)
  have hP':=hP.frz fz (λx hx=>by rw[y0e.mp hx];exact hM)
  have hst':=fz _ _ (by simpa using hne) hst
  walk_at "run";refine⟨_,_,.inl (SqL.of h1),z3d ht,_,.inl (SqL.of (sF' _ _ ha2)),?_⟩;rw[hnl];walk_at "run";refine z3m (λc=>?_) (λc=>z7t ?_)
  ·have c':t<le.length:=by have:=of_decide_eq_true c;omega
   have hk:le[t]?=some le[t]:=y01 c';obtain⟨b,hb⟩:=zlg hP.wf hle (y02 hk);refine⟨_,_,sF' _ _ g1,g11 _ (by decide),_,_,.inl (SqL.of h1),z3d ht,_,_,.inl (SqL.of (sF' _ _ ha2)),z0x (zi5 hk),?_⟩
   refine⟨me,N,aS,aP,sent,spare,M,ast,steps,e,le[t],b,rfl,hP',hst',hsl,hb,?_⟩;walk_at "run";refine z3m (λcl=>?_) (λcl=>?_)
   ·have nl:∀b',¬PM.Leads N sent steps e le[t] b':=λb' L=>by
     have:=hb.uniq hP.wf L.1;subst this;rw[(zbc hP.wf hb hP.ls).mpr L] at cl;cases cl
    refine⟨_,_,h1,by omega,z5u ht,_,e,h1,z3f (by rw[y04];exact(y00.mp ht).1),?_⟩
    refine⟨le.length - (t+1),by omega,av.set e ((t:Int)+1),t+1,rfl,?_,?_,W.skip hes hle ht hk nl,?_,λb' h=>(hx b' h).keep hle ht (by omega),?_,by omega,rfl⟩
    ·exact fz.trans (Frz.upd (by simp))
    ·rw[z01,y2q]
    ·have:=PM.pot_step hle ht c';omega
    ·rw[y0q (y00.mp ht).1];rfl
   ·refine q av H' fz h1 W hp hx ⟨le,t,hle,ht,htl,λk' b' hk' tie'=>?_⟩;rw[hk] at hk';cases hk';have:=hb.uniq hP.wf tie';subst this;simpa using cl
  ·have c':¬t<le.length:=λz=>c (decide_eq_true (by omega))
   refine q av H' fz h1 W hp hx ⟨le,t,hle,ht,htl,λk' b' hk' tie'=>?_⟩;rw[y0w (by omega)] at hk'
   cases hk'
noncomputable abbrev z1x:Stmt:=z30 (top 11) 8
theorem sc_Pour_way_from:FnScope ["self","give","steps","tried","way","ends","end","tie"] ["self","give","steps","tried"] (z04 z1x):=⟨rfl,rfl,rfl,by decide +kernel,rfl,by decide +kernel,by decide +kernel⟩
theorem z7n (T:MTop K aj "way_from" "Pour.way_from" z1x ["self","give","steps","tried"])(B:Blt mg)(F:FldsPour K aj)(az:MDef P w K mg base aj "has_room" 1 ["self","ends"] (zdu K aj))(aM:MDef P w K mg base aj "skip_dead_ties" 3 ["self","end","steps","tried"] (zl5 K aj))(aB:MDef P w K mg base aj "far_end" 1 ["self","end","tie"] (zj3 K aj)):MDef P w K mg base aj "way_from" 4 ["self","give","steps","tried"] (zp3 K aj):=by
 refine z3a (k:=3) T sc_Pour_way_from (λvs H Q E h=>?_) (λf cdv A outer s H vs Q E hr h=>?_)
 ·obtain⟨me,N,aS,aP,sent,spare,M,ast,atr,steps,tried,g,rfl,_⟩:=h;rfl
 obtain⟨me,N,aS,aP,sent,spare,M,ast,atr,steps,tried,g,rfl,hP,hM,hne,hst,hsl,htr,hg0,hgG,T0,D0,q⟩:=h;obtain⟨G0,f1,f2,f3,f4,fx⟩:=hP.ok;obtain⟨dx,fs,aT,aA,ts,rs,g1,g2,g3,g4,g5,g6,g7,g8,g9,g10,g11⟩:=fx.get;have Ftr:=f4 _ hM;have hsm:=hP.sm
 obtain⟨Bn,hBn⟩:=PM.lv_top steps;refine⟨_,(z02 (z0d 4 sc_Pour_way_from.nd (z1p z03))
   (z02 (z0d 5 sc_Pour_way_from.nd (z1p (z00 (cv 1) z03)))
   (z02 (z4g (z8p (z0s z6e (z45 z29 B.len y19 (z00 (cv 5) z03)) z05 (z0o _)) (z5l (z46 (z3c (z2m az (hr.mono (by decide)) (cv 0) (z00 (z1p (z00 (z0j z0k (cv 5) (zcw z8r z05) (λ_ _=>rfl)) z03)) z03)))))).pt
   (z02 (z0d 6 sc_Pour_way_from.nd (z0j z0k (cv 5) (zcw z8r z05) (λ_ _=>rfl)))
    (z02 (z22 (z2m aM (hr.mono (by decide)) (cv 0) (z00 (cv 6) (z00 (cv 2) (z00 (cv 3) z03)))))
    (z07 (z2x (z0s z7k (z0j z0k (cv 3) (cv 6) (λ_ _=>rfl)) (z45 z29 B.len y19 (z00 (z0j z0k (z1s F.ties_at (cv 0)) (cv 6) (λ_ _=>rfl)) z03)) (z0o _))
    (z02 (z0d 7 sc_Pour_way_from.nd (z0j z0k (z0j z0k (z1s F.ties_at (cv 0)) (cv 6) (λ_ _=>rfl)) (z0j z0k (cv 3) (cv 6) (λ_ _=>rfl)) (λ_ _=>rfl)))
     (z02 (z22 (z1b (cv 4) (z00 (cv 7) z03)))
     (z07 (z22 (z1b (cv 5) (z00 (z2m aB (hr.mono (by decide)) (cv 0) (z00 (cv 6) (z00 (cv 7) z03))) z03))))))
    (z02 (z22 (z8t (cv 5)))
     (z07 (z2x (z0s z6e (z45 z29 B.len y19 (z00 (cv 5) z03)) z05 (z0o _))
     (z02 (z22 (z8t (cv 4)))
      (z07 (z5t (cv 3) (z0j z0k (cv 5) (zcw z8r z05) (λ_ _=>rfl)) z8m z05 zcq z4t)))
     z1h))))))))
   (z07 (z0n (cv 4)))))),?_⟩
 refine rd (σ':=[some (.ref me),some (.int (g:Int)),some (.ref ast),some (.ref atr),none,none,none,none]) rfl ?_;walk_at "run";refine⟨sz (by show 0≤1000;decide),λlw hlw=>⟨sz (by show 1≤1000;decide),λle hle=>?_⟩⟩
 have s1:=z06 hlw (.lst []);have s2:=z06 hle (.lst [.int (g:Int)])
 have hleH:H le=none:=s1.free hle;have hlwe:le≠lw:=λz=>by
  subst z;rw[z01] at hle;cases hle
 have nwr:lw≠atr:=λz=>(z08 htr hlw) z.symm;have ner:le≠atr:=λz=>(z08 htr hleH) z.symm
 refine⟨λm σ H'=>∃(av:List Int) (es way:List Nat) (t6 t7:Option V),σ = [some (.ref me),some (.int (g:Int)),some (.ref ast),some (.ref atr),some (.ref lw),some (.ref le),t6,t7]/\Frz [atr] H H'/\H' atr=some (.lst (av.map V.int))/\H' lw=some (.lst (z09 way))/\H' le=some (.lst (z09 es))/\PM.Walk N sent spare steps g av es way/\(∀b,PM.Exh N spare tried b->PM.Exh N spare av b)/\m=PM.wm Bn N.at' av es,
  ⟨_,tried,[g],[],_,_,rfl,Frz.of (s1.trans s2),(s1.trans s2) _ _ htr,s2 _ _ z01,z01,⟨T0,D0,λ_=>⟨⟨rfl,λi k hk=>by simp at hk⟩,rfl⟩,λz=>by simp at z,λi k e hk=>by simp at hk⟩,λb h=>h,rfl⟩,?_⟩
 rintro m σ H' ⟨av,es,way,t6,t7,rfl,fz,h1,h2,h3,W,hx,rfl⟩;have mono:∀H'',Frz [atr] H H''->Same G0 H''/\PourAt K aj H'' me N aS aP sent spare M/\H'' ast=some (.lst (steps.map V.int)):=λH'' fz=>⟨Same.frz f1 fz (λx hx=>by rw[y0e.mp hx];exact Ftr),hP.frz fz (λx hx=>by rw[y0e.mp hx];exact hM),fz _ _ (by simpa using hne) hst⟩
 obtain⟨sF',hP',hst'⟩:=mono H' fz;have hshort:=W.short hg0 hBn;have esl:es.length≤1000:=by
  by_cases z:es = []
  ·subst z;simp
  ·obtain⟨Pt,h0⟩:=W.path z;have nd:es.Nodup:=by
    refine y2j.mpr λi j hi hj hij he=>?_;have hi':es[i]?=some es[i]:=y01 hi;have hj':es[j]?=some es[i]:=by rw[he];exact y01 hj
    have:=Pt.inj h0 hi' hj';omega
   have sub:∀x∈es,x<N.nE:=λx hx=>by
    obtain⟨i,hi⟩:=y0a hx;have:=Pt.lev h0 hi;rw[←hsl];exact zc0 (by omega)
   have:=zda nd sub;omega
 walk_at "run";refine⟨_,.inl (SqL.of h3),?_⟩;rw[z4k];walk_at "run";refine z3m (λc=>?_) (λc=>z7t ?_)
 ·have hes:es ≠ []:=by
   rintro rfl;simp at c
  obtain⟨Pt,h0⟩:=W.path hes;obtain⟨e,hel⟩:∃e,es.getLast?=some e:=⟨_,y1y hes⟩;have pl:=Pt.len;have hlast:es[way.length]?=some e:=by
   rw[y1c] at hel;rw[show es.length - 1=way.length by omega] at hel
   exact hel
  have hlev:=Pt.lev h0 hlast;have hen:e<N.nE:=by
   rw[←hsl];exact zc0 (by omega)
  refine⟨_,_,sF' _ _ g1,g11 _ (by decide),_,_,.inl (SqL.of h3),z7s (z79 hel),sz (by show 1≤1000;decide),λp hp=>?_⟩
  have s3:=z06 hp (.lst [.int (e:Int)]);refine⟨me,N,aS,aP,sent,spare,M,p,[e],rfl,hP'.same s3,z01,by show 1≤1000;decide,λx hx=>by rw[y0e.mp hx];exact hen,λH4 s4=>?_⟩
  have s34:=s3.trans s4;have fz4:=fz.trans (Frz.of s34)
  obtain⟨sF4,hP4,hst4⟩:=mono H4 fz4;have hany:[e].any (z5q N spare)=z5q N spare e:=by simp
  rw[hany];walk_at "run";refine z3m (λcr=>?_) (λcr=>?_)
  ·have nor:¬PM.Room N spare e:=λhR=>by
    rw[(z4i (by rw[hP.lp];exact hen)).mpr hR] at cr
    cases cr
   refine⟨_,_,.inl (SqL.of (s34 _ _ h3)),z7s (z79 hel),_,_,sF4 _ _ g1,g11 _ (by decide),?_⟩
   refine⟨me,N,aS,aP,sent,spare,M,ast,atr,steps,av,e,g,es,way,rfl,hP4,hM,hne,hst4,hsl,s34 _ _ h1,W,hel,hen,λbC H5 fz5 k1 W2 hpot hx2 hlt=>?_⟩;obtain⟨l,t,hl,ht,htl,hlead⟩:=hlt;have fz5':=fz4.trans fz5;obtain⟨sF5,hP5,hst5⟩:=mono H5 fz5';have h2':H5 lw=some (.lst (z09 way)):=fz5 _ _ (by simpa using nwr) (s34 _ _ h2)
   have h3':H5 le=some (.lst (z09 es)):=fz5 _ _ (by simpa using ner) (s34 _ _ h3)
   have hx':∀b,PM.Exh N spare tried b->PM.Exh N spare bC b:=λb h=>hx2 b (hx b h);obtain⟨ae,ha1,ha2⟩:=z32 g10 hl;walk_at "run";refine⟨_,_,.inl (SqL.of k1),z3d ht,_,_,_,sF5 _ _ g1,g6,_,_,.inl (SqL.of (sF5 _ _ g9)),z0x ha1,?_⟩;walk_at "run";refine⟨_,.inl (SqL.of (sF5 _ _ ha2)),?_⟩;rw[z4k];refine z3m (λct=>?_) (λct=>?_)
   ·have ct':t<l.length:=by have:=of_decide_eq_true ct;omega
    have hk:l[t]?=some l[t]:=y01 ct';obtain⟨b,hb⟩:=zlg hP.wf hl (y02 hk);have L:=(zbc hP.wf hb hP.ls).mp (hlead _ b hk hb)
    have W3:=W2.push hel hl ht hk L nor;have hsh:=W3.short hg0 hBn
    rw[y0c,y4g] at hsh;refine⟨_,_,_,sF5 _ _ g1,g6,_,_,.inl (SqL.of (sF5 _ _ g9)),z0x ha1,_,_,.inl (SqL.of k1),z3d ht,?_⟩;walk_at "run";refine⟨_,_,.inl (SqL.of (sF5 _ _ ha2)),z0x (zi5 hk),?_⟩;walk_at "run";have wl:way.length<1000:=by omega
    refine⟨⟨_,h2'⟩,_,h2',z0h (by rw[z4k];omega),?_⟩
    rw[zb8];have fz6:Frz [atr] H (upd H5 lw (.lst (z09 (way ++ [l[t]])))):=fz5'.new hlw;obtain⟨sF6,hP6,hst6⟩:=mono _ fz6;have h3'':upd H5 lw (.lst (z09 (way ++ [l[t]]))) le=some (.lst (z09 es)):=by rw[z0a hlwe];exact h3'
    refine⟨⟨_,h3''⟩,_,_,sF6 _ _ g1,g11 _ (by decide),me,N,aS,aP,sent,spare,M,e,l[t],b,rfl,hP6,hb,?_⟩
    walk_at "run";refine⟨_,h3'',z0h (by rw[z4k];omega),?_⟩
    rw[zb8];refine⟨_,?_,bC,es ++ [b],way ++ [l[t]],_,_,rfl,fz6.new hleH,?_,?_,z01,W3,hx',rfl⟩
    ·unfold PM.wm;rw[if_neg (by simp),if_neg hes,y0c,y4g]
     have:=y3t (Bn+3) hpot;omega
    ·rw[z0a (Ne.symm ner),z0a (Ne.symm nwr)];exact k1
    ·rw[z0a (Ne.symm hlwe),z01]
   ·have ct':t=l.length:=by
     have:¬t<l.length:=λz=>ct (decide_eq_true (by omega))
     omega
    rw[ct'] at ht;have h3l:(z09 es)[(z09 es).length - 1]?=some (.int (e:Int)):=by
     have:=z79 hel;rw[y1c] at this;exact this
    refine⟨_,_,h3',h3l,?_⟩;rw[zhu];have fz6:Frz [atr] H (upd H5 le (.lst (z09 es.dropLast))):=fz5'.new hleH;have k1':upd H5 le (.lst (z09 es.dropLast)) atr=some (.lst (bC.map V.int)):=by rw[z0a (Ne.symm ner)];exact k1
    have k2':upd H5 le (.lst (z09 es.dropLast)) lw=some (.lst (z09 way)):=by rw[z0a (Ne.symm hlwe)];exact h2'
    walk_at "run";refine⟨_,.inl (SqL.of z01),?_⟩;rw[z4k];refine z3m (λcd=>?_) (λcd=>?_)
    ·have hd:es.dropLast ≠ []:=by
      intro z;rw[z] at cd;simp at cd
     obtain⟨f,hf⟩:∃f,es.dropLast.getLast?=some f:=⟨_,y1y hd⟩;obtain⟨t2,l2,j1,j2,j3,W3⟩:=W2.pop hP.wf hel hf hl ht nor;have dl:es.dropLast.length=es.length - 1:=y65;have hdl:=y0v.mpr hd
     have hway:way ≠ []:=by
      intro z;rw[z] at pl;simp at pl;omega
     obtain⟨kw,hkw⟩:∃kw,way.getLast?=some kw:=⟨_,y1y hway⟩;have h2l:(z09 way)[(z09 way).length - 1]?=some (.int (kw:Int)):=by
      have:=z79 hkw;rw[y1c] at this;exact this
     refine⟨_,_,k2',h2l,?_⟩;rw[zhu];have k3:upd (upd H5 le (.lst (z09 es.dropLast))) lw (.lst (z09 way.dropLast)) le=some (.lst (z09 es.dropLast)):=by rw[z0a hlwe,z01]
     have k4:upd (upd H5 le (.lst (z09 es.dropLast))) lw (.lst (z09 way.dropLast)) atr=some (.lst (bC.map V.int)):=by rw[z0a (Ne.symm nwr)];exact k1'
     refine⟨_,_,.inl (SqL.of k3),z7s (z79 hf),?_⟩;walk_at "run";refine⟨_,_,k4,by omega,z5u j2,_,f,k4,z3f (by rw[y04];exact(y00.mp j2).1),?_⟩
     refine⟨_,?_,bC.set f ((t2:Int)+1),es.dropLast,way.dropLast,_,_,rfl,(fz6.new hlw).trans (Frz.upd (by simp)),by rw[z01,y2q],?_,?_,W3,λb h=>(hx' b h).keep j1 j2 (by omega),rfl⟩
     ·unfold PM.wm;rw[if_neg hd,if_neg hes,dl];have p1:=PM.pot_step j1 j2 j3;have p2:(PM.pot N.at' (bC.set f ((t2:Int)+1))+1)*(Bn+3)≤PM.pot N.at' av*(Bn+3):=y3t _ (by omega)
      rw[y7e] at p2;omega
     ·rw[z0a nwr,z01]
     ·rw[z0a ner];exact k3
    ·have hd:es.dropLast = []:=by
      rcases y2f es.dropLast.length with z | z
      ·exact y1x.mp z
      ·exact absurd (decide_eq_true (by omega)) cd
     obtain⟨wn,W3⟩:=W2.fin hel hd hl ht nor;subst wn;refine⟨_,?_,bC,[],[],_,_,rfl,fz6,k1',k2',by rw[z01,hd],W3,hx',rfl⟩
     unfold PM.wm;rw[if_pos rfl,if_neg hes];omega
  ·have cr':z5q N spare e=true:=by simpa using cr
   have hR:=(z4i (by rw[hP.lp];exact hen)).mp cr'
   have hwne:way ≠ []:=by
    rintro rfl;have e1:es[0]?=some e:=hlast;rw[h0] at e1;cases e1;have:=hR.1
    omega
   exact q lw way av H4 fz4 (s34 _ _ h1) hlw (s34 _ _ h2) W.tr W.dead hx (.inr ⟨hwne,es,e,Pt,h0,hlast,hR⟩) (by omega)
 ·have hes:es = []:=by
   rcases y2f es.length with z | z
   ·exact y1x.mp z
   ·exact absurd (decide_eq_true (by omega)) c
  obtain⟨wn,ex⟩:=W.none hes;exact q lw way av H' fz h1 hlw h2 W.tr W.dead hx (.inl ⟨wn,ex⟩) (by rw[wn];decide)
noncomputable abbrev z1n:Stmt:=z30 (top 11) 11
theorem sc_Pour_send_along:FnScope ["self","give","way","take","amount","tie"] ["self","give","way"] (z04 z1n):=⟨rfl,rfl,rfl,by decide +kernel,rfl,by decide +kernel,by decide +kernel⟩
theorem z6j (T:MTop K aj "send_along" "Pour.send_along" z1n ["self","give","way"])(B:Blt mg)(F:FldsPour K aj) :MDef P w K mg base aj "send_along" 1 ["self","give","way"] (zlk K aj):=by
 refine z3a (k:=0) T sc_Pour_send_along (λvs H Q E h=>?_) (λf cdv A outer s H vs Q E hr h=>?_)
 ·obtain⟨me,N,aS,aP,sent,spare,M,lw,cap,steps,g,f',es,way,rfl,_⟩:=h;rfl
 obtain⟨me,N,aS,aP,sent,spare,M,lw,cap,steps,g,f',es,way,rfl,hP,hM,hlw,hwl,hwn,hF,Pt,h0,h1,hR,hg,hsg,q⟩:=h;obtain⟨G0,f1,f2,f3,f4,fx⟩:=hP.ok;obtain⟨dx,fs,aT,aA,ts,rs,g1,g2,g3,g4,g5,g6,g7,g8,g9,g10,g11⟩:=fx.get;have hgle:=hP.wf.gle;have hlp:=hP.lp
 have hls:=hP.ls;obtain⟨hfG,y,hy,hy0⟩:=hR;have hfl:f'<spare.length:=(y00.mp hy).1
 have hgl:g<spare.length:=by omega
 have hyD:spare.getD f' 0=y:=by simp[y1n,hy]
 obtain⟨kl,hkl⟩:∃k,way.getLast?=some k:=⟨_,y1y hwn⟩;have hkl':way[way.length - 1]?=some kl:=by rw[y1c] at hkl;exact hkl
 have hwp:=y0v.mpr hwn;obtain⟨a0,b0,ea,eb,tie,_,_⟩:=Pt.link _ kl hkl';rw[show way.length - 1+1=way.length by omega,h1] at eb
 cases eb;obtain⟨pe,hpe,hpq⟩:=tie;have hlo:=hP.wf.lo kl pe hpe;have hpf:pe.2=f':=by rcases hpq with ⟨_,z⟩ | ⟨_,z⟩<;>omega
 obtain⟨at1,ht1,ht2⟩:=zk7 g8 hpe;refine⟨_,(z02 (z0d 3 sc_Pour_send_along.nd (z0j z0k (z0j z0k (z1s F.tie_ends (cv 0)) (z0j z0k (cv 2) (zcw z8r z05) (λ_ _=>rfl)) (λ_ _=>rfl)) z05 (λ_ _=>rfl)))
   (z02 (z0d 4 sc_Pour_send_along.nd (z45 zo9 B.min zlh (z00 (z0m z2i (z1p (z00 (z0j z0k (z1s F.spare (cv 0)) (cv 1) (λ_ _=>rfl)) (z00 (z0j z0k (z1s F.spare (cv 0)) (cv 3) (λ_ _=>rfl)) z03))) (z2t (N:=["tie","self"]) (fr:=[0]) 1 (z1i (zcd (cv 2) (z3t z05) z6q (z3t z05))) (λC hN=>by exact pgC ((z0b 0 hN)) (by walk_at "c")) (λC hN=>by exact peC ((z0j z0k (z1s F.sent (cv 1)) (cv 0) (λ_ _=>rfl))) (by walk_at "c")))) z03)))
   (z02 (z1z (z1i (zcd (cv 2) (z3t z05) z6q (z3t z05))) (z0b 5 sc_Pour_send_along.nd)
   (z07 (z5t (z1s F.sent (cv 0)) (cv 5) z8m (cv 4) zcq z4t)))
   (z02 (z1z (z1i (zcd (cv 2) (z3t z05) z6q (z3t z05))) (z0b 5 sc_Pour_send_along.nd)
   (z07 (z5t (z1s F.sent (cv 0)) (cv 5) z8m (cv 4) za7 z4t)))
   (z02 (z5t (z1s F.spare (cv 0)) (cv 1) z8m (cv 4) za7 z4t)
   (z07 (z5t (z1s F.spare (cv 0)) (cv 3) z8m (cv 4) za7 z4t))))))),?_⟩
 refine rd (σ':=[some (.ref me),some (.int (g:Int)),some (.ref lw),none,none,none]) rfl ?_;walk_at "run";refine⟨_,_,_,f1 _ _ g1,g3,_,_,.inl (SqL.of hlw),z7s (z79 hkl),?_⟩;walk_at "run";refine⟨_,_,.inl (SqL.of (f1 _ _ g7)),z0x ht1,?_⟩;walk_at "run";refine⟨_,_,.inr (SqT.of (f1 _ _ ht2)),rfl,?_⟩;rw[hpf];refine⟨_,_,_,f1 _ _ g1,g5,_,_,.inl (SqL.of hP.sp),z3d (z1d hgl),?_⟩;walk_at "run";refine⟨_,_,_,f1 _ _ g1,g5,_,_,.inl (SqL.of hP.sp),z3d hy,sz (by show 2≤1000;decide),λl1 hl1=>?_⟩
 have s1:=z06 hl1 (.lst [.int (spare.getD g 0),.int y]);refine⟨_,SqL.of (s1 _ _ hlw),by decide,λl2 hl2=>?_⟩
 rw[ze8,zb2];have s2:=z06 hl2 (.lst (z09 (PM.alt false way)));refine .inl ⟨⟨_,SqL.of z01⟩,cgo (σ':=[none,some (.ref me)]) rfl ?_⟩;have kin:∀{b:Bool} {k:Nat},k∈PM.alt b way->k<sent.length:=λh=>by rw[hls];exact Pt.lt (PM.alt_mem h)
 have lao:=ze5 false way;have lae:=ze5 true way
 have nS:∀{l:Addr},H l=none->l≠aS:=λh z=>(z08 hP.st h) z.symm;have nP:∀{l:Addr},H l=none->l≠aP:=λh z=>(z08 hP.sp h) z.symm
 refine z1c (xs:=z09 (PM.alt false way)) (λi ys H'=>H'=upd (upd H l1 (.lst [.int (spare.getD g 0),.int y])) l2 (.lst (z09 (PM.alt false way)))/\ys=(((PM.alt false way).take i).map λk=>sent.getD k 0).map V.int) ⟨rfl,rfl⟩ (z0h (by rw[z4k];omega)) ?_ ?_ ?_
 ·rintro i ys H' _ ⟨rfl,rfl⟩;refine⟨SqL.of z01,?_⟩;rw[y04,y04,y0x];omega
 ·rintro i x ys H' hx ⟨rfl,rfl⟩;obtain⟨k,hk,rfl⟩:=z2q hx;have hkl2:=kin (y02 hk);walk_at "run";refine z6m ⟨_,_,_,(s1.trans s2) _ _ (f1 _ _ g1),g4,_,_,.inl (SqL.of ((s1.trans s2) _ _ hP.st)),z3d (z1d hkl2),?_⟩;refine CNx.mk ⟨rfl,?_⟩ (y00.mp hx).1;rw[z0l hk,y0f,y0f];rfl
 rintro ys H' ⟨rfl,rfl⟩ l3 hl3;rw[z4k,y07 (y09 _)];have s3:=z06 hl3 (.lst (((PM.alt false way).map λk=>sent.getD k 0).map V.int));have s13:=s1.trans (s2.trans s3)
 refine⟨_,_,(s2.trans s3) _ _ z01,z01,szz (by rw[y04,y04];show 2+_≤1000000;omega),λl4 hl4=>?_⟩
 have s4:=z06 hl4 (.lst ([.int (spare.getD g 0),.int y]++((PM.alt false way).map λk=>sent.getD k 0).map V.int));have s14:=s13.trans s4
 refine⟨spare.getD g 0::y::((PM.alt false way).map λk=>sent.getD k 0),SqL.of z01,by simp,λa ha hmin=>?_⟩
 have a1:a≤spare.getD g 0:=hmin _ y0h;have a2:a≤y:=hmin _ (y0b _ y0h)
 have a3:∀k∈PM.alt false way,∀s,sent[k]?=some s->a≤s:=λk hk s hs=>by
  have:=hmin (sent.getD k 0) (y0b _ (y0b _ (y1i.mpr ⟨k,hk,rfl⟩)));rw[show sent.getD k 0=s by simp[y1n,hs]] at this
  exact this
 have a0:0<a:=by
  rcases y0m.mp ha with rfl | ha
  ·exact hsg
  ·rcases y0m.mp ha with rfl | ha
   ·exact hy0
   ·obtain⟨k,hk,rfl⟩:=y1i.mp ha;obtain⟨s,hs,hs0⟩:=Pt.back hP.wf h0 hg hk;rw[show sent.getD k 0=s by simp[y1n,hs]]
    exact hs0
 refine⟨_,SqL.of (s14 _ _ hlw),by decide,λl5 hl5=>?_⟩
 rw[zh2,zb2];have s5:=z06 hl5 (.lst (z09 (PM.alt true way)));have s15:=s14.trans s5
 have hl5H:H l5=none:=s14.free hl5;refine .inl ⟨⟨_,SqL.of z01⟩,?_⟩;have hfirst:∀{o:HO},o = .lst (z09 (PM.alt true way))->upd (upd (upd (upd (upd H l1 (.lst [.int (spare.getD g 0),.int y])) l2 (.lst (z09 (PM.alt false way)))) l3 (.lst (((PM.alt false way).map λk=>sent.getD k 0).map V.int))) l4 (.lst ([.int (spare.getD g 0),.int y]++((PM.alt false way).map λk=>sent.getD k 0).map V.int))) l5 (.lst (z09 (PM.alt true way))) l5=some o:=λh=>by rw[h];exact z01
 have hS5:=s15 _ _ hP.st;have hP5:=s15 _ _ hP.sp
 have hL5:=hfirst rfl;have fz5:Frz [aS,aP] H _:=Frz.of s15
 clear hfirst s1 s2 s3 s4 s5 s13 s14;generalize upd (upd (upd (upd (upd H l1 (.lst [.int (spare.getD g 0),.int y])) l2 (.lst (z09 (PM.alt false way)))) l3 (.lst (((PM.alt false way).map λk=>sent.getD k 0).map V.int))) l4 (.lst ([.int (spare.getD g 0),.int y]++((PM.alt false way).map λk=>sent.getD k 0).map V.int))) l5 (.lst (z09 (PM.alt true way)))=H5 at s15 hS5 hP5 hL5 fz5 ⊢
 have stat:∀H',Frz [aS,aP] H H'->Same G0 H':=λH' fz=>Same.frz f1 fz λx hx=>by
  simp only[y0m,y1g,or_false] at hx;rcases hx with rfl | rfl
  ·exact f2
  ·exact f3
 have hlwS:=hP.mu _ hM;refine z3w (xs:=z09 (PM.alt true way)) (λi σ H'=>∃t,σ = [some (.ref me),some (.int (g:Int)),some (.ref lw),some (.int (f':Int)),some (.int a),t]/\Frz [aS,aP] H H'/\H' aS=some (.lst ((PM.addAll a sent ((PM.alt true way).take i)).map V.int))/\H' aP=some (.lst (spare.map V.int))/\H' l5=some (.lst (z09 (PM.alt true way)))) ⟨_,rfl,fz5,hS5,hP5,hL5⟩ ?_ ?_ ?_
 ·rintro i σ H' _ ⟨t,rfl,fz,k1,k2,k3⟩;exact SqL.of k3
 ·rintro i x σ H' hx ⟨t,rfl,fz,k1,k2,k3⟩;obtain⟨k,hk,rfl⟩:=z2q hx;have hkn:k<(PM.addAll a sent ((PM.alt true way).take i)).length:=by rw[PM.addAll_len];exact kin (y02 hk)
  walk_at "run";refine⟨_,_,_,stat H' fz _ _ g1,g4,_,_,k1,by omega,z5u (z1d hkn),?_⟩
  walk_at "run";refine⟨_,k,k1,z3f (by rw[y04];exact hkn),_,rfl,fz.trans (Frz.upd (by simp)),?_,?_,?_⟩
  ·rw[z01,z0l hk,z82,y2q]
  ·rw[z0a hP.ne.symm];exact k2
  ·rw[z0a (nS hl5H)];exact k3
 rintro σ H' ⟨t,rfl,fz,k1,k2,k3⟩;rw[z4k,y07 (y09 _)] at k1;walk_at "run";have hlw':H' lw=some (.lst (z09 way)):=fz _ _ (by simp only[y0m,y1g,or_false];exact λz=>z.elim hlwS.1 hlwS.2) hlw
 refine⟨_,SqL.of hlw',by decide,λl6 hl6=>?_⟩
 rw[ze8,zb2];have s6:=z06 hl6 (.lst (z09 (PM.alt false way)));have n6S:l6≠aS:=λz=>(z08 k1 hl6) z.symm
 refine .inl ⟨⟨_,SqL.of z01⟩,?_⟩;refine z3w (xs:=z09 (PM.alt false way)) (λi σ H'=>∃t,σ = [some (.ref me),some (.int (g:Int)),some (.ref lw),some (.int (f':Int)),some (.int a),t]/\Frz [aS,aP] H H'/\H' aS=some (.lst ((PM.addAll (-a) (PM.addAll a sent (PM.alt true way)) ((PM.alt false way).take i)).map V.int))/\H' aP=some (.lst (spare.map V.int))/\H' l6=some (.lst (z09 (PM.alt false way)))) ⟨_,rfl,fz.trans (Frz.of s6),s6 _ _ k1,s6 _ _ k2,z01⟩ ?_ ?_ ?_
 ·rintro i σ H' _ ⟨t,rfl,fz,k1,k2,k3⟩;exact SqL.of k3
 ·clear k1 k2 k3 fz hlw' s6 hl6;rintro i x σ H' hx ⟨t,rfl,fz,k1,k2,k3⟩;obtain⟨k,hk,rfl⟩:=z2q hx;have hkn:k<(PM.addAll (-a) (PM.addAll a sent (PM.alt true way)) ((PM.alt false way).take i)).length:=by rw[PM.addAll_len,PM.addAll_len];exact kin (y02 hk)
  walk_at "run";refine⟨_,_,_,stat H' fz _ _ g1,g4,_,_,k1,by omega,z5u (z1d hkn),?_⟩
  walk_at "run";refine⟨_,k,k1,z3f (by rw[y04];exact hkn),_,rfl,fz.trans (Frz.upd (by simp)),?_,?_,?_⟩
  ·rw[z01,z0l hk,z82,y2q,Int.sub_eq_add_neg]
  ·rw[z0a hP.ne.symm];exact k2
  ·rw[z0a n6S];exact k3
 clear k1 k2 k3 fz hlw' s6 hl6;rintro σ H' ⟨t,rfl,fz,k1,k2,k3⟩;rw[z4k,y07 (y09 _)] at k1;walk_at "run";refine⟨_,_,_,stat H' fz _ _ g1,g5,_,_,k2,by omega,z5u (z1d hgl),?_⟩
 walk_at "run";refine⟨_,g,k2,z3f (by rw[y04];exact hgl),?_⟩
 have hset:(spare.map V.int).set g (.int (spare.getD g 0 - a))=(spare.set g (spare.getD g 0 - a)).map V.int:=by rw[y2q]
 rw[hset];have fz2:Frz [aS,aP] H (upd H' aP (.lst ((spare.set g (spare.getD g 0 - a)).map V.int))):=fz.trans (Frz.upd (by simp))
 have hgf:f'≠g:=by omega
 have hy2:(spare.set g (spare.getD g 0 - a))[f']?=some y:=by rw[PM.set_at hgf];exact hy
 refine⟨_,_,_,stat _ fz2 _ _ g1,g5,_,_,z01,by omega,z5u hy2,?_⟩
 walk_at "run";refine⟨_,f',z01,z3f (by rw[y04,y25];exact hfl),?_⟩
 have S:=hF.sent hP.wf Pt h0 h1 hg (by omega) (z1d hgl) hy (y1u a0) a1 a2 a3
 refine q a _ _ a0 (fz2.trans (Frz.upd (by simp))) ?_ ?_ S ?_ ?_
 ·rw[z0a hP.ne,z0a hP.ne];exact k1
 ·simp only[z01,y2q]
 ·have:((spare.set g (spare.getD g 0 - a)).set f' (y - a)).getD g 0=spare.getD g 0 - a:=by
   rw[y06,PM.set_at (Ne.symm hgf),y0q hgl];rfl
  omega
 ·intro e he heg;rw[y06,PM.set_at (by omega),PM.set_at heg,←y06]
noncomputable abbrev z1a:Stmt:=z30 (top 11) 7
theorem sc_Pour_send_by_steps:FnScope ["self","steps","tried","give","way"] ["self","steps"] (z04 z1a):=⟨rfl,rfl,rfl,by decide +kernel,rfl,by decide +kernel,by decide +kernel⟩
theorem z54 (T:MTop K aj "send_by_steps" "Pour.send_by_steps" z1a ["self","steps"])(B:Blt mg)(F:FldsPour K aj)(ay:MDef P w K mg base aj "gives_with_rest" 1 ["self"] (zie K aj))(aO:MDef P w K mg base aj "way_from" 4 ["self","give","steps","tried"] (zp3 K aj))(aU:MDef P w K mg base aj "send_along" 1 ["self","give","way"] (zlk K aj)):MDef P w K mg base aj "send_by_steps" 5 ["self","steps"] (zh5 K aj):=by
 refine z3a (k:=4) T sc_Pour_send_by_steps (λvs H Q E h=>?_) (λf cdv A outer s H vs Q E hr h=>?_)
 ·obtain⟨me,N,aS,aP,aE,ao,M,ast,cap,steps,rfl,_⟩:=h;rfl
 obtain⟨me,N,aS,aP,aE,ao,M,ast,cap,steps,rfl,hP,hM,hst,hsl,hF,hS,q⟩:=h;obtain⟨G0,f1,f2,f3,f4,fx⟩:=hP.ok;obtain⟨dx,fs,aT,aA,ts,rs,g1,g2,g3,g4,g5,g6,g7,g8,g9,g10,g11⟩:=fx.get;have hsm:=hP.sm;have hgle:=hP.wf.gle
 have hsp:(ao.map V.int).length=N.nE:=by rw[y04];exact hP.lp
 obtain⟨na1,na2⟩:=hP.mu _ hM;refine⟨_,(z02 (z0d 2 sc_Pour_send_by_steps.nd (z0m z2j (z1p (z00 z05 z03)) (z45 z29 B.len y19 (z00 (z1s F.spare (cv 0)) z03))))
   (z07 (z1z (z1i (z65 ay (hr.mono (by decide)) (cv 0))) (z0b 3 sc_Pour_send_by_steps.nd)
   (z02 (z0d 4 sc_Pour_send_by_steps.nd (z2m aO (hr.mono (by decide)) (cv 0) (z00 (cv 3) (z00 (cv 1) (z00 (cv 2) z03)))))
    (z07 (z4g (z0s z6e (z45 z29 B.len y19 (z00 (cv 4) z03)) z05 (z0o _))
    (z02 (z22 (z2m aU (hr.mono (by decide)) (cv 0) (z00 (cv 3) (z00 (cv 4) z03))))
     (z07 (z0d 4 sc_Pour_send_by_steps.nd (zae (z0s z6e (z0j z0k (z1s F.spare (cv 0)) (cv 3) (λ_ _=>rfl)) z05 (z0o _)) (z2m aO (hr.mono (by decide)) (cv 0) (z00 (cv 3) (z00 (cv 1) (z00 (cv 2) z03)))) (z1p z03))))))))))),?_⟩
 refine rd (σ':=[some (.ref me),some (.ref ast),none,none,none]) rfl ?_;walk_at "run";refine⟨sz (by show 1≤1000;decide),λl0 hl0=>?_⟩
 have s0:=z06 hl0 (.lst [.int 0]);refine⟨_,_,_,s0 _ _ (f1 _ _ g1),g5,_,.inl (SqL.of (s0 _ _ hP.sp)),?_⟩;rw[hsp];walk_at "run";refine⟨_,z01,by omega,by omega,sz (by show 1*_≤1000;omega),λlt hlt=>?_⟩
 rw[z4o];have e0:y08 ((N.nE:Int)).toNat (V.int 0)=(y08 N.nE 0).map V.int:=by rw[y3h];rfl
 rw[e0];have s1:=z06 hlt (.lst ((y08 N.nE 0).map V.int));have sA:=s0.trans s1
 have hltH:H lt=none:=s0.free hlt;have hP1:=((hP.same s0).new hlt).same s1
 have ntS:lt≠aS:=λz=>(z08 hP.st hltH) z.symm;have ntP:lt≠aP:=λz=>(z08 hP.sp hltH) z.symm
 have nta:ast≠lt:=z08 hst hltH;refine⟨_,_,sA _ _ (f1 _ _ g1),g11 _ (by decide),me,N,aS,aP,aE,ao,_,rfl,hP1,λr hr=>?_⟩
 have s2:=z06 hr (.lst (z09 (rest N ao)));have hrH:H r=none:=sA.free hr
 have nrt:r≠lt:=λz=>by
  subst z;rw[z01] at hr;cases hr
 have nrS:r≠aS:=λz=>(z08 hP.st hrH) z.symm;have nrP:r≠aP:=λz=>(z08 hP.sp hrH) z.symm
 refine .inl ⟨⟨_,SqL.of z01⟩,?_⟩;have hP2:=hP1.same s2;have ht2:upd (upd (upd H l0 (.lst [.int 0])) lt (.lst ((y08 N.nE 0).map V.int))) r (.lst (z09 (rest N ao))) lt=some (.lst ((y08 N.nE 0).map V.int)):=s2 _ _ z01
 refine z3w (xs:=z09 (rest N ao)) (λi σ H'=>∃(sent spare tried:List Int) (t3 t4:Option V),σ = [some (.ref me),some (.ref ast),some (.ref lt),t3,t4]/\PourAt K aj H' me N aS aP sent spare (lt::M)/\Frz [aS,aP] H H'/\H' lt=some (.lst (tried.map V.int))/\H' r=some (.lst (z09 (rest N ao)))/\PM.Phase N cap steps aE ao ((rest N ao).take i) sent spare tried/\(∀e,e<N.G->e ∉ (rest N ao).take i->spare.getD e 0=ao.getD e 0))
  ⟨aE,ao,_,_,_,rfl,hP2,Frz.of (sA.trans s2),ht2,z01,⟨hF,tr0 hP.wf,zr3,λe x y h1 h2=>by rw[h1] at h2;cases h2;exact y2e _,.inl ⟨rfl,rfl,λg hg=>by simp at hg⟩⟩,λe _ _=>rfl⟩ ?_ ?_ ?_
 ·rintro i σ H' _ ⟨sent,spare,tried,t3,t4,rfl,hP',fz,h1,h2,_⟩;exact SqL.of h2
 ·clear hP1 hP2 ht2 s0 s1 s2 sA hr hlt e0;rintro i x σ H' hx ⟨sent,spare,tried,t3,t4,rfl,hP',fz,h1,h2,Ph,same⟩;obtain⟨g,hg,rfl⟩:=z2q hx;have hgm:=rest_mem.mp (y02 hg);have hgl:g<ao.length:=by rw[hP.lp];omega
  have hg0:PM.Lv steps g=0:=hS.src g _ hgm.1 (z1d hgl) hgm.2;have stat:∀H'',Frz [aS,aP] H H''->Same G0 H''/\H'' ast=some (.lst (steps.map V.int)):=λH'' fz=>⟨Same.frz f1 fz λx hx=>by
   simp only[y0m,y1g,or_false] at hx;rcases hx with rfl | rfl
   ·exact f2
   ·exact f3,fz _ _ (by simp only[y0m,y1g,or_false];exact λz=>z.elim na1 na2) hst⟩
  have thr:∀{H1 H2:Hp},Frz [aS,aP] H H1->Frz [lt] H1 H2->Frz [aS,aP] H H2:=λa b c o hc h=>b c o (by simpa using z08 h hltH) (a c o hc h)
  walk_at "run";refine⟨_,_,(stat H' fz).1 _ _ g1,g11 _ (by decide),me,N,aS,aP,sent,spare,_,ast,lt,steps,tried,g,rfl,hP',y0h,nta,(stat H' fz).2,hsl,h1,hg0,hgm.1,Ph.tr,Ph.dead,λlw way tried1 H1 fz1 k1 k2 k3 T1 D1 ex1 hway hwl=>?_⟩
  have fz1':=thr fz fz1;have hPa:=((hP'.new k2).frz fz1 (λx hx=>by rw[y0e.mp hx];simp))
  have hr1:H1 r=some (.lst (z09 (rest N ao))):=fz1 _ _ (by simpa using nrt) h2
  have sg0:spare.getD g 0=ao.getD g 0:=same g hgm.1 (zfr zex hg);walk_at "run";refine⟨λm σ H2=>∃(sent spare tried:List Int) (way:List Nat) (lw:Addr),σ = [some (.ref me),some (.ref ast),some (.ref lt),some (.int (g:Int)),some (.ref lw)]/\PourAt K aj H2 me N aS aP sent spare (lw::lt::M)/\Frz [aS,aP] H H2/\H2 lt=some (.lst (tried.map V.int))/\H2 r=some (.lst (z09 (rest N ao)))/\H2 lw=some (.lst (z09 way))/\way.length≤1000 /\
    PM.Phase N cap steps aE ao ((rest N ao).take i) sent spare tried/\(∀e,e<N.G->e ∉ (rest N ao).take i->e≠g->spare.getD e 0=ao.getD e 0) /\
    ((way = []/\(PM.Exh N spare tried g∨spare.sum<ao.sum))∨(way ≠ []/\0<spare.getD g 0/\∃(es:List Nat) (f:Nat),PM.Path N steps sent es way/\es[0]?=some g/\es[way.length]?=some f/\PM.Room N spare f))/\m=(spare.getD g 0).toNat,
   ⟨_,sent,spare,tried1,way,lw,rfl,hPa,fz1',k1,hr1,k3,hwl,Ph.walked T1 D1 ex1,λe he hm _=>same e he hm,hway.imp (λz=>⟨z.1,.inl z.2⟩) (λz=>⟨z.1,by rw[sg0];exact hgm.2,z.2⟩),rfl⟩,?_⟩
  clear hPa fz1' hr1 sg0 k1 k2 k3 T1 D1 ex1 hway hwl fz1 Ph same h1 h2 hP' fz;rintro m σ H2 ⟨sent,spare,tried,way,lw,rfl,hP',fz,h1,h2,h3,hwl,Ph,same,hway,rfl⟩;walk_at "run";refine⟨_,.inl (SqL.of h3),?_⟩;rw[z4k];refine z3m (λc=>?_) (λc=>?_)
  ·have hwn:way ≠ []:=by
    rintro rfl;simp at c
   obtain⟨_,sg,es,f',Pt,p0,p1,pR⟩:=hway.resolve_left (λz=>hwn z.1);refine⟨_,_,(stat H2 fz).1 _ _ g1,g11 _ (by decide),me,N,aS,aP,sent,spare,_,lw,cap,steps,g,f',es,way,rfl,hP',y0h,h3,hwl,hwn,Ph.flow,Pt,p0,p1,pR,hgm.1,sg,λa au H3 a0 fz3 k1 k2 S hless oth=>?_⟩
   have fz3':=fz.trans fz3;have hP3:=hP'.but fz3 k1 k2 (PM.send_len a sent way) (by rw[S.flow.lp,Ph.flow.lp])
   have Ph3:=Ph.sent hP.wf Pt p0 hgm.1 a0 S;have nlw:=hP'.mu lw y0h
   have h1':H3 lt=some (.lst (tried.map V.int)):=fz3 _ _ (by simp only[y0m,y1g,or_false];exact λz=>z.elim ntS ntP) h1
   have h2':H3 r=some (.lst (z09 (rest N ao))):=fz3 _ _ (by simp only[y0m,y1g,or_false];exact λz=>z.elim nrS nrP) h2
   have hsl':au.length=N.nE:=S.flow.lp;have sp0:0≤au.getD g 0:=S.flow.sp g _ (z1d (by omega))
   have sum3:au.sum<ao.sum:=by
    have:=S.sum;rcases Ph.prog with ⟨_,rfl,_⟩ | z<;>omega
   have same3:∀e,e<N.G->e ∉ (rest N ao).take i->e≠g->au.getD e 0=ao.getD e 0:=λe he hm hne=>by rw[oth e he hne];exact same e he hm hne
   walk_at "run";refine⟨_,_,_,(stat H3 fz3').1 _ _ g1,g5,_,_,.inl (SqL.of k2),z3d (z1d (by omega)),z3m (λcs=>?_) (λcs=>?_)⟩
   ·have cs':=of_decide_eq_true cs;have hPl:=hP3.less (L:=lt::M) (λx hx=>y0b _ hx)
    refine⟨_,_,(stat H3 fz3').1 _ _ g1,g11 _ (by decide),me,N,aS,aP,_,au,_,ast,lt,steps,tried,g,rfl,hPl,y0h,nta,(stat H3 fz3').2,hsl,h1',hg0,hgm.1,Ph3.tr,Ph3.dead,λlw2 way2 bC H4 fz4 j1 j2 j3 T2 D2 ex2 hway2 hwl2=>?_⟩
    refine⟨_,?_,_,au,bC,way2,lw2,rfl,(hPl.new j2).frz fz4 (λx hx=>by rw[y0e.mp hx];simp),thr fz3' fz4,j1,fz4 _ _ (by simpa using nrt) h2',j3,hwl2,Ph3.walked T2 D2 ex2,same3,hway2.imp (λz=>⟨z.1,.inr sum3⟩) (λz=>⟨z.1,cs',z.2⟩),rfl⟩
    omega
   ·refine⟨sz (by show 0≤1000;decide),λlw2 hlw2=>?_⟩
    have s4:=z06 hlw2 (.lst []);refine⟨_,?_,_,au,tried,[],lw2,rfl,((hP3.less (L:=lt::M) (λx hx=>y0b _ hx)).new hlw2).same s4,fz3'.trans (Frz.of s4),s4 _ _ h1',s4 _ _ h2',z01,by decide,Ph3,same3,.inl ⟨rfl,.inr sum3⟩,rfl⟩
    omega
  ·have hwn:way = []:=by
    rcases y2f way.length with z | z
    ·exact y1x.mp z
    ·exact absurd (decide_eq_true (by omega)) c
   have ex:=(hway.resolve_right (λz=>z.1 hwn)).2;refine⟨sent,spare,tried,_,_,rfl,hP'.less (λx hx=>y0b _ hx),fz,h1,h2,?_,λe he hm=>?_⟩
   ·rw[z0l hg];exact Ph.one ex
   ·rw[z0l hg] at hm;simp only[y0z,y0e,not_or] at hm;exact same e he hm.1 hm.2
 ·rintro σ H' ⟨sent,spare,tried,t3,t4,rfl,hP',fz,h1,h2,Ph,same⟩;rw[z4k,y07 (y09 _)] at Ph;refine q sent spare H' fz hP'.st hP'.sp Ph.flow Ph.le λe he hR=>Ph.less hP.wf hS (λg hg=>?_) he hR;obtain⟨a1,x,a2,a3⟩:=hS.zero g hg;refine rest_mem.mpr ⟨a1,?_⟩;rw[show ao.getD g 0=x by simp[y1n,a2]]
  exact a3
noncomputable abbrev z38:Stmt:=z30 (top 11) 12
theorem sc_Pour_fill:FnScope ["self","steps"] ["self"] (z04 z38):=⟨rfl,rfl,rfl,by decide +kernel,rfl,by decide +kernel,by decide +kernel⟩
theorem zb5 (T:MTop K aj "fill" "Pour.fill" z38 ["self"])(B:Blt mg)(aF:MDef P w K mg base aj "steps_to_room" 3 ["self"] (zfx K aj))(az:MDef P w K mg base aj "has_room" 1 ["self","ends"] (zdu K aj))(aN:MDef P w K mg base aj "send_by_steps" 5 ["self","steps"] (zh5 K aj)):MDef P w K mg base aj "fill" 6 ["self"] (zkw K aj):=by
 refine z3a (k:=5) T sc_Pour_fill (λvs H Q E h=>?_) (λf cdv A outer s H vs Q E hr h=>?_)
 ·obtain⟨me,N,aS,aP,aE,ao,M,cap,rfl,_⟩:=h;rfl
 obtain⟨me,N,aS,aP,aE,ao,M,cap,rfl,hP,hF,q⟩:=h;obtain⟨G0,f1,f2,f3,f4,fx⟩:=hP.ok;obtain⟨dx,fs,aT,aA,ts,rs,g1,g2,g3,g4,g5,g6,g7,g8,g9,g10,g11⟩:=fx.get;have hsm:=hP.sm;have hgle:=hP.wf.gle
 have stat:∀H'',Frz [aS,aP] H H''->Same G0 H'':=λH'' fz=>Same.frz f1 fz λx hx=>by
  simp only[y0m,y1g,or_false] at hx;rcases hx with rfl | rfl
  ·exact f2
  ·exact f3
 refine⟨_,(z02 (z0d 1 sc_Pour_fill.nd (z65 aF (hr.mono (by decide)) (cv 0)))
   (z02 (z4g (z3c (z2m az (hr.mono (by decide)) (cv 0) (z00 (z49 (N:=["end","step"]) (fr:=[]) 2 (z71 B.enumerate (cv 1)) (λC hN=>by exact pgC ((z5k (z0b 0 hN) (z0b 1 hN))) (by walk_at "c")) (λC hN=>by exact ptC ((z0s zmg (cv 1) z05 (z0o _))) (by walk_at "c")) (λC hN=>by exact peC ((cv 0)) (by walk_at "c"))) z03)))
   (z02 (z22 (z2m aN (hr.mono (by decide)) (cv 0) (z00 (cv 1) z03)))
    (z07 (z0d 1 sc_Pour_fill.nd (z65 aF (hr.mono (by decide)) (cv 0))))))
   (z07 (z0n (z2t (N:=["step"]) (fr:=[]) 1 (z1i (cv 1)) (λC hN=>by exact pgC ((z0b 0 hN)) (by walk_at "c")) (λC hN=>by exact peC ((z3k zmg (cv 0) z05 (z0o _))) (by walk_at "c"))))))),?_⟩
 refine rd (σ':=[some (.ref me),none]) rfl ?_;walk_at "run";refine⟨_,_,f1 _ _ g1,g11 _ (by decide),me,N,aS,aP,aE,ao,M,rfl,hP,λl steps H1 s1 hl k1 hsl hfound=>?_⟩
 refine⟨λm σ H'=>∃(sent spare steps:List Int) (ast:Addr),σ = [some (.ref me),some (.ref ast)]/\PourAt K aj H' me N aS aP sent spare (ast::M)/\Frz [aS,aP] H H'/\H' ast=some (.lst (steps.map V.int))/\steps.length=N.nE/\PM.Flow N cap sent spare/\(∀(e:Nat) x y,ao[e]?=some x->spare[e]?=some y->y≤x)/\zpj N sent spare steps/\m=spare.sum.toNat,
  ⟨_,aE,ao,steps,l,rfl,(hP.new hl).same s1,Frz.of s1,k1,hsl,hF,λe x y h1 h2=>by rw[h1] at h2;cases h2;exact y2e _,hfound,rfl⟩,?_⟩
 clear k1 hsl hfound hl s1;rintro m σ H' ⟨sent,spare,steps,ast,rfl,hP',fz,k1,hsl,hF',le,⟨d,row,R,hrow⟩,rfl⟩;walk_at "run";refine⟨_,_,stat H' fz _ _ g1,g11 _ (by decide),⟨_,SqL.of k1⟩,cgo (σ':=[none,none]) rfl ?_⟩
 have hml:(steps.map V.int).length=steps.length:=y04 _;refine zaz (xs:=steps.map V.int) (λi ys H2=>Same H' H2/\ys=z09 (z99 steps i)) ⟨Same.refl _,rfl⟩ (z0h (by omega)) ?_ ?_ ?_
 ·rintro i ys H2 _ ⟨s2,rfl⟩;exact⟨SqL.of (s2 _ _ k1),by rw[z4k];exact zbg _ _⟩
 ·rintro i x ys H2 p hx ⟨s2,rfl⟩ hp;have hil:i<steps.length:=by simpa using (y00.mp hx).1
  have ex:x = .int (PM.Lv steps i):=by
   rw[y05,zey hil] at hx;exact(y11 hx).symm
  subst ex;have s3:=z06 hp (.tup [.int (i:Int),.int (PM.Lv steps i)]);refine⟨_,_,SqT.of z01,?_⟩;walk_at "run";refine z3m (λc=>?_) (λc=>?_)
  ·refine CNx.mk ⟨s2.trans s3,?_⟩ (by omega)
   rw[z9t,if_pos (of_decide_eq_true c),zb8]
  ·refine CNx.mk ⟨s2.trans s3,?_⟩ (by omega)
   rw[z9t,if_neg (λz=>c (decide_eq_true z)),y2i]
 rintro ys H2 ⟨s2,rfl⟩ le1 hle1;rw[hml];have s3:=z06 hle1 (.lst (z09 (z99 steps steps.length)));have s23:=s2.trans s3
 have rl:=zbg steps steps.length;refine⟨me,N,aS,aP,sent,spare,_,le1,z99 steps steps.length,rfl,hP'.same s23,z01,by omega,λe he=>?_,λH3 s4=>?_⟩
 ·rw[←hsl];exact zc0 (reach_mem.mp he)
 have s24:=s23.trans s4;have fz3:=fz.trans (Frz.of s24)
 walk_at "run";refine z3m (λc=>?_) (λc=>?_)
 ·obtain⟨e,he,hR⟩:=y1v.mp c;have he0:=reach_mem.mp he;have hR':=(z4i (by rw[hP'.lp,←hsl];exact zc0 he0)).mp hR
  refine⟨_,_,stat H3 fz3 _ _ g1,g11 _ (by decide),me,N,aS,aP,sent,spare,_,ast,cap,steps,rfl,hP'.same s24,y0h,s24 _ _ k1,hsl,hF',R.st,λb6 au H4 fz4 j1 j2 hF4 le4 less=>?_⟩
  have hP4:=(hP'.same s24).but fz4 j1 j2 (by rw[hF4.ls,hF'.ls]) (by rw[hF4.lp,hF'.lp])
  have fz4':=fz3.trans fz4;have hP4':=hP4.less (L:=M) (λx hx=>y0b _ hx)
  walk_at "run";refine⟨_,_,stat H4 fz4' _ _ g1,g11 _ (by decide),me,N,aS,aP,b6,au,M,rfl,hP4',λl2 steps2 H5 s5 i1 i2 hsl2 hf2=>?_⟩
  have sl:=less e he0 hR';have n0:0≤au.sum:=PM.sum_nn λi x hx=>hF4.sp i x hx
  refine⟨_,?_,b6,au,steps2,l2,rfl,(hP4'.new i1).same s5,fz4'.trans (Frz.of s5),i2,hsl2,hF4,λe x y h1 h2=>?_,hf2,rfl⟩
  ·omega
  ·have hz:spare[e]?=some (spare[e]'(by have:=(y00.mp h1).1;rw[hP'.lp];rw[hP.lp] at this;exact this)):=y01 _
   have a1:=le e _ _ h1 hz;have a2:=le4 e _ _ hz h2
   omega
 ·have nor:∀e,0≤PM.Lv steps e->¬PM.Room N spare e:=λe he hR=>by
   have hR':=(z4i (by rw[hP'.lp,←hsl];exact zc0 he)).mpr hR
   exact c (y1v.mpr ⟨e,reach_mem.mpr he,hR'⟩)
  have Dn:=R.done hF' hrow nor;refine .inl ⟨⟨_,SqL.of (s24 _ _ k1)⟩,cgo (σ':=[none]) rfl ?_⟩;refine z1c (xs:=steps.map V.int) (λi ys H4=>H4=H3/\ys=((steps.take i).map λs=>decide (0≤s)).map V.bl) ⟨rfl,rfl⟩ (z0h (by omega)) ?_ ?_ ?_
  ·rintro i ys H4 _ ⟨rfl,rfl⟩;refine⟨SqL.of (s24 _ _ k1),?_⟩;rw[y04,y04,y0x];omega
  ·rintro i x ys H4 hx ⟨rfl,rfl⟩;have hil:i<steps.length:=by simpa using (y00.mp hx).1
   have hst:steps[i]?=some steps[i]:=y01 hil;have ex:x = .int steps[i]:=by
    rw[y05,hst] at hx;exact(y11 hx).symm
   subst ex;walk_at "run";refine z6m (CNx.mk ⟨rfl,?_⟩ (by omega))
   rw[z0l hst,y0f,y0f];rfl
  ·rintro ys H4 ⟨rfl,rfl⟩ l2 hl2;rw[hml,y07 (y09 _)];have s5:=z06 hl2 (.lst ((z3y steps).map V.bl));have hl2H:H l2=none:=by
    cases z:H l2 with
    | none=>rfl
    | some o =>
     exfalso
     by_cases hb:l2 ∈ [aS,aP]
     ·simp only[y0m,y1g,or_false] at hb;rcases hb with rfl | rfl
      ·rw[s24 _ _ hP'.st] at hl2;cases hl2
      ·rw[s24 _ _ hP'.sp] at hl2;cases hl2
     ·rw[fz3 _ _ hb z] at hl2;cases hl2
   exact q l2 sent spare steps _ (fz3.trans (Frz.of s5)) (s5 _ _ (s24 _ _ hP'.st)) (s5 _ _ (s24 _ _ hP'.sp)) Dn le hsl hl2H z01
noncomputable abbrev z2z:Stmt:=top 13
theorem sc_pour_more:FnScope ["gives","takes","ties","sent","pour","near"] ["gives","takes","ties","sent"] (z04 z2z):=⟨rfl,rfl,rfl,by decide +kernel,rfl,by decide +kernel,by decide +kernel⟩
theorem zb7 (T:Top K mg "pour_more" z2z ["gives","takes","ties","sent"])(B:Blt mg)(F:FldsPour K aj)(be:CDef P w K mg base "Pour" aj 1 ["self","gives","takes","ties","sent"] (zh3 K aj))(bJ:MDef P w K mg base aj "fill" 6 ["self"] (zkw K aj)):Def P w K mg base "pour_more" 7 ["gives","takes","ties","sent"] (zlo K):=by
 refine z1e (k:=6) T sc_pour_more (λvs H Q E h=>?_) (λf cdv A outer s H vs Q E hr h=>?_)
 ·obtain⟨ag,ak,ai,ase,gs,ts,ss,ties,rfl,_⟩:=h;rfl
 obtain⟨ag,ak,ai,ase,gs,ts,ss,ties,rfl,hg,hk,hi,hs,hties,hssl,hsm,htl,hnn,hsp,q⟩:=h;refine⟨_,(z02 (z0d 4 sc_pour_more.nd (zmo be (hr.mono (by decide)) (z00 (cv 0) (z00 (cv 1) (z00 (cv 2) (z00 (cv 3) z03))))))
   (z02 (z0d 5 sc_pour_more.nd (z65 bJ (hr.mono (by decide)) (cv 4)))
   (z07 (z0n (z2s (z00 (z1s F.sent (cv 4)) (z00 (z2s (z00 (zkc (cv 5) z6q (z3t (z45 z29 B.len y19 (z00 (cv 0) z03)))) (z00 (zkc (cv 5) (z3t (z45 z29 B.len y19 (z00 (cv 0) z03))) z6q) z03))) z03))))))),?_⟩
 refine rd (σ':=[some (.ref ag),some (.ref ak),some (.ref ai),some (.ref ase),none,none]) rfl ?_;walk_at "run";intro x dx hx hdx hne;have s1:Same H (upd (upd H dx (.own x)) x (.ins aj dx [])):=λb o h=>by
  rw[z0a (z08 h hx),z0a (z08 h hdx)];exact h
 refine⟨x,dx,ag,ak,ai,ase,gs,ts,ss,ties,rfl,z01,s1 _ _ hg,s1 _ _ hk,Is.same s1 _ _ hi,s1 _ _ hs,hties,hssl,hsm,htl,λaS aP H1 fz1 hS hP0 hP=>⟨rfl,?_⟩⟩;have hSH:H aS=none:=s1.free hS;have hPH:H aP=none:=s1.free hP0
 have s2:Same H H1:=λb o h=>fz1 b o (by simpa using z08 h hx) (s1 b o h)
 obtain⟨G0,f1,f2,f3,f4,fx⟩:=hP.ok;obtain⟨dx',fs,aT,aA,ts',rs,g1,g2,g3,g4,g5,g6,g7,g8,g9,g10,g11⟩:=fx.get;walk_at "run";refine⟨_,_,f1 _ _ g1,g11 _ (by decide),x,z2y gs.length ts.length ties,aS,aP,ss,_,[],gs++ts,rfl,hP,zq4 hssl hnn hsp,λl sent spare steps H2 fz2 k1 k2 Dn le hsl hl k3=>?_⟩
 have hlH:H l=none:=s2.free hl;have s3:Same H H2:=λb o h=>fz2 b o (by simp only[y0m,y1g,or_false];exact λz=>z.elim (z08 h hSH) (z08 h hPH)) (s2 b o h)
 have sG:=Same.frz f1 fz2 λx hx=>by
  simp only[y0m,y1g,or_false] at hx;rcases hx with rfl | rfl
  ·exact f2
  ·exact f3
 have hsl':steps.length=gs.length+ts.length:=hsl;have hgl:(gs.map V.int).length=gs.length:=y04 _
 refine⟨_,_,_,sG _ _ g1,g4,?_⟩;refine⟨_,.inl (SqL.of (s3 _ _ hg)),?_⟩;rw[hgl];walk_at "run";refine⟨_,SqL.of k3,λn1 hn1=>?_⟩;rw[zi3,←y7n];have s4:=z06 hn1 (.lst (((z3y steps).take gs.length).map V.bl));refine⟨_,.inl (SqL.of ((s3.trans s4) _ _ hg)),?_⟩;rw[hgl];refine⟨_,SqL.of (s4 _ _ k3),λn2 hn2=>?_⟩;rw[zh7,←y7o];have s5:=z06 hn2 (.lst (((z3y steps).drop gs.length).map V.bl))
 refine⟨sz (by show 2≤1000;decide),λq' hq'=>⟨sz (by show 2≤1000;decide),λp hp=>?_⟩⟩
 have s6:=z06 hq' (.tup [.ref n1,.ref n2]);have s7:=z06 hp (.tup [.ref aS,.ref q'])
 have sA:=s3.trans (s4.trans (s5.trans (s6.trans s7)));refine q p q' aS n1 n2 sent spare steps _ sA ⟨(s3.trans (s4.trans (s5.trans s6))).free hp,(s3.trans (s4.trans s5)).free hq',hSH,s3.free hn1,(s3.trans s4).free hn2⟩ ⟨λz=>?_,λz=>?_,λz=>?_⟩ z01 (s7 _ _ z01) ((s4.trans (s5.trans (s6.trans s7))) _ _ k1) ((s5.trans (s6.trans s7)) _ _ z01) ((s6.trans s7) _ _ z01) Dn hsl' le
 ·subst z;rw[k1] at hn1;cases hn1
 ·subst z;rw[s4 _ _ k1] at hn2;cases hn2
 ·subst z;rw[z01] at hn2;cases hn2
noncomputable abbrev z3p:Stmt:=top 12
theorem zc8:FnScope ["gives","takes","ties"] ["gives","takes","ties"] (z04 z3p):=⟨rfl,rfl,rfl,by decide +kernel,rfl,by decide +kernel,by decide +kernel⟩
theorem zcy (T:Top K mg "pour_all" z3p ["gives","takes","ties"])(B:Blt mg)(bF:Def P w K mg base "pour_more" 7 ["gives","takes","ties","sent"] (zlo K)):Def P w K mg base "pour_all" 8 ["gives","takes","ties"] (znt K):=by
 refine z1e (k:=7) T zc8 (λvs H Q E h=>?_) (λf cdv A outer s H vs Q E hr h=>?_)
 ·obtain⟨ag,ak,ai,gs,ts,ties,rfl,_⟩:=h;rfl
 obtain⟨ag,ak,ai,gs,ts,ties,rfl,hg,hk,hi,hties,hsm,htl,hnn,q⟩:=h;obtain⟨_,tv,e1,hai,hal⟩:=is_list.mp hi;cases e1;have htv:tv.length=ties.length:=by simpa using z0c hal
 refine⟨_,(z07 (z0n (z0f bF (hr.mono (by decide)) (z00 (cv 0) (z00 (cv 1) (z00 (cv 2) (z00 (z0m z2j (z1p (z00 z05 z03)) (z45 z29 B.len y19 (z00 (cv 2) z03))) z03))))))),?_⟩
 refine rd (σ':=[some (.ref ag),some (.ref ak),some (.ref ai)]) rfl ?_;walk_at "run";refine⟨sz (by show 1≤1000;decide),λl0 hl0=>?_⟩
 have s0:=z06 hl0 (.lst [.int 0]);refine⟨_,.inl (SqL.of (s0 _ _ hai)),?_⟩;rw[htv];walk_at "run";refine⟨_,z01,by omega,by omega,sz (by show 1*_≤1000;omega),λl1 hl1=>?_⟩
 rw[z4o];have e0:y08 ((ties.length:Int)).toNat (V.int 0)=(y08 ties.length 0).map V.int:=by rw[y3h];rfl
 rw[e0];have s1:=z06 hl1 (.lst ((y08 ties.length 0).map V.int));have sA:=s0.trans s1
 refine⟨ag,ak,ai,l1,gs,ts,y08 ties.length 0,ties,rfl,sA _ _ hg,sA _ _ hk,Is.same sA _ _ hi,z01,hties,by rw[y1m],hsm,htl,λk s h=>?_,λe he=>?_,?_⟩
 ·rw[y1a] at h
  split at h
  ·cases h;exact y2e _
  ·cases h
 ·unfold zfn;rw[y07 (l:=y08 ties.length 0) (by rw[y1m];exact y09 _),zc4]
  have he':e<(gs++ts).length:=by rw[y0c];exact he
  have:=hnn _ (y02 (z1d he'));omega
 ·intro p q' aS n1 n2 sent spare steps H' s2 fr ne h1 h2 h3 h4 h5 Dn hsl _;exact q p q' aS n1 n2 sent spare steps H' (sA.trans s2) ⟨sA.free fr.1,sA.free fr.2.1,sA.free fr.2.2.1,sA.free fr.2.2.2.1,sA.free fr.2.2.2.2⟩ ne h1 h2 h3 h4 h5 Dn hsl trivial
noncomputable abbrev z4d:Stmt:=top 15
theorem sc_ties_in:FnScope ["doers","crowd","place_of","ties","give","chore"] ["doers","crowd"] (z04 z4d):=⟨rfl,rfl,rfl,by decide +kernel,rfl,by decide +kernel,by decide +kernel⟩
theorem zfm (T:Top K mg "ties_in" z4d ["doers","crowd"])(B:Blt mg) :Def P w K mg base "ties_in" 1 ["doers","crowd"] (z92 K):=by
 refine z1e (k:=0) T sc_ties_in (λvs H Q E h=>?_) (λf cdv A outer s H vs Q E hr h=>?_)
 ·obtain⟨ad,vc,drs,hands,chores,rfl,_⟩:=h;rfl
 obtain⟨ad,vc,drs,hands,chores,rfl,hd,hcr,hnd,hhl,hcl,hrl,hin,q⟩:=h;obtain⟨ac,ah,ax,rfl,h1,h2,h3⟩:=is_crowd.mp hcr;obtain⟨_,rs,e1,hda,hal⟩:=is_list.mp hd;cases e1;have hrsl:rs.length=drs.length:=by simpa using z0c hal
 refine⟨_,(z02 (z0d 2 sc_ties_in.nd (znq zmp B.dict zmc (z00 (z2t (N:=["place","hand"]) (fr:=[]) 2 (z71 B.enumerate (z0j z0k (cv 1) z05 (λ_ _=>rfl))) (λC hN=>by exact pgC ((z5k (z0b 0 hN) (z0b 1 hN))) (by walk_at "c")) (λC hN=>by exact peC ((z2s (z00 (cv 1) (z00 (cv 0) z03)))) (by walk_at "c"))) z03)))
   (z02 (z0d 3 sc_ties_in.nd (z1p z03))
   (z02 (z1z (z71 B.enumerate (z0j z0k (cv 1) z05 (λ_ _=>rfl))) (z5k (z0b 4 sc_ties_in.nd) (z0b 5 sc_ties_in.nd))
   (z07 (z22 (zb9 (cv 3) (z00 (z49 (N:=["hand","give","place_of"]) (fr:=[4,2]) 1 (z1i (z0j z0k (cv 0) (cv 5) (λ_ _=>rfl))) (λC hN=>by exact pgC ((z0b 0 hN)) (by walk_at "c")) (λC hN=>by exact ptC ((z0s (zp9 hr) (cv 0) (cv 2) (by with_unfolding_all rfl))) (by walk_at "c")) (λC hN=>by exact peC ((z2s (z00 (cv 1) (z00 (zmd hr (cv 2) (cv 0) (λ_ _=>rfl)) z03)))) (by walk_at "c"))) z03)))))
   (z07 (z0n (cv 3)))))),?_⟩
 refine rd (σ':=[some (.ref ad),some (.ref ac),none,none,none,none]) rfl ?_;walk_at "run";refine⟨_,_,.inr (SqT.of h1),rfl,?_⟩;walk_at "run";refine⟨⟨_,SqL.of h2⟩,?_⟩;refine zaz (xs:=z09 hands) (λi ys H2=>Same H H2/\∃tas:List Addr,ys=tas.map V.ref/\tas.length=i/\∀(j:Nat) t,tas[j]?=some t->H2 t=some (.tup [.int ((hands.getD j 0:Nat):Int),.int (j:Int)])) ⟨Same.refl _,[],rfl,rfl,λj t h=>by simp at h⟩ (z0h (by rw[z0i];omega)) ?_ ?_ ?_
 ·rintro i ys H2 _ ⟨e2,tas,rfl,hl,_⟩;exact⟨SqL.of (e2 _ _ h2),by rw[y04];omega⟩
 ·rintro i x ys H2 Tp hx ⟨e2,tas,rfl,hl,ht⟩ hT;have hil:=(y00.mp hx).1;obtain⟨hh,hhh,rfl⟩:=z2q hx;have sT:=z06 hT (.tup [.int (i:Int),.int (hh:Int)])
  walk_at "run";refine⟨_,_,SqT.of z01,?_⟩;walk_at "run";refine z6m ⟨sz (by show 2≤1000;decide),λt htt=>?_⟩
  have sU:=z06 htt (.tup [.int (hh:Int),.int (i:Int)]);refine CNx.mk ⟨e2.trans (sT.trans sU),tas ++ [t],by rw[y0f];rfl,by rw[y0c];simp;omega,λj t' hj=>?_⟩ hil
  by_cases c:j<tas.length
  ·rw[y0u c] at hj;exact(sT.trans sU) _ _ (ht j t' hj)
  ·rw[y17 (by omega)] at hj
   have e:j=tas.length:=by
    have:=(y00.mp hj).1;simp at this;omega
   subst e;simp at hj;subst hj;rw[z01,hl,PM.getD_of hhh]
 rintro ys H2 ⟨e2,tas,rfl,hl,ht⟩ lp hlp;rw[z0i] at hl;have sL:=z06 hlp (.lst (tas.map V.ref));walk_at "run";refine⟨tas,z2k hands,z01,by unfold z2k;simp;exact hl,λj t p hj hp=>?_,λdp hdp=>?_⟩
 ·have hjl:=(y00.mp hj).1;unfold z2k at hp;rw[y05,y1d (by omega)] at hp
  cases hp;exact sL _ _ (ht j t hj)
 rw[zet hnd];have sD:=z06 hdp (.dK (z2k hands));have e3:=e2.trans (sL.trans sD)
 have hdk:=z01 (H:=upd H2 lp (.lst (tas.map V.ref))) (a:=dp) (o:=.dK (z2k hands));generalize upd (upd H2 lp (.lst (tas.map V.ref))) dp (.dK (z2k hands))=H3 at e3 hdk ⊢
 clear sL sD hlp hdp ht hl e2;refine⟨sz (by show 0≤1000;decide),λl hl=>?_⟩
 have nl:dp≠l:=z08 hdk hl;refine⟨_,_,.inr (SqT.of ((e3.trans (z06 hl _)) _ _ h1)),rfl,?_⟩;walk_at "run";refine⟨⟨_,SqL.of ((e3.trans (z06 hl _)) _ _ h3)⟩,?_⟩;refine za3 (xs:=z09 chores) (λi σ' H'=>∃t4 t5 tvs,σ' = [some (.ref ad),some (.ref ac),some (.ref dp),some (.ref l),t4,t5]/\Grow K H3 H' l tvs ((z47 drs hands chores i).map pr)/\tvs.length≤i*20) ⟨_,_,[],rfl,Grow.start hl,y09 _⟩ ?_ ?_ ?_
 ·rintro i σ' H' _ ⟨_,_,_,_,gr,_⟩;exact SqL.of (gr.same _ _ (e3 _ _ h3))
 ·rintro i x σ' H' Tp hx ⟨t4,t5,tvs,rfl,gr,tvl⟩ hT;have hil:=(y00.mp hx).1;rw[z0i] at hil;obtain⟨c,hc,rfl⟩:=z2q hx;have gr2:=gr.more (z06 hT (.tup [.int (i:Int),.int (c:Int)]))
  have hcd:=hin c (y02 hc);have hrow:drs[c]?=some drs[c]:=y01 hcd
  have hgetD:drs.getD (chores.getD i 0) []=drs[c]:=by
   rw[PM.getD_of hc];simp[y1n,hrow]
  generalize drs[c]=row at hrow hgetD;have hrowl:=hrl row (y02 hrow);obtain⟨ra,hra1,hra2⟩:=z32 hal hrow;walk_at "run";refine⟨_,_,SqT.of z01,?_⟩;walk_at "run";generalize upd H' Tp (.tup [.int (i:Int),.int (c:Int)])=H4 at gr2 ⊢
  clear gr hT;have e4:=e3.trans gr2.same;refine⟨⟨_,gr2.here⟩,_,_,.inl (SqL.of (e4 _ _ hda)),z0x hra1,?_⟩;walk_at "run";refine .inl ⟨⟨_,SqL.of (e4 _ _ hra2)⟩,?_⟩;refine cgo (σ':=[none,some (.int (i:Int)),some (.ref dp)]) rfl ?_;refine z1c (xs:=z09 row) (λj ys H5=>Same H4 H5/\ys.length≤j/\IsAll K (del H5 l) ys ((z3g hands i (row.take j)).map pr)) ⟨Same.refl _,y09 _,z0p⟩ (z0h (by rw[z0i];omega)) ?_ ?_ ?_
  ·rintro j ys H5 _ ⟨e5,yl,_⟩;exact⟨SqL.of ((e4.trans e5) _ _ hra2),yl⟩
  ·rintro j x ys H5 hx2 ⟨e5,yl,al⟩;have hjl:=(y00.mp hx2).1;obtain⟨hh,hhh,rfl⟩:=z2q hx2;have hdk5:=e5 _ _ (gr2.same _ _ hdk)
   rw[show ∀(m:Nat),CNx (λj ys H5=>Same H4 H5/\ys.length≤j/\IsAll K (del H5 l) ys ((z3g hands i (row.take j)).map pr)) m=CNx (λj ys H5=>Same H4 H5/\ys.length≤j/\IsAll K (del H5 l) ys ((z3g hands i (row.take j)).map pr)) m from λ_=>rfl]
   walk_at "run";refine⟨_,hdk5,?_⟩;rw[z8z hnd];walk_at "run";cases hpl:z36 hands hh with
   | none =>
    refine z7t (CNx.mk ⟨e5,by omega,?_⟩ hjl)
    rw[z0l hhh,z7g,hpl];simpa using al
   | some p =>
    refine z6m ⟨_,_,hdk5,by rw[z8z hnd,hpl];rfl,?_⟩
    walk_at "run";refine⟨sz (by show 2≤1000;decide),λt htt=>?_⟩
    have sT:=z06 htt (.tup [.int (i:Int),.int (p:Int)]);refine CNx.mk ⟨e5.trans sT,by rw[y0c];simp;omega,?_⟩ hjl
    rw[z0l hhh,z7g,hpl,y0f];refine z1l (IsAll.same (z57 sT) _ _ al) (z6a (zqx (p:=(i,p)) (K:=K) z01) (xs:=tvs) ((e5.trans sT) _ _ gr2.here))
  ·rintro ys H5 ⟨e5,yl,al⟩ le hle;rw[z0i] at yl;rw[z0i,y07 (y09 _)] at al;have sE:=z06 hle (.lst ys);have gr3:=gr2.more (e5.trans sE)
   have nle:le≠l:=λz=>by
    subst z;rw[e5 _ _ gr2.here] at hle;cases hle
   walk_at "run";have hti:i<20:=by omega
   refine⟨_,_,gr3.here,z01,sz (by omega),?_⟩
   refine⟨_,_,tvs++ys,rfl,⟨?_,z01,?_⟩,by rw[y0c];omega⟩
   ·rw[z3i];exact gr3.old
   ·rw[z3i,z47,hgetD,y0f];exact z7w gr3.all (IsAll.same (z57 sE) _ _ al)
 ·rintro σ' H' ⟨t4,t5,tvs,rfl,gr,tvl⟩;rw[z0i] at gr;walk_at "run";exact q _ _ (e3.trans gr.same) gr.is ⟨_,rfl,z2v e3 hl⟩
noncomputable abbrev z4h:Stmt:=top 16
theorem zfi:FnScope ["works","crowd"] ["works","crowd"] (z04 z4h):=⟨rfl,rfl,rfl,by decide +kernel,rfl,by decide +kernel,by decide +kernel⟩
theorem zf4 (T:Top K mg "work_in" z4h ["works","crowd"])(B:Blt mg) :Def P w K mg base "work_in" 1 ["works","crowd"] (zeb K):=by
 refine z1e (k:=0) T zfi (λvs H Q E h=>?_) (λf cdv A outer s H vs Q E hr h=>?_)
 ·obtain⟨aw,vc,ws,hands,chores,rfl,_⟩:=h;rfl
 obtain⟨aw,vc,ws,hands,chores,rfl,hw,hcr,hcl,hin,q⟩:=h;obtain⟨ac,ah,ax,rfl,h1,h2,h3⟩:=is_crowd.mp hcr;refine⟨_,(z07 (z0n (z45 zpk B.sum zoi (z00 (z2t (N:=["chore","works"]) (fr:=[0]) 1 (z1i (z0j z0k (cv 1) z05 (λ_ _=>rfl))) (λC hN=>by exact pgC ((z0b 0 hN)) (by walk_at "c")) (λC hN=>by exact peC ((z0j z0k (cv 1) (cv 0) (λ_ _=>rfl))) (by walk_at "c"))) z03)))),?_⟩
 refine rd (σ':=[some (.ref aw),some (.ref ac)]) rfl ?_;walk_at "run";refine⟨_,_,.inr (SqT.of h1),rfl,?_⟩;walk_at "run";refine .inl ⟨⟨_,SqL.of h3⟩,?_⟩;refine cgo (σ':=[none,some (.ref aw)]) rfl ?_;refine z1c (xs:=z09 chores) (λi ys H2=>H2=H/\ys=((chores.take i).map λc=>ws.getD c 0).map V.int) ⟨rfl,rfl⟩ (z0h (by rw[z0i];omega)) ?_ ?_ ?_
 ·rintro i ys H2 hi ⟨rfl,rfl⟩;exact⟨SqL.of h3,by simp;omega⟩
 ·rintro i x ys H2 hx ⟨rfl,rfl⟩;have hil:=(y00.mp hx).1;obtain⟨c,hc,rfl⟩:=z2q hx;walk_at "run";refine z6m ⟨_,_,.inl (SqL.of hw),zos (hin c (y02 hc)),CNx.mk ⟨rfl,?_⟩ hil⟩;rw[z0l hc,y0f,y0f];rfl
 ·rintro ys H2 ⟨rfl,rfl⟩ l hl;rw[z0i,y07 (y09 _)];walk_at "run";exact⟨_,SqL.of z01,q _ (z06 hl _)⟩
noncomputable abbrev z48:Stmt:=top 17
theorem sc_pour_in:FnScope ["works","doers","crowd","many","gives"] ["works","doers","crowd"] (z04 z48):=⟨rfl,rfl,rfl,by decide +kernel,rfl,by decide +kernel,by decide +kernel⟩
theorem zfd (T:Top K mg "pour_in" z48 ["works","doers","crowd"])(B:Blt mg)(bN:Def P w K mg base "pour_all" 8 ["gives","takes","ties"] (znt K))(bj:Def P w K mg base "ties_in" 1 ["doers","crowd"] (z92 K))(bV:Def P w K mg base "work_in" 1 ["works","crowd"] (zeb K)):Def P w K mg base "pour_in" 9 ["works","doers","crowd"] (za2 K):=by
 refine z1e (k:=8) T sc_pour_in (λvs H Q E h=>?_) (λf cdv A outer s H vs Q E hr h=>?_)
 ·obtain⟨aw,ad,vc,ws,drs,hands,chores,rfl,_⟩:=h;rfl
 obtain⟨aw,ad,vc,ws,drs,hands,chores,rfl,ac',hcr,ok,q⟩:=h;obtain⟨ac,ah,ax,rfl,h1,h2,h3⟩:=is_crowd.mp hcr;have hl:=ok.hl;have cl:=ok.cl
 refine⟨_,(z02 (z0d 3 sc_pour_in.nd (z45 z29 B.len y19 (z00 (z0j z0k (cv 2) z05 (λ_ _=>rfl)) z03)))
   (z02 (z8h (N:=["chore","many","works"]) (fr:=[3,0]) 4 1 sc_pour_in.nd (z1i (z0j z0k (cv 2) z05 (λ_ _=>rfl))) (λC hN=>by exact pgC ((z0b 0 hN)) (by walk_at "c")) (λC hN=>by exact peC ((z0m z2j (z0j z0k (cv 2) (cv 0) (λ_ _=>rfl)) (cv 1))) (by walk_at "c")))
   (z07 (z0n (z0f bN (hr.mono (by decide)) (z00 (cv 4) (z00 (z0m z2j (z1p (z00 (z0f bV (hr.mono (by decide)) (z00 (cv 0) (z00 (cv 2) z03))) z03)) (cv 3)) (z00 (z0f bj (hr.mono (by decide)) (z00 (cv 1) (z00 (cv 2) z03))) z03)))))))),?_⟩
 refine rd (σ':=[some (.ref aw),some (.ref ad),some (.ref ac),none,none]) rfl ?_;walk_at "run";refine⟨_,_,.inr (SqT.of h1),rfl,_,.inl (SqL.of h2),?_⟩;walk_at "run";rw[z0i];refine⟨_,_,.inr (SqT.of h1),rfl,?_⟩;walk_at "run";refine .inl ⟨⟨_,SqL.of h3⟩,?_⟩;refine cgo (σ':=[none,some (.int (hands.length:Int)),some (.ref aw)]) rfl ?_;refine z1c (xs:=z09 chores) (λi ys H2=>H2=H/\ys=((chores.take i).map λc=>ws.getD c 0*(hands.length:Int)).map V.int) ⟨rfl,rfl⟩ (z0h (by rw[z0i];omega)) ?_ ?_ ?_
 ·rintro i ys H2 hi ⟨rfl,rfl⟩;exact⟨SqL.of h3,by simp;omega⟩
 ·rintro i x ys H2 hx ⟨rfl,rfl⟩;have hil:=(y00.mp hx).1;obtain⟨c,hc,rfl⟩:=z2q hx;have hcw:=ok.ci c (y02 hc)
  walk_at "run";refine z6m ⟨_,_,.inl (SqL.of ac'.w),zos hcw,z5i (m:=300) (n:=60) (ac'.bd _ (y02 (z1d hcw))) (by show _<_;omega) (by decide),CNx.mk ⟨rfl,?_⟩ hil⟩
  rw[z0l hc,y0f,y0f];rfl
 rintro ys H2 ⟨rfl,rfl⟩ lg hlg;rw[z0i,y07 (y09 _)];have s1:=z06 hlg (.lst ((chores.map λc=>ws.getD c 0*(hands.length:Int)).map V.int));have hg:=z01 (H:=H2) (a:=lg) (o:=.lst ((chores.map λc=>ws.getD c 0*(hands.length:Int)).map V.int))
 generalize upd H2 lg (.lst ((chores.map λc=>ws.getD c 0*(hands.length:Int)).map V.int))=H3 at s1 hg ⊢
 walk_at "run";refine⟨aw,.ref ac,ws,hands,chores,rfl,s1 _ _ ac'.w,Is.same s1 _ _ hcr,cl,ok.ci,λH4 s4=>?_⟩;walk_at "run";refine⟨sz (by show 1≤1000;decide),λl1 hl1=>?_⟩
 have s5:=z06 hl1 (.lst [.int (z55 ws chores)]);refine⟨_,z01,by omega,by omega,sz (by show 1*_≤1000;omega),λlt hlt=>?_⟩
 have er:y08 ((hands.length:Int)).toNat (V.int (z55 ws chores))=(takesIn ws hands chores).map V.int:=by unfold takesIn;rw[y3h];rfl
 rw[z4o,er];have s6:=z06 hlt (.lst ((takesIn ws hands chores).map V.int));have ht:=z01 (H:=upd H4 l1 (.lst [.int (z55 ws chores)])) (a:=lt) (o:=.lst ((takesIn ws hands chores).map V.int))
 have sA:=s1.trans (s4.trans (s5.trans s6));have hg2:=(s4.trans (s5.trans s6)) _ _ hg
 generalize upd (upd H4 l1 (.lst [.int (z55 ws chores)])) lt (.lst ((takesIn ws hands chores).map V.int))=H5 at sA hg2 ht ⊢
 clear s1 s4 s5 s6 hg hl1 hlt er;refine⟨ad,.ref ac,drs,hands,chores,rfl,Is.same sA _ _ ac'.d,Is.same sA _ _ hcr,ok.nd,hl,cl,ac'.row,λc hc=>by rw[ac'.len];exact ok.ci c hc,λvt H6 s6 it _=>?_⟩
 obtain⟨ai,tv,e1,hai,hal⟩:=is_list.mp it;subst e1;walk_at "run";have glen:(z0t ws hands chores).length=chores.length:=by unfold z0t;simp
 have tlen:(takesIn ws hands chores).length=hands.length:=by unfold takesIn;simp
 have tl:=z6p (hands:=hands) (chores:=chores) ac'.row chores.length;have wp:∀c∈chores,1≤ws.getD c 0:=λc hc=>ac'.pos _ (y02 (z1d (ok.ci c hc)))
 refine⟨lg,lt,ai,z0t ws hands chores,takesIn ws hands chores,z0q drs hands chores,rfl,s6 _ _ hg2,s6 _ _ ht,it,λp hp=>?_,by omega,by unfold z0q;omega,λg hg=>?_,?_⟩
 ·obtain⟨g,t⟩:=p;obtain⟨c,hd,g1,g2,_⟩:=(z2c ok.nd g t).mp hp;rw[glen,tlen];exact⟨(y00.mp g1).1,(y00.mp g2).1⟩
 ·rcases y0z.mp hg with hg | hg
  ·unfold z0t at hg;obtain⟨c,hc,rfl⟩:=y1i.mp hg;have:=wp c hc;exact y29 (by omega) (by omega)
  ·unfold takesIn at hg;rw[y5l hg];unfold z55;exact PM.sum_nn λi x hx=>by
    obtain⟨c,hc,rfl⟩:=y1i.mp (y02 hx);have:=wp c hc;omega
 ·intro p q' aS n1 n2 sent spare steps H' s2 fr ne k1 k2 k3 k4 k5 Dn hsl _;have sB:=sA.trans s6;exact q p q' aS n1 n2 sent spare steps H' (sB.trans s2) ⟨sB.free fr.1,sB.free fr.2.1,sB.free fr.2.2.1,sB.free fr.2.2.2.1,sB.free fr.2.2.2.2⟩ ne k1 k2 k3 k4 k5 Dn hsl trivial
noncomputable abbrev z5h:Stmt:=top 18
theorem zic:FnScope ["things","marks","wanted"] ["things","marks","wanted"] (z04 z5h):=⟨rfl,rfl,rfl,by decide +kernel,rfl,by decide +kernel,by decide +kernel⟩
theorem zg2 (T:Top K mg "chosen" z5h ["things","marks","wanted"])(B:Blt mg) :Def P w K mg base "chosen" 1 ["things","marks","wanted"] (ze0 K):=by
 refine z1e (k:=0) T zic (λvs H Q E h=>?_) (λf cdv A outer s H vs Q E hr h=>?_)
 ·obtain⟨ax,ab,xs,bs,w,rfl,_⟩:=h;rfl
 obtain⟨ax,ab,xs,bs,w,rfl,h1,h2,hl,hxl,q⟩:=h;refine⟨_,(z07 (z0n (z49 (N:=["thing","mark","wanted"]) (fr:=[2]) 2 (z4z B.zip (cv 0) (cv 1)) (λC hN=>by exact pgC ((z5k (z0b 0 hN) (z0b 1 hN))) (by walk_at "c")) (λC hN=>by exact ptC ((z0s z4y (cv 1) (cv 2) (z0o _))) (by walk_at "c")) (λC hN=>by exact peC ((cv 0)) (by walk_at "c"))))),?_⟩
 refine rd (σ':=[some (.ref ax),some (.ref ab),some (.bl w)]) rfl ?_;walk_at "run";refine⟨false,false,⟨_,SqL.of h1⟩,⟨_,SqL.of h2⟩,?_⟩;refine cgo (σ':=[none,none,some (.bl w)]) rfl ?_;refine zku (xs:=z09 xs) (zs:=bs.map V.bl) xs.length (by rw[z0i,y04];omega) (λi ys H2=>Same H H2/\ys.length≤i/\ys=z09 (pick (xs.take i) (bs.take i) w)) ⟨Same.refl _,y09 _,rfl⟩ (z0h (by omega)) ?_ ?_ ?_
 ·rintro i ys H2 _ ⟨e2,yl,_⟩;exact⟨zrt (SqL.of (e2 _ _ h1)),zrt (SqL.of (e2 _ _ h2)),yl⟩
 ·rintro i x z ys H2 Tp hx hz ⟨e2,yl,rfl⟩ hT;have hil:=(y00.mp hx).1;rw[z0i] at hil;obtain⟨n,hn,rfl⟩:=z2q hx;obtain⟨b,hb,rfl⟩:=zo0 hz;have e3:=e2.trans (z06 hT (.tup [.int (n:Int),.bl b]))
  walk_at "run";refine⟨_,_,SqT.of z01,?_⟩;walk_at "run";refine z3m (λc=>?_) (λc=>?_)
  ·refine CNx.mk ⟨e3,by rw[y0c];simp;omega,?_⟩ hil
   rw[z8w hn hb,if_pos (of_decide_eq_true c)];unfold z09;rw[y0f];rfl
  ·refine CNx.mk ⟨e3,by omega,?_⟩ hil
   rw[z8w hn hb,if_neg (λz=>c (decide_eq_true z)),y2i]
 ·rintro ys H2 ⟨e2,_,rfl⟩ l hl2;rw[y07 (y09 _),y07 (by omega)]
  exact q l _ (e2.free hl2) (e2.trans (z06 hl2 _)) z01
noncomputable abbrev z34:Stmt:=top 19
theorem sc_crowds_by:FnScope ["works","doers","many","crowds","uncut","crowd","near","wanted"] ["works","doers","many"] (z04 z34):=⟨rfl,rfl,rfl,by decide +kernel,rfl,by decide +kernel,by decide +kernel⟩
theorem zbk (T:Top K mg "crowds_by" z34 ["works","doers","many"])(B:Blt mg)(bm:Def P w K mg base "pour_in" 9 ["works","doers","crowd"] (za2 K))(bQ:Def P w K mg base "chosen" 1 ["things","marks","wanted"] (ze0 K)):Def P w K mg base "crowds_by" 10 ["works","doers","many"] (zdx K):=by
 refine z1e (k:=9) T sc_crowds_by (λvs H Q E h=>?_) (λf cdv A outer s H vs Q E hr h=>?_)
 ·obtain⟨aw,ad,many,ws,drs,rfl,_⟩:=h;rfl
 obtain⟨aw,ad,many,ws,drs,rfl,ac,dk,q⟩:=h;have few:=ac.few;have mfew:=dk.few
 have hw:=zdr ac.pos;refine⟨_,(z02 (z0d 3 sc_crowds_by.nd (z1p z03))
   (z02 (z0d 4 sc_crowds_by.nd (zae (z0s z6e (cv 2) z05 (z0o _)) (z1p (z00 (z2s (z00 (zc5 B.list B.range (cv 2)) (z00 (zc5 B.list B.range (z45 z29 B.len y19 (z00 (cv 0) z03))) z03))) z03)) (z1p z03)))
   (z02 (z4g (z0s z6e (z45 z29 B.len y19 (z00 (cv 4) z03)) z05 (z0o _))
   (z02 (z0d 5 sc_crowds_by.nd (z8t (cv 4)))
    (z02 (z0d 6 sc_crowds_by.nd (z0j z0k (z0f bm (hr.mono (by decide)) (z00 (cv 0) (z00 (cv 1) (z00 (cv 5) z03)))) z05 (λ_ _=>rfl)))
    (z07 (z2x (z3c (z45 zlq B.any zl0 (z00 (z0j z0k (cv 6) z05 (λ_ _=>rfl)) z03)))
    (z07 (z1z (z1i (z2s (z00 zcm (z00 zcm z03)))) (z0b 7 sc_crowds_by.nd)
     (z07 (z22 (z1b (cv 4) (z00 (z2s (z00 (z0f bQ (hr.mono (by decide)) (z00 (z0j z0k (cv 5) z05 (λ_ _=>rfl)) (z00 (z0j z0k (cv 6) z05 (λ_ _=>rfl)) (z00 (cv 7) z03)))) (z00 (z0f bQ (hr.mono (by decide)) (z00 (z0j z0k (cv 5) z05 (λ_ _=>rfl)) (z00 (z0j z0k (cv 6) z05 (λ_ _=>rfl)) (z00 (cv 7) z03)))) z03))) z03))))))
    (z07 (z22 (z1b (cv 3) (z00 (cv 5) z03)))))))))
   (z07 (z0n (cv 3)))))),?_⟩
 refine rd (σ':=[some (.ref aw),some (.ref ad),some (.int (many:Int)),none,none,none,none,none]) rfl ?_;walk_at "run";refine⟨sz (by show 0≤1000;decide),λlc hlc=>?_⟩
 have s0:=z06 hlc (.lst []);have hlce:=z01 (H:=H) (a:=lc) (o:=.lst [])
 generalize upd H lc (.lst [])=H0 at s0 hlce ⊢
 refine z3m (λhm=>?_) (λhm=>?_)
 ·have hm0:0<many:=by
   have:=of_decide_eq_true hm;omega
  refine⟨⟨by omega,by omega⟩,λl1 hl1=>?_⟩
  rw[show((many:Int)).toNat=many by omega]
  have w1:=z06 hl1 (.lst ((y0d many).map λ(i:Nat)=>V.int (i:Int)));refine⟨_,.inl (SqL.of (w1 _ _ (s0 _ _ ac.w))),?_⟩;walk_at "run";rw[y04];refine⟨⟨by omega,by omega⟩,λl2 hl2=>?_⟩
  rw[show((ws.length:Int)).toNat=ws.length by omega]
  have w2:=z06 hl2 (.lst ((y0d ws.length).map λ(i:Nat)=>V.int (i:Int)));refine⟨sz (by show 2≤1000;decide),λt ht=>⟨sz (by show 1≤1000;decide),λlu hlu=>?_⟩⟩
  have w3:=z06 ht (.tup [.ref l1,.ref l2]);have w4:=z06 hlu (.lst [.ref t])
  have f1:=(w2.trans (w3.trans w4)) _ _ (z01 (H:=H0) (a:=l1) (o:=.lst ((y0d many).map λ(i:Nat)=>V.int (i:Int))));have f2:=(w3.trans w4) _ _ (z01 (a:=l2) (o:=.lst ((y0d ws.length).map λ(i:Nat)=>V.int (i:Int))))
  have f3:=w4 _ _ (z01 (a:=t) (o:=.tup [.ref l1,.ref l2]));have f4:=z01 (H:=upd (upd (upd H0 l1 (.lst ((y0d many).map λ(i:Nat)=>V.int (i:Int)))) l2 (.lst ((y0d ws.length).map λ(i:Nat)=>V.int (i:Int)))) t (.tup [.ref l1,.ref l2])) (a:=lu) (o:=.lst [.ref t])
  have sW:=w1.trans (w2.trans (w3.trans w4));have n1:l1≠lc/\l1≠lu:=by
   refine⟨λz=>?_,λz=>?_⟩
   ·rw[z,hlce] at hl1;cases hl1
   ·have:=(w2.trans w3) _ _ (z01 (H:=H0) (a:=l1) (o:=.lst ((y0d many).map λ(i:Nat)=>V.int (i:Int))));rw[z] at this;rw[z] at hlu;rw[this] at hlu;cases hlu
  have n2:l2≠lc/\l2≠lu:=by
   refine⟨λz=>?_,λz=>?_⟩
   ·rw[z,w1 _ _ hlce] at hl2;cases hl2
   ·have:=w3 _ _ (z01 (H:=upd H0 l1 (.lst ((y0d many).map λ(i:Nat)=>V.int (i:Int)))) (a:=l2) (o:=.lst ((y0d ws.length).map λ(i:Nat)=>V.int (i:Int))));rw[z] at this;rw[z] at hlu;rw[this] at hlu;cases hlu
  have nlu:lc≠lu:=z08 ((w1.trans (w2.trans w3)) _ _ hlce) hlu;have hluH:H lu=none:=s0.free ((w1.trans (w2.trans w3)).free hlu)
  have hlce2:=sW _ _ hlce;have sA:=s0.trans sW
  generalize upd (upd (upd (upd H0 l1 (.lst ((y0d many).map λ(i:Nat)=>V.int (i:Int)))) l2 (.lst ((y0d ws.length).map λ(i:Nat)=>V.int (i:Int)))) t (.tup [.ref l1,.ref l2])) lu (.lst [.ref t])=H1 at f1 f2 f3 f4 hlce2 sA ⊢
  clear w1 w2 w3 w4 hl1 hl2 ht hlu sW hlce;have two0:Two K H H1 lc lu [] [.ref t] [] ([((y0d many,y0d ws.length):PM.Cr)].map z2u):=by
   have base:Two K H H1 lc lu [] [.ref t] [] [z5j (y0d many) (y0d ws.length)]:=by
    have old:Same H (z7o H1 lc lu):=λb o hb=>by
     rw[z42 (z08 hb hlc) (z08 hb hluH)];exact sA _ _ hb
    have nt1:t≠lc:=λz=>by rw[z,hlce2] at f3;cases f3
    have nt2:t≠lu:=λz=>by rw[z,f4] at f3;cases f3
    refine⟨nlu,old,hlce2,f4,z0p,z50 (is_crowd.mpr ⟨t,l1,l2,rfl,?_,?_,?_⟩)⟩
    ·rw[z42 nt1 nt2];exact f3
    ·rw[z42 n1.1 n1.2];exact f1
    ·rw[z42 n2.1 n2.2];exact f2
   exact base
  walk_at "run";refine⟨λm σ' H'=>∃t5 t6 t7 vc vu Lc U,σ' = [some (.ref aw),some (.ref ad),some (.int (many:Int)),some (.ref lc),some (.ref lu),t5,t6,t7]/\Two K H H' lc lu vc vu (Lc.map z2u) (U.map z2u)/\PM.Crowds (z3e ws) (z2r drs) many ws.length (Lc++U.reverse)/\(∀c∈Lc,znr ws drs c)/\m=zbm U,⟨_,_,_,_,[],[.ref t],[],[(y0d many,y0d ws.length)],rfl,two0,zbb dk hm0,λc hc=>(by cases hc),rfl⟩,?_⟩
  rintro m σ' H' ⟨t5,t6,t7,vc,vu,Lc,U,rfl,tw,cr,rst,rfl⟩;have vul:vu.length=U.length:=by simpa using z0c tw.a2
  walk_at "run";refine⟨_,.inl (SqL.of tw.h2),?_⟩;walk_at "run";refine z3m (λhc=>?_) (λhc=>?_)
  ·have hne:U ≠ []:=λz=>by
    have:(0:Int)<(vu.length:Int):=of_decide_eq_true hc;rw[vul,z] at this;exact absurd this (by decide)
   obtain⟨c,hcl⟩:∃c,U.getLast?=some c:=⟨_,y1y hne⟩;have eU:U=U.dropLast ++ [c]:=by
    have:=List.dropLast_concat_getLast hne;rw[y1y hne] at hcl;cases hcl;exact this.symm
   have al2:=tw.a2;have hlast:(U.map z2u)[vu.length - 1]?=some (z2u c):=by
    rw[y05,vul,←y1c,hcl];rfl
   obtain⟨v,hv,isv⟩:=z0z al2 hlast;obtain⟨tc,ch,cc,rfl,k1,k2,k3⟩:=is_crowd.mp isv;generalize U.dropLast=U' at eU;subst eU;rw[y6f,List.reverse_singleton,List.singleton_append] at cr;have hcin:c∈Lc++c::U'.reverse:=by simp
   have hcr:=cr.hr c hcin;have hcc:=cr.cr c hcin
   have hne1:=cr.ne c hcin;have hlt:∀x∈c.2,x<ws.length:=λx hx=>by
    have e:=cr.cs x
    by_cases z:x<ws.length
    ·exact z
    ·rw[if_neg z,y0f,y27,y0n,y0s] at e;have:=y3f.mpr hx;omega
   have hhl:c.1.length≤many:=z26 hcr λh hh=>by
    have e:=cr.hs h
    by_cases z:h<many
    ·exact z
    ·rw[if_neg z,y0f,y27,y0n,y0s] at e;have:=y3f.mpr hh;omega
   have hcl2:c.2.length≤ws.length:=z26 hcc hlt;have tw2:Two K H (upd H' lu (.lst vu.dropLast)) lc lu vc vu.dropLast (Lc.map z2u) (U'.map z2u):=tw.set2 (by
    have:=z9n (vu.length - 1) al2;rw[←List.dropLast_eq_take] at this;have e2:((U' ++ [c]).map z2u).take (vu.length - 1)=U'.map z2u:=by
     rw[y0f,List.take_append_of_le_length (by rw[y04,vul];simp),y07 (by rw[y04,vul];simp)]
    rw[e2] at this;exact this)
   walk_at "run";refine⟨_,_,tw.h2,hv,?_⟩;walk_at "run";have sub2:∀b o,z7o H' lc lu b=some o->upd H' lu (.lst vu.dropLast) b=some o:=λb o hb=>by
    have:z7o (upd H' lu (.lst vu.dropLast)) lc lu b=some o:=by rw[z4w];exact hb
    exact z67 _ _ this
   replace k1:=sub2 _ _ k1;replace k2:=sub2 _ _ k2;replace k3:=sub2 _ _ k3;have isv2:Is K (z7o (upd H' lu (.lst vu.dropLast)) lc lu) (.ref tc) (z2u c):=by rw[z4w];exact isv
   generalize upd H' lu (.lst vu.dropLast)=H2 at tw2 k1 k2 k3 isv2 ⊢
   clear tw al2 hlast isv sub2 hv;refine⟨aw,ad,.ref tc,ws,drs,c.1,c.2,rfl,ac.same tw2.same,is_crowd.mpr ⟨tc,ch,cc,rfl,k1,k2,k3⟩,⟨z2e hcr,by omega,by omega,hlt⟩,?_⟩
   intro tp tq aS n1' n2' sent spare steps H3 s3 fr _ g1 g2 g3 g4 g5 Dn hsl _;have hn1u:n1'≠lu:=λz=>by have:=fr.2.2.2.1;rw[z,tw2.h2] at this;cases this
   have hn2u:n2'≠lu:=λz=>by have:=fr.2.2.2.2;rw[z,tw2.h2] at this;cases this
   obtain⟨nc,nh,C,mc,mh⟩:=zid hcr hcc hlt Dn;have gl:(z0t ws c.1 c.2).length=c.2.length:=by unfold z0t;simp
   have tl:(takesIn ws c.1 c.2).length=c.1.length:=by unfold takesIn;simp
   have nl:(z3y steps).length=c.2.length+c.1.length:=by unfold z3y;rw[y04,hsl,gl,tl]
   have l1':((z3y steps).take (z0t ws c.1 c.2).length).length=c.2.length:=by rw[y0x,gl];omega
   have l2':((z3y steps).drop (z0t ws c.1 c.2).length).length=c.1.length:=by rw[y4k,gl];omega
   generalize (z3y steps).take (z0t ws c.1 c.2).length=b1 at mc g4 l1';generalize (z3y steps).drop (z0t ws c.1 c.2).length=b2 at mh g5 l2';have tw3:=tw2.more s3;replace k1:=s3 _ _ k1;replace k2:=s3 _ _ k2;replace k3:=s3 _ _ k3;replace isv2:=Is.same (z6h s3) _ _ isv2;clear tw2 s3 Dn hsl;walk_at "run";refine⟨_,_,.inr (SqT.of g1),rfl,?_⟩;walk_at "run";refine⟨_,_,.inr (SqT.of g2),rfl,?_⟩;walk_at "run";refine⟨b2,SqL.of g5,z3m (λhany=>?_) (λhany=>?_)⟩
   ·obtain⟨b,hb1,hb2⟩:=y1v.mp hany;obtain⟨ib,hib⟩:=y0a hb1;have hibl:=(y00.mp hib).1;have hx:c.1[ib]?=some (c.1[ib]'(by omega)):=y01 (by omega)
    have hnear:∃h∈c.1,nh h=true:=by
     refine⟨_,y02 hx,?_⟩;have e:=mh ib _ hx;rw[hib] at e;cases e;exact hb2
    obtain⟨pt,pf⟩:=z8x (f:=nh) (by omega) mh
    obtain⟨qt,qf⟩:=z8x (f:=nc) (by omega) mc
    have cut:=PM.Crowds.cut hw cr C hnear;have nlu:∀{x:Addr} {o:HO},H3 x=some o->(∀xs,o ≠ .lst xs)->x≠lu:=λ{x o} h hz z=>by
     rw[z,tw3.h2] at h;cases h;exact hz _ rfl
    have old3:∀{x:Addr},(∃o,z7o H3 lc lu x=some o)->x≠lu:=λ{x} ⟨o,h⟩ z=>by
     subst z;unfold z7o del at h;rw[if_pos rfl] at h;cases h
    obtain⟨_,_,_,ez,m1,m2,m3⟩:=is_crowd.mp isv2;cases ez;have ech:=z67 _ _ m1;rw[k1] at ech;cases ech;have dch:ch≠lu:=old3 ⟨_,m2⟩
    have dcc:cc≠lu:=old3 ⟨_,m3⟩;have dn1:n1'≠lu:=hn1u
    have dn2:n2'≠lu:=hn2u;have dtc:=nlu k1 λ_ z=>by cases z
    have dtq:=nlu g2 λ_ z=>by cases z
    walk_at "run";refine⟨sz (by show 2≤1000;decide),λtb htb=>.inr ⟨⟨_,SqT.of z01⟩,?_⟩⟩
    have sB:=z06 htb (.tup [.bl false,.bl true]);have htbe:=z01 (H:=H3) (a:=tb) (o:=.tup [.bl false,.bl true])
    have dtb:tb≠lu:=λz=>by rw[z,tw3.h2] at htb;cases htb
    have tw4:=tw3.more sB;replace k1:=sB _ _ k1;replace k2:=sB _ _ k2;replace k3:=sB _ _ k3;replace g2:=sB _ _ g2;replace g4:=sB _ _ g4;replace g5:=sB _ _ g5;generalize upd H3 tb (.tup [.bl false,.bl true])=H4 at htbe tw4 k1 k2 k3 g2 g4 g5 ⊢
    clear tw3 sB htb g1 g3 isv2 nlu old3 m1 m2 m3;refine zlj (xs:=[.bl false,.bl true]) (λj σ' H5=>∃t7 vu,σ' = [some (.ref aw),some (.ref ad),some (.int (many:Int)),some (.ref lc),some (.ref lu),some (.ref tc),some (.ref tq),t7]/\Two K H H5 lc lu vc vu (Lc.map z2u) ((U' ++ [PM.restOf c nc nh,PM.nearOf c nc nh].take j).map z2u)/\Frz [lu] H4 H5) ⟨_,_,rfl,by simpa using tw4,Frz.of (Same.refl _)⟩ ?_ ?_ ?_
    ·rintro j σ' H5 _ ⟨_,_,_,_,fz⟩;exact SqT.of (fz _ _ (by simpa using dtb) htbe)
    ·rintro j x σ' H5 hx ⟨t7,vu5,rfl,tw5,fz⟩;have fzz:∀{b:Addr} {o:HO},b≠lu->H4 b=some o->H5 b=some o:=λ{b o} hb h=>fz b o (by simpa using hb) h
     have hj:j<2:=(y00.mp hx).1;have ulen:vu5.length≤U'.length+2:=by
      have e:=z0c tw5.a2;rw[y04,y0c,y0x] at e;simp at e;omega
     have ull:U'.length≤20:=by
      have:=z70 cr;rw[y0c,y1f,List.length_reverse] at this;omega
     obtain⟨w,rfl,ew⟩:∃w:Bool,x = .bl w/\[PM.restOf c nc nh,PM.nearOf c nc nh].take (j+1) = [PM.restOf c nc nh,PM.nearOf c nc nh].take j ++ [((pick c.1 b2 w,pick c.2 b1 w):PM.Cr)]:=by
      match j,hx with
      | 0,hx =>
       cases hx;refine⟨false,rfl,?_⟩;rw[pf,qf];rfl
      | 1,hx =>
       cases hx;refine⟨true,rfl,?_⟩;rw[pt,qt];rfl
      | k+2,hx=>cases hx
     walk_at "run";refine⟨⟨_,tw5.h2⟩,_,_,.inr (SqT.of (fzz dtc k1)),rfl,_,_,.inr (SqT.of (fzz dtq g2)),rfl,?_⟩;refine⟨ch,n2',c.1,b2,w,rfl,fzz dch k2,fzz dn2 g5,by omega,by omega,λla H6 hla s6 ea=>?_⟩
     walk_at "run";refine⟨_,_,.inr (SqT.of (s6 _ _ (fzz dtc k1))),rfl,_,_,.inr (SqT.of (s6 _ _ (fzz dtq g2))),rfl,?_⟩;refine⟨cc,n1',c.2,b1,w,rfl,s6 _ _ (fzz dcc k3),s6 _ _ (fzz dn1 g4),by omega,by omega,λlb H7 hlb s7 eb=>?_⟩
     walk_at "run";refine⟨sz (by show 2≤1000;decide),λtn htn=>?_⟩
     have s8:=z06 htn (.tup [.ref la,.ref lb]);have tw8:=tw5.more (s6.trans (s7.trans s8))
     have isn:Is K (z7o (upd H7 tn (.tup [.ref la,.ref lb])) lc lu) (.ref tn) (z5j (pick c.1 b2 w) (pick c.2 b1 w)):=by
      refine tw8.crowd (x:=la) (y:=lb) ⟨λz=>?_,λz=>?_⟩ ⟨λz=>?_,λz=>?_⟩ z01 ((s7.trans s8) _ _ ea) (s8 _ _ eb)
      ·rw[z,tw5.h1] at hla;cases hla
      ·rw[z,tw5.h2] at hla;cases hla
      ·rw[z,s6 _ _ tw5.h1] at hlb;cases hlb
      ·rw[z,s6 _ _ tw5.h2] at hlb;cases hlb
     refine⟨_,tw8.h2,z0h (by omega),?_⟩
     refine⟨_,vu5 ++ [.ref tn],rfl,?_,?_⟩
     ·rw[ew,←y33,y0f];exact tw8.set2 (z1l tw8.a2 isn)
     ·exact(fz.trans (Frz.of (s6.trans (s7.trans s8)))).trans (Frz.upd (by simp))
    ·rintro σ' H5 ⟨t7,vu5,rfl,tw5,_⟩;have lens:(c.1.filter nh).length+(c.1.filter λh=>!nh h).length=c.1.length:=by
      have:=List.length_eq_countP_add_countP nh (l:=c.1);rw[y4q,y4q] at this;have e:(c.1.filter λa=>decide ¬nh a=true)=c.1.filter λh=>!nh h:=y5h λx _=>by cases nh x<;>rfl
      rw[e] at this;omega
     obtain⟨h1',h2',h3'⟩:=hnear;obtain⟨r1',r2',r3'⟩:=C.far ⟨h1',h2',h3'⟩;have p1:0<(c.1.filter nh).length:=y0v.mpr λz=>by
      have:h1'∈c.1.filter nh:=y12.mpr ⟨h2',h3'⟩;rw[z] at this;cases this
     have p2:0<(c.1.filter λh=>!nh h).length:=y0v.mpr λz=>by
      have:r1'∈c.1.filter λh=>!nh h:=y12.mpr ⟨r2',by rw[r3'];rfl⟩
      rw[z] at this;cases this
     refine⟨zbm (U' ++ [PM.restOf c nc nh,PM.nearOf c nc nh]),?_,_,_,_,vc,vu5,Lc,U' ++ [PM.restOf c nc nh,PM.nearOf c nc nh],rfl,tw5,?_,rst,rfl⟩
     ·unfold zbm PM.restOf PM.nearOf;simp;omega
     ·rw[y6f];exact cut
   ·have hall:∀h∈c.1,nh h=false:=λh hh=>by
     obtain⟨i,hi⟩:=y0a hh;have e:=mh i h hi;cases z:nh h with
     | false=>rfl
     | true =>
      rw[z] at e;exact absurd (y1v.mpr ⟨true,y02 e,rfl⟩) hany
    have rc:=zm0 C hall (cr.own c hcin);have lcl:vc.length=Lc.length:=by simpa using z0c tw3.a1
    have lcf:Lc.length≤20:=by
     have:=z70 cr;rw[y0c] at this;omega
    walk_at "run";refine⟨⟨_,tw3.h1⟩,_,tw3.h1,z0h (by omega),?_⟩
    refine⟨zbm U',?_,_,_,_,vc ++ [.ref tc],vu.dropLast,Lc ++ [c],U',rfl,?_,?_,λd hd=>?_,rfl⟩
    ·have:=y0v.mpr hne1;unfold zbm;simp;omega
    ·rw[y0f];exact tw3.set1 (z1l tw3.a1 isv2)
    ·rw[y33];exact cr
    ·rcases y0z.mp hd with hd | hd
     ·exact rst d hd
     ·rw[y0e.mp hd];exact rc
  ·have hU:U = []:=by
    have:¬(0:Int)<(vu.length:Int):=λz=>hc (decide_eq_true z);exact y1x.mp (by omega)
   subst hU;rw[List.reverse_nil,y2i] at cr;exact q Lc (λz=>by omega) (λ_=>cr) rst _ _ tw.same (is_list.mpr ⟨lc,vc,rfl,tw.h1,IsAll.same z67 _ _ tw.a1⟩)
 ·have hm0:many=0:=by
   have:¬(0:Int)<(many:Int):=λz=>hm (decide_eq_true z);omega
  refine⟨sz (by show 0≤1000;decide),λlu hlu=>?_⟩
  have w1:=z06 hlu (.lst []);refine⟨λm σ' H'=>H'=upd H0 lu (.lst [])/\∃t5 t6 t7,σ' = [some (.ref aw),some (.ref ad),some (.int (many:Int)),some (.ref lc),some (.ref lu),t5,t6,t7],⟨0,rfl,_,_,_,rfl⟩,?_⟩;rintro m σ' H' ⟨rfl,t5,t6,t7,rfl⟩;walk_at "run";refine⟨_,.inl (SqL.of z01),z7t ?_⟩;exact q [] (λ_=>rfl) (λz=>by omega) (λc hc=>(by cases hc)) _ _ (s0.trans w1) (is_list.mpr ⟨lc,[],rfl,w1 _ _ hlce,z0p⟩)
noncomputable abbrev z3q:Stmt:=top 4
theorem zd3:FnScope ["thing"] ["thing"] (z04 z3q):=⟨rfl,rfl,rfl,by decide +kernel,rfl,by decide +kernel,by decide +kernel⟩
theorem zd1 (T:Top K mg "is_whole" z3q ["thing"])(B:Blt mg) :Def P w K mg base "is_whole" 1 ["thing"] (z3u):=by
 refine z1e (k:=0) T zd3 (λvs H Q E h=>?_) (λf cdv A outer s H vs Q E hr h=>?_)
 ·unfold z3u at h
  split at h
  ·rfl
  ·rfl
  ·exact h.elim
 refine⟨_,(z07 (z0n (zb4 (z45 z23 B.isinstance z21 (z00 (cv 0) (z00 (zcz B.int zlc) z03))) (z81 (zl6 (z45 z23 B.isinstance z21 (z00 (cv 0) (z00 (zcz B.bool zfv) z03)))))))),?_⟩;unfold z3u at h
 split at h
 ·rename_i z;refine rd (σ':=[some (.int z)]) rfl ?_;walk_at "run";exact⟨by decide,z6m ⟨by decide,h⟩⟩
 ·rename_i z;refine rd (σ':=[some (.bl z)]) rfl ?_;walk_at "run";exact⟨by decide,z6m ⟨by decide,h⟩⟩
 ·exact h.elim
noncomputable abbrev z2n:Stmt:=top 5
theorem sc_divisor_of:FnScope ["one","other","greater","lesser","rest"] ["one","other"] (z04 z2n):=⟨rfl,rfl,rfl,by decide +kernel,rfl,by decide +kernel,by decide +kernel⟩
theorem z9w (T:Top K mg "divisor_of" z2n ["one","other"])(B:Blt mg) :Def P w K mg base "divisor_of" 1 ["one","other"] (spG):=by
 refine z1e (k:=0) T sc_divisor_of (λvs H Q E h=>?_) (λf cdv A outer s H vs Q E hr h=>?_)
 ·unfold spG at h
  split at h
  ·rfl
  ·exact h.elim
 unfold spG at h
 split at h
 ·rename_i a b;refine⟨_,(z02 (z0d 2 sc_divisor_of.nd (z45 zbx B.abs zbr (z00 (cv 0) z03)))
   (z02 (z0d 3 sc_divisor_of.nd (z45 zbx B.abs zbr (z00 (cv 1) z03)))
   (z02 (zed (z0s z6e (cv 3) z05 (z0o _))
   (z02 (z0d 4 sc_divisor_of.nd (z0m z1u (cv 2) (cv 3)))
    (z02 (z0d 2 sc_divisor_of.nd (cv 3))
    (z07 (z0d 3 sc_divisor_of.nd (cv 4))))))
   (z07 (z0n (cv 2)))))),?_⟩
  refine rd (σ':=[some (.int a),some (.int b),none,none,none]) rfl ?_;walk_at "run";refine⟨fun σ H'=>H'=H/\∃(g l:Int) (r:Option V),σ = [some (.int a),some (.int b),some (.int g),some (.int l),r]/\0≤g/\0≤l/\y1b g l=y1b a b,
   fun σ _=>match σ with | [_,_,_,some (.int l),_]=>l.toNat | _=>0,⟨rfl,_,_,_,rfl,zbj a,zbj b,zix a b⟩,?_⟩
  rintro σ H' ⟨rfl,g,l,r,rfl,hg,hl,e⟩;walk_at "run";refine z3m (λc=>?_) (λc=>?_)
  ·have c':0<l:=of_decide_eq_true c;refine⟨c',⟨rfl,l,g % l,_,rfl,hl,y1q _ (by omega),by rw[zeo hg c',e]⟩,?_⟩
   have:=y1p g c';have:=y1q g (show l≠0 by omega)
   omega
  ·have c':¬ 0<l:=λz=>c (decide_eq_true z);have e0:l=0:=by omega
   subst e0;rw[←e,ze1 hg] at h;exact h
 ·exact h.elim
noncomputable abbrev z4b:Stmt:=top 6
theorem sc_part_of:FnScope ["top","bottom","divisor"] ["top","bottom"] (z04 z4b):=⟨rfl,rfl,rfl,by decide +kernel,rfl,by decide +kernel,by decide +kernel⟩
theorem zfq (T:Top K mg "part_of" z4b ["top","bottom"])(B:Blt mg)(bB:Def P w K mg base "is_whole" 1 ["thing"] (z3u))(aH:Def P w K mg base "divisor_of" 1 ["one","other"] (spG)):Def P w K mg base "part_of" 2 ["top","bottom"] (zbu K):=by
 refine z1e (k:=1) T sc_part_of (λvs H Q E h=>?_) (λf cdv A outer s H vs Q E hr h=>?_)
 ·obtain⟨a,b,rfl,_⟩:=h;rfl
 obtain⟨a,b,rfl,hb,hB,q⟩:=h;refine⟨_,(z02 (z2x (z80 (z46 (z3c (z0f bB (hr.mono (by decide)) (z00 (cv 0) z03)))) (z80 (z46 (z3c (z0f bB (hr.mono (by decide)) (z00 (cv 1) z03)))) (z8o (z0s z4y (cv 1) z05 (z0o _))))).pt
   (z07 zjq)
   z1h)
   (z02 (z0d 2 sc_part_of.nd (z0f aH (hr.mono (by decide)) (z00 (cv 0) (z00 (cv 1) z03))))
   (z02 (z2x (z0s z7k (cv 1) z05 (z0o _))
   (z07 (z0d 2 sc_part_of.nd (zcw z8r (cv 2))))
   z1h)
   (z07 (z0n (z2s (z00 (z0m z2a (cv 0) (cv 2)) (z00 (z0m z2a (cv 1) (cv 2)) z03)))))))),?_⟩
 refine rd (σ':=[some (.int a),some (.int b),none]) rfl ?_;walk_at "run";have fin:∀j:Int,j=(if b<0 then -((y1b a b:Nat):Int) else (y1b a b:Nat))->j≠0/\j.natAbs.log2<9000/\j≠0/\j.natAbs.log2<9000/\2≤sizeLine/\∀p,H p=none->Q (.ref p) (upd H p (.tup [.int (a.fdiv j),.int (b.fdiv j)])):=λj hj=>by
  obtain⟨h1,h2,h3,h4,h5⟩:=z8k hb hj;exact⟨h1,znp hB h2 h1,h1,znp hB h2 h1,sz (by show 2≤1000;decide),(q _ _ h3 h4 h5).ints2⟩
 refine z7t (z7t (z3m (λc=>absurd (of_decide_eq_true c) hb) (λ_=>?_)));refine z3m (λc=>?_) (λc=>?_)
 ·exact fin _ (if_pos (of_decide_eq_true c)).symm
 ·exact fin _ (if_neg (λz=>c (decide_eq_true z))).symm
noncomputable abbrev z35:Stmt:=top 23
theorem sc_shares_in:FnScope ["works","doers","crowd","sent"] ["works","doers","crowd"] (z04 z35):=⟨rfl,rfl,rfl,by decide +kernel,rfl,by decide +kernel,by decide +kernel⟩
theorem zat (T:Top K mg "shares_in" z35 ["works","doers","crowd"])(B:Blt mg)(bm:Def P w K mg base "pour_in" 9 ["works","doers","crowd"] (za2 K))(bR:Def P w K mg base "part_of" 2 ["top","bottom"] (zbu K)):Def P w K mg base "shares_in" 10 ["works","doers","crowd"] (z9m K):=by
 refine z1e (k:=9) T sc_shares_in (λvs H Q E h=>?_) (λf cdv A outer s H vs Q E hr h=>?_)
 ·obtain⟨aw,ad,vc,ws,drs,c,rfl,_⟩:=h;rfl
 obtain⟨aw,ad,vc,ws,drs,c,rfl,ask,hcr,pc,q⟩:=h;have hcr':Is K H vc (z5j c.1 c.2):=hcr;obtain⟨ac,ah,ax,rfl,h1,h2,h3⟩:=is_crowd.mp hcr;have hl:=pc.hl
 have cl:=pc.cl;have n0:=pc.n0
 refine⟨_,(z02 (z0d 3 sc_shares_in.nd (z0j z0k (z0f bm (hr.mono (by decide)) (z00 (cv 0) (z00 (cv 1) (z00 (cv 2) z03)))) z05 (λ_ _=>rfl)))
   (z07 (z0n (z2t (N:=["amount","crowd"]) (fr:=[2]) 1 (z1i (cv 3)) (λC hN=>by exact pgC ((z0b 0 hN)) (by walk_at "c")) (λC hN=>by exact peC ((z0f bR (hr.mono (by decide)) (z00 (cv 0) (z00 (z45 z29 B.len y19 (z00 (z0j z0k (cv 1) z05 (λ_ _=>rfl)) z03)) z03)))) (by walk_at "c")))))),?_⟩
 refine rd (σ':=[some (.ref aw),some (.ref ad),some (.ref ac),none]) rfl ?_;walk_at "run";refine⟨aw,ad,.ref ac,ws,drs,c.1,c.2,rfl,ask,hcr',⟨pc.nd,hl,cl,pc.ci⟩,?_⟩;intro p q' aS n1 n2 sent spare steps H1 s1 _ _ k1 k2 k3 k4 k5 D hsl _;obtain⟨e1,e2,e3,e4⟩:=zj4 pc ask.pos D;have sb:∀s∈sent,Bd 330 s:=λs hs=>by
  obtain⟨k,hk⟩:=y0a hs;have hkl:=(y00.mp hk).1;have ht:(z0q drs c.1 c.2)[k]?=some ((z0q drs c.1 c.2)[k]'(by omega)):=y01 _
  generalize (z0q drs c.1 c.2)[k]'(by omega)=tp at ht
  obtain⟨x,hd,z1,z2,_⟩:=(z2c pc.nd tp.1 tp.2).mp (y02 ht);have gl:(z0t ws c.1 c.2).length=c.2.length:=by unfold z0t;rw[y04]
  have tl:(takesIn ws c.1 c.2).length=c.1.length:=by unfold takesIn;rw[y1m]
  have l1:=(y00.mp z1).1;have le1:=z7a D.flow.nn (show(z2y (z0t ws c.1 c.2).length (takesIn ws c.1 c.2).length (z0q drs c.1 c.2)).ends[k]?=some (tp.1,(z0t ws c.1 c.2).length+tp.2) by rw[z7y,y05,ht];rfl) hk
  have le2:=(D.flow.load_le (e:=tp.1) (by show tp.1<_+_;rw[gl,tl];omega)).1
  rw[z69 (by rw[gl];exact l1)] at le2
  have gv:(z0t ws c.1 c.2).getD tp.1 0=ws.getD x 0*(c.1.length:Int):=by
   unfold z0t;rw[y06,y05,z1];rfl
  have b:Bd 330 (ws.getD x 0*(c.1.length:Int)):=((ask.bd _ (y02 (z1d (pc.ci x (y02 z1))))).mul (show Bd 6 (c.1.length:Int) by show _<_;omega)).le (by decide)
  have s0:=e2 s hs;refine b.of_le ?_;rw[gv] at le2;dsimp only at le1;omega
 walk_at "run";refine⟨_,_,.inr (SqT.of k1),rfl,?_⟩;walk_at "run";refine .inl ⟨⟨_,SqL.of k3⟩,?_⟩;refine cgo (σ':=[none,some (.ref ac)]) rfl ?_;have tl:=z6p (hands:=c.1) (chores:=c.2) ask.row c.2.length;have sl:sent.length≤400:=by rw[e1];unfold z0q;omega
 refine z1c (xs:=sent.map V.int) (λj ys H2=>Same H1 H2/\ys.length≤j/\∃ss:List (Int×Int),IsAll K H2 ys (ss.map λp=>z2b p.1 p.2)/\ss.length=j/\∀(k:Nat) p s,ss[k]?=some p->sent[k]?=some s->Low p/\p.1*c.1.length=s*p.2) ⟨Same.refl _,y09 _,[],z0p,rfl,λk p s z=>(by simp at z)⟩ (z0h (by rw[y04];omega)) ?_ ?_ ?_
 ·rintro j ys H2 _ ⟨e5,yl,_⟩;exact⟨SqL.of (e5 _ _ k3),yl⟩
 ·rintro j x ys H2 hx ⟨e5,yl,ss,al2,sl2,sp⟩;have hj:=(y00.mp hx).1;obtain⟨z,hz,rfl⟩:=zla hx;have h1':=(s1.trans e5) _ _ h1
  walk_at "run";refine z6m ⟨_,_,.inr (SqT.of h1'),rfl,_,.inl (SqL.of ((s1.trans e5) _ _ h2)),?_⟩;rw[z0i];refine⟨z,(c.1.length:Int),rfl,by omega,(show Bd 6 (c.1.length:Int) by show _<_;omega).le (by decide),λn d g1 g2 g3 v H3 s3 is3=>?_⟩
  refine CNx.mk ⟨e5.trans s3,by rw[y0c];show _+1≤_;omega,ss ++ [(n,d)],?_,by rw[y0c,sl2];rfl,λk p s' hp hs=>?_⟩ hj
  ·rw[y0f];exact z1l (IsAll.same s3 _ _ al2) is3
  ·rcases z3b hp with y | ⟨y1,y2⟩
   ·exact sp k p s' y hs
   ·subst y2;rw[y1,sl2,hz] at hs;cases hs;exact⟨⟨g1,g2⟩,g3⟩
 rintro ys H2 ⟨e5,yl,ss,al2,sl2,sp⟩ l hl';rw[y04] at sl2;have f:=z06 hl' (.lst ys);exact q ss (zp8 pc sb e1 e2 e3 e4 sl2 sp) _ _ (s1.trans (e5.trans f)) (is_list.mpr ⟨l,ys,rfl,z01,IsAll.same f _ _ al2⟩)
noncomputable abbrev z33:Stmt:=top 20
theorem sc_rows_from:FnScope ["doers","crowds","sents","nothing","rows","crowd","sent","tie","amount","chore"] ["doers","crowds","sents","nothing"] (z04 z33):=⟨rfl,rfl,rfl,by decide +kernel,rfl,by decide +kernel,by decide +kernel⟩
theorem zc3 (T:Top K mg "rows_from" z33 ["doers","crowds","sents","nothing"])(B:Blt mg)(bj:Def P w K mg base "ties_in" 1 ["doers","crowd"] (z92 K)):Def P w K mg base "rows_from" 2 ["doers","crowds","sents","nothing"] (zhk K (λp:Int×Int=>z2b p.1 p.2)):=by
 refine z1e (k:=1) T sc_rows_from (λvs H Q E h=>?_) (λf cdv A outer s H vs Q E hr h=>?_)
 ·obtain⟨ad,ac,as,vn,drs,L,sss,no,rfl,_⟩:=h;rfl
 obtain⟨ad,ac,as,vn,drs,L,sss,no,rfl,id,ic,is,iv,dfew,drow,dnd,lfew,lok,sl,sok,q⟩:=h;obtain⟨_,rs,e0,hda,hrs⟩:=is_list.mp id;cases e0;obtain⟨_,cs,e0,hca,hcs⟩:=is_list.mp ic;cases e0;obtain⟨_,sv,e0,hsa,hsv⟩:=is_list.mp is;cases e0;have rsl:rs.length=drs.length:=by rw[z0c hrs,y04]
 have csl:cs.length=L.length:=by rw[z0c hcs,y04]
 have svl:sv.length=L.length:=by rw[z0c hsv,y04,sl]
 refine⟨_,(z02 (z8h (N:=["hands","nothing"]) (fr:=[3]) 4 1 sc_rows_from.nd (z1i (cv 0)) (λC hN=>by exact pgC ((z0b 0 hN)) (by walk_at "c")) (λC hN=>by exact peC ((z0m z2j (z1p (z00 (cv 1) z03)) (z45 z29 B.len y19 (z00 (cv 0) z03)))) (by walk_at "c")))
   (z02 (z1z (z4z B.zip (cv 1) (cv 2)) (z5k (z0b 5 sc_rows_from.nd) (z0b 6 sc_rows_from.nd))
   (z07 (z1z (z4z B.zip (z0f bj (hr.mono (by decide)) (z00 (cv 0) (z00 (cv 5) z03))) (cv 6)) (z5k (z0b 7 sc_rows_from.nd) (z0b 8 sc_rows_from.nd))
    (z02 (z0d 9 sc_rows_from.nd (z0j z0k (z0j z0k (cv 5) z05 (λ_ _=>rfl)) (z0j z0k (cv 7) z05 (λ_ _=>rfl)) (λ_ _=>rfl)))
     (z07 (z9j (cv 8) (zc2 (z0j z0k (cv 4) (cv 9) (λ_ _=>rfl)) (z7i hr (z0j z0k (cv 0) (cv 9) (λ_ _=>rfl)) (z00 (z0j z0k (z0j z0k (cv 5) z05 (λ_ _=>rfl)) (z0j z0k (cv 7) z05 (λ_ _=>rfl)) (λ_ _=>rfl)) z03)) z4t)))))))
   (z07 (z0n (cv 4))))),?_⟩
 refine rd (σ':=[some (.ref ad),some (.ref ac),some (.ref as),some vn,none,none,none,none,none,none]) rfl ?_;walk_at "run";refine .inl ⟨⟨_,SqL.of hda⟩,?_⟩;refine cgo (σ':=[none,some vn]) rfl ?_;refine z1c (xs:=rs) (λj ys H1=>∃rv ap,ys=rv.map V.ref/\Rw K H H1 rv ap ((z51 (drs.take j) no).map λr=>r.map λp:Int×Int=>z2b p.1 p.2)/\rv.length=j/\∀r∈rv,H r=none) ⟨[],[],rfl,⟨by simp,rfl,rfl,λi r v h=>(by simp at h),λb o h=>(by unfold z64;simpa using h),λi v d h=>(by simp at h)⟩,rfl,λr h=>(by cases h)⟩ (z0h (by omega)) ?_ ?_ ?_
 ·rintro j ys H1 _ ⟨rv,ap,rfl,g,rl,_⟩;exact⟨SqL.of (g.same _ _ hda),by rw[y04];omega⟩
 ·rintro j x ys H1 hx ⟨rv,ap,rfl,g,rl,rn⟩;have hj:=(y00.mp hx).1;have hSj:drs[j]?=some (drs[j]'(by omega)):=y01 (by omega)
  generalize drs[j]'(by omega)=row at hSj
  obtain⟨ra,hra1,hra⟩:=z32 hrs hSj;rw[hx] at hra1;cases hra1;have rl20:=drow row (y02 hSj);walk_at "run";refine z6m ⟨sz (by show 1≤1000;decide),λt1 ht1=>?_⟩
  have f1:=z06 ht1 (.lst [vn]);refine⟨_,.inl (SqL.of ((g.more f1).same _ _ hra)),?_⟩;rw[z0i];walk_at "run";refine⟨_,z01,by omega,by omega,sz (by show 1*_≤1000;omega),λl1 hl1=>?_⟩
  rw[z4o,show((row.length:Nat):Int).toNat=row.length by omega]
  have g1:=(g.more f1).snoc hl1 (v:=y08 row.length vn) (d:=y08 row.length (z2b no.1 no.2)) (z8b (Is.same (g.more f1).old _ _ iv) _);refine CNx.mk ⟨rv ++ [l1],ap ++ [y08 row.length vn],by rw[y0f];rfl,?_,by rw[y0c,rl];rfl,λr hr'=>?_⟩ hj
  ·rw[z0l hSj];unfold z51 at g1 ⊢
   rw[y0f,y0f];simpa using g1
  ·rcases y0z.mp hr' with z | z
   ·exact rn r z
   ·rw[y0e.mp z];exact z2v ((g.more f1).same) hl1
 rintro ys H1 ⟨rv,ap,rfl,g,rl,rn⟩ l hl;rw[rsl,y07 (y09 _)] at g;have f1:=z06 hl (.lst (rv.map V.ref));have kl:=z01 (H:=H1) (a:=l) (o:=.lst (rv.map V.ref))
 have lrv:l ∉ rv:=λz=>by
  obtain⟨v,hv⟩:=g.here z;rw[hl] at hv;cases hv
 have g2:=(g.more f1).rebase;have sB:Same H (z64 (upd H1 l (.lst (rv.map V.ref))) rv):=(g.more f1).old
 have hln:=z2v g.same hl;have kb:z64 (upd H1 l (.lst (rv.map V.ref))) rv l=some (.lst (rv.map V.ref)):=by rw[za4 lrv];exact kl
 generalize upd H1 l (.lst (rv.map V.ref))=H2 at g2 sB kl kb ⊢
 generalize z64 H2 rv=Hb at g2 sB kb;clear g f1 hl kl;refine⟨false,false,⟨_,SqL.of (g2.same _ _ (sB _ _ hca))⟩,⟨_,SqL.of (g2.same _ _ (sB _ _ hsa))⟩,?_⟩;refine z84 (xs:=cs) (ys:=sv) L.length (by rw[csl,svl,y40]) (λi σ' H'=>∃t5 t6 t7 t8 t9 ap,σ' = [some (.ref ad),some (.ref ac),some (.ref as),some vn,some (.ref l),t5,t6,t7,t8,t9]/\Rw K Hb H' rv ap (((((L.take i).zip (sss.take i)).flatMap λx=>z5y drs x.1 x.2).foldl PM.putT (z51 drs no)).map λr=>r.map λp:Int×Int=>z2b p.1 p.2)) ⟨_,_,_,_,_,ap,rfl,g2⟩ ?_ ?_ ?_
 ·rintro i σ' H' _ ⟨t5,t6,t7,t8,t9,ap,rfl,g⟩;exact⟨SqL.of (g.same _ _ (sB _ _ hca)),SqL.of (g.same _ _ (sB _ _ hsa))⟩
 ·rintro i x y σ' H' pt hx hy ⟨t5,t6,t7,t8,t9,ap,rfl,g⟩ hpt;have hi:=(y00.mp hx).1;have hc1:L[i]?=some (L[i]'(by omega)):=y01 _
  generalize L[i]'(by omega)=c at hc1
  have hs1:sss[i]?=some (sss[i]'(by omega)):=y01 _
  generalize sss[i]'(by omega)=ss at hs1
  obtain⟨x',hx1,ix⟩:=z0z hcs (show(L.map z2u)[i]?=some (z2u c) by rw[y05,hc1];rfl)
  rw[hx] at hx1;cases hx1;obtain⟨tc,ah,ax,rfl,k1,k2,k3⟩:=is_crowd.mp ix;obtain⟨y',hy1,iy⟩:=z0z hsv (show(sss.map λss=>PyData.list (ss.map λp:Int×Int=>z2b p.1 p.2))[i]?=some (.list (ss.map λp:Int×Int=>z2b p.1 p.2)) by rw[y05,hs1];rfl)
  rw[hy] at hy1;cases hy1;obtain⟨sa,vv,rfl,hsa1,hvv⟩:=is_list.mp iy;obtain⟨hnd,hl20,cl20,cin⟩:=lok c (y02 hc1);have sl1:=sok i c ss hc1 hs1;have vvl:vv.length=(z0q drs c.1 c.2).length:=by rw[z0c hvv,y04,sl1]
  have sT:=z06 hpt (.tup [.ref tc,.ref sa]);have g1:=g.more sT
  have kT:=z01 (H:=H') (a:=pt) (o:=.tup [.ref tc,.ref sa]);generalize upd H' pt (.tup [.ref tc,.ref sa])=H3 at g1 kT ⊢
  clear g sT hpt;walk_at "run";refine⟨_,_,SqT.of kT,?_⟩;walk_at "run";refine⟨ad,.ref tc,drs,c.1,c.2,rfl,Is.same (sB.trans g1.same) _ _ id,Is.same (sB.trans g1.same) _ _ ix,hnd,hl20,cl20,drow,cin,λvt H4 s4 it ⟨lt,e1,nlt⟩=>?_⟩;subst e1;obtain⟨_,tv,e0,hlt,htv⟩:=is_list.mp it;cases e0;have g3:=g1.more s4;have ltr:lt ∉ rv:=λz=>by
   obtain⟨v,hv⟩:=g1.here z;rw[nlt] at hv;cases hv
  have tvl:tv.length=(z0q drs c.1 c.2).length:=by rw[z0c htv,y04]
  have g4:=g3.rebase;have sC:Same Hb (z64 H4 rv):=g3.old
  have htv':=g3.prs htv;have hlt':z64 H4 rv lt=some (.lst tv):=by rw[za4 ltr];exact hlt
  generalize z64 H4 rv=Hc at g4 sC htv' hlt';clear g1 g3 s4 nlt hlt htv it kT;have sA:=sB.trans sC;refine⟨false,false,⟨_,SqL.of (g4.same _ _ hlt')⟩,⟨_,SqL.of (g4.same _ _ (sA _ _ hsa1))⟩,?_⟩;generalize hR0:(((L.take i).zip (sss.take i)).flatMap λx=>z5y drs x.1 x.2).foldl PM.putT (z51 drs no)=R0 at g4;refine z84 (xs:=tv) (ys:=vv) (z0q drs c.1 c.2).length (by rw[tvl,vvl,y40]) (λj σ' H'=>∃t7 t8 t9 ap,σ' = [some (.ref ad),some (.ref ac),some (.ref as),some vn,some (.ref l),some (.ref tc),some (.ref sa),t7,t8,t9]/\Rw K Hc H' rv ap ((((z5y drs c ss).take j).foldl PM.putT R0).map λr=>r.map λp:Int×Int=>z2b p.1 p.2)) ⟨_,_,_,_,rfl,by simpa using g4⟩ ?_ ?_ ?_
  ·rintro j σ' H' _ ⟨t7,t8,t9,ap,rfl,g⟩;exact⟨SqL.of (g.same _ _ hlt'),SqL.of (g.same _ _ (sA _ _ hsa1))⟩
  ·rintro j x y σ' H' pt hx hy ⟨t7,t8,t9,ap,rfl,g⟩ hpt;have hj:=(y00.mp hx).1;have ht1:(z0q drs c.1 c.2)[j]?=some ((z0q drs c.1 c.2)[j]'(by omega)):=y01 _
   generalize (z0q drs c.1 c.2)[j]'(by omega)=tp at ht1
   have ha1:ss[j]?=some (ss[j]'(by omega)):=y01 _
   generalize ss[j]'(by omega)=am at ha1
   obtain⟨x',hx1,ix⟩:=z0z htv' (show((z0q drs c.1 c.2).map pr)[j]?=some (pr tp) by rw[y05,ht1];rfl)
   rw[hx] at hx1;cases hx1;obtain⟨pa,rfl,hpa⟩:=(is_frac (n:=(tp.1:Int)) (d:=(tp.2:Int))).mp ix;obtain⟨y',hy1,iy'⟩:=z0z hvv (show(ss.map λp:Int×Int=>z2b p.1 p.2)[j]?=some (z2b am.1 am.2) by rw[y05,ha1];rfl)
   rw[hy] at hy1;cases hy1;obtain⟨x0,h0,hx0,hh0,hin⟩:=(z2c hnd tp.1 tp.2).mp (y02 ht1);have xlt:x0<drs.length:=cin x0 (y02 hx0);have hrow:drs[x0]?=some (z2r drs x0):=by
    unfold z2r;rw[y06,y01 xlt];rfl
   obtain⟨ra,hra1,hra⟩:=z32 hrs hrow;have rx:rv[x0]?=some (rv[x0]'(by omega)):=y01 _
   generalize rv[x0]'(by omega)=r0 at rx
   have vx:ap[x0]?=some (ap[x0]'(by rw[g.len];omega)):=y01 _
   generalize ap[x0]'(by rw[g.len];omega)=v0 at vx
   have htr:(z5y drs c ss)[j]?=some (x0,(z2r drs x0).idxOf h0,am):=by
    unfold z5y;rw[y05,(y0l (z:=(tp,am))).mpr ⟨ht1,ha1⟩];show some (c.2.getD tp.1 0,(z2r drs (c.2.getD tp.1 0)).idxOf (c.1.getD tp.2 0),am)=_;rw[PM.getD_of hx0,PM.getD_of hh0]
   have sT:=z06 hpt (.tup [.ref pa,y]);have g1:=g.more sT
   have kT:=z01 (H:=H') (a:=pt) (o:=.tup [.ref pa,y]);generalize upd H' pt (.tup [.ref pa,y])=H5 at g1 kT ⊢
   clear g sT hpt;have sH:=sA.trans g1.same;have Rl:((((z5y drs c ss).take j).foldl PM.putT R0)).length=rv.length:=by have:=g1.dlen;rw[y04] at this;exact this
   generalize hR1:(((z5y drs c ss).take j).foldl PM.putT R0)=R1 at g1 Rl;have dx:(R1.map λr=>r.map λp:Int×Int=>z2b p.1 p.2)[x0]?=some ((R1.getD x0 []).map λp:Int×Int=>z2b p.1 p.2):=by
    rw[y05,y06,y01 (by omega)]
    rfl
   have al0:=g1.all x0 v0 _ vx dx;have vl0:v0.length=(z2r drs x0).length:=by
    rw[z0c al0,y04,←hR1,←hR0,←y4e];refine(zdl _ _ (λt ht=>?_) (z8v drs no)).2 x0 xlt;have one:∀{c:PM.Cr} {ss:List (Int×Int)},c∈L->t∈z5y drs c ss->t.1<drs.length:=λ{c ss} hc ht=>by
     obtain⟨n1,_,_,ci⟩:=lok c hc;obtain⟨_,_,x,_,_,z1,_,_,z2,_⟩:=z3l n1 ht;rw[z2];exact ci x (y02 z1)
    rcases y0z.mp ht with z | z
    ·obtain⟨u,hu,hu2⟩:=y2m.mp z;exact one (y3u (y16 hu).1) hu2
    ·exact one (y02 hc1) (y3u z)
   have klt:=y1e hin;have st:=SqT.of (K:=K) (g1.same _ _ hpa)
   have sc:=SqT.of (K:=K) (sH _ _ k1);walk_at "run";refine⟨_,_,SqT.of kT,?_⟩;walk_at "run";refine⟨_,_,.inr sc,rfl,_,_,.inr st,rfl,_,_,.inl (SqL.of (sH _ _ k3)),zpm hx0,?_⟩;walk_at "run";refine⟨_,_,.inl (SqL.of (g1.same _ _ (sC _ _ kb))),z0x (show(rv.map V.ref)[x0]?=some (.ref r0) by rw[y05,rx];rfl),_,_,.inl (SqL.of (sH _ _ hda)),z0x hra1,⟨_,sH _ _ hra⟩,_,_,.inr sc,rfl,_,_,.inr st,rfl,_,_,.inl (SqL.of (sH _ _ k2)),zpm hh0,(z2r drs x0).map λ(n:Nat)=>(n:Int),by rw[sH _ _ hra,z9l],y1i.mpr ⟨h0,hin,rfl⟩,λk hk _=>?_⟩
   have ek:=z4v (dnd _ (y02 hrow)) (zp2 hk);refine⟨v0,k,g1.at_ x0 r0 v0 rx vx,z3f (by rw[vl0,←ek];exact klt),?_⟩
   refine⟨_,_,_,ap.set x0 (v0.set k y),rfl,?_⟩;have g2:=g1.set rx vx (z60 (i:=k) al0 (Is.same (sA.trans g1.old) _ _ iy'));rw[z0l htr,y4e,y41,List.foldl_nil,hR1,zn3 (by omega),ek]
   exact g2
  ·rintro σ' H' ⟨t7,t8,t9,ap,rfl,g⟩;refine⟨_,_,_,_,_,ap,rfl,?_⟩;rw[show(z5y drs c ss).take (z0q drs c.1 c.2).length=z5y drs c ss from y07 (by unfold z5y;rw[y04,y2k];omega),←hR0,←y4e] at g
   have e:(((L.take (i+1)).zip (sss.take (i+1))).flatMap λx=>z5y drs x.1 x.2)=(((L.take i).zip (sss.take i)).flatMap λx=>z5y drs x.1 x.2)++z5y drs c ss:=by
    rw[z0l hc1,z0l hs1,y4z (by rw[y0x,y0x];omega),y51]
    simp
   rw[e];exact g.base sC
 ·rintro σ' H' ⟨t5,t6,t7,t8,t9,ap,rfl,g⟩;rw[show L.take L.length=L from y07 (y09 _),show sss.take L.length=sss from y07 (by omega)] at g
  walk_at "run";refine q l rv H' ⟨sB.trans g.same,hln,g.same _ _ kb,λr hr'=>⟨rn r hr',λz=>lrv (z▸hr')⟩,by have:=g.dlen;rw[y04] at this;exact this.symm,λi r row h1 h2=>?_,g.nd⟩
  have hv:ap[i]?=some (ap[i]'(by rw[g.len];exact(y00.mp h1).1)):=y01 _
  unfold z2w at h2;exact⟨_,g.at_ i r _ h1 hv,IsAll.same z9y _ _ (g.all i _ _ hv (by rw[y05,h2];rfl))⟩
noncomputable abbrev z2h:Stmt:=top 22
theorem sc_deal_evenly:FnScope ["works","doers","many","crowds","sents"] ["works","doers","many"] (z04 z2h):=⟨rfl,rfl,rfl,by decide +kernel,rfl,by decide +kernel,by decide +kernel⟩
theorem z96 (T:Top K mg "deal_evenly" z2h ["works","doers","many"])(B:Blt mg)(bH:Def P w K mg base "crowds_by" 10 ["works","doers","many"] (zdx K))(bI:Def P w K mg base "shares_in" 10 ["works","doers","crowd"] (z9m K))(bD:Def P w K mg base "rows_from" 2 ["doers","crowds","sents","nothing"] (zhk K (λp:Int×Int=>z2b p.1 p.2))):Def P w K mg base "deal_evenly" 11 ["works","doers","many"] (zg3 K):=by
 refine z1e (k:=10) T sc_deal_evenly (λvs H Q E h=>?_) (λf cdv A outer s H vs Q E hr h=>?_)
 ·obtain⟨aw,ad,many,ws,drs,rfl,_⟩:=h;rfl
 obtain⟨aw,ad,many,ws,drs,rfl,ask,dk,dnd,q⟩:=h;have few:=ask.few;refine⟨_,(z02 (z0d 3 sc_deal_evenly.nd (z0f bH (hr.mono (by decide)) (z00 (cv 0) (z00 (cv 1) (z00 (cv 2) z03)))))
   (z02 (z8h (N:=["crowd","works","doers"]) (fr:=[0,1]) 4 1 sc_deal_evenly.nd (z1i (cv 3)) (λC hN=>by exact pgC ((z0b 0 hN)) (by walk_at "c")) (λC hN=>by exact peC ((z0f bI (hr.mono (by decide)) (z00 (cv 1) (z00 (cv 2) (z00 (cv 0) z03))))) (by walk_at "c")))
   (z07 (z0n (z0f bD (hr.mono (by decide)) (z00 (cv 1) (z00 (cv 3) (z00 (cv 4) (z00 (z2s (z00 z05 (z00 z05 z03))) z03))))))))),?_⟩
 refine rd (σ':=[some (.ref aw),some (.ref ad),some (.int (many:Int)),none,none]) rfl ?_;walk_at "run";refine⟨aw,ad,many,ws,drs,rfl,ask,dk,λL c1 c2 c3 vl H1 s1 il=>?_⟩;have co:CrOk ws drs many L:=⟨c1,c2,c3⟩;have lfew:=co.few dk.few
 obtain⟨al,lv,rfl,hal,hlv⟩:=is_list.mp il;have lvl:lv.length=L.length:=by rw[z0c hlv,y04]
 walk_at "run";refine .inl ⟨⟨_,SqL.of hal⟩,?_⟩;refine cgo (σ':=[none,some (.ref aw),some (.ref ad)]) rfl ?_;refine z1c (xs:=lv) (λj ys H2=>Same H1 H2/\ys.length≤j/\∃sss:List (List (Int×Int)),IsAll K H2 ys (sss.map λss=>z1v ss)/\sss.length=j/\∀(i:Nat) c ss,L[i]?=some c->sss[i]?=some ss->ShcOk ws drs c ss) ⟨Same.refl _,y09 _,[],z0p,rfl,λi c ss _ z=>(by simp at z)⟩ (z0h (by omega)) ?_ ?_ ?_
 ·rintro j ys H2 _ ⟨e2,yl,_⟩;exact⟨SqL.of (e2 _ _ hal),yl⟩
 ·rintro j x ys H2 hx ⟨e2,yl,sss,al2,sl2,sp⟩;have hj:=(y00.mp hx).1;have hc1:L[j]?=some (L[j]'(by omega)):=y01 _
  generalize L[j]'(by omega)=c at hc1
  obtain⟨x',hx1,ix⟩:=z0z hlv (show(L.map z2u)[j]?=some (z2u c) by rw[y05,hc1];rfl)
  rw[hx] at hx1;cases hx1;walk_at "run";refine z6m ⟨aw,ad,x,ws,drs,c,rfl,ask.same (s1.trans e2),Is.same e2 _ _ ix,co.crowdP dk.few few (y02 hc1),λss pk v H3 s3 is3=>?_⟩;refine CNx.mk ⟨e2.trans s3,by rw[y0c];show _+1≤_;omega,sss ++ [ss],?_,by rw[y0c,sl2];rfl,λi c' ss' h1 h2=>?_⟩ hj
  ·rw[y0f];exact z1l (IsAll.same s3 _ _ al2) is3
  ·rcases z3b h2 with z | ⟨z1,z2⟩
   ·exact sp i c' ss' h1 z
   ·subst z2;rw[z1,sl2,hc1] at h1;cases h1;exact pk
 rintro ys H2 ⟨e2,yl,sss,al2,sl2,sp⟩ ls hls;rw[lvl] at sl2;have f3:=z06 hls (.lst ys);walk_at "run";refine⟨sz (by show 2≤1000;decide),λpz hpz=>?_⟩
 have f4:=z06 hpz (.tup [.int 0,.int 1]);have sB:=e2.trans (f3.trans f4)
 have sA:=s1.trans sB;refine⟨ad,al,ls,.ref pz,drs,L,sss,(0,1),rfl,Is.same sA _ _ ask.d,Is.same sB _ _ il,is_list.mpr ⟨ls,ys,rfl,f4 _ _ z01,IsAll.same (f3.trans f4) _ _ al2⟩,is_frac.mpr ⟨pz,rfl,z01⟩,by rw[ask.len];exact few,ask.row,dnd,lfew,λc hc=>?_,sl2,λi c ss h1 h2=>(sp i c ss h1 h2).len,λl rv H4 t=>?_⟩
 ·have p:=co.crowdP dk.few few hc;exact⟨p.nd,p.hl,p.cl,λx hx=>by rw[ask.len];exact p.ci x hx⟩
 ·refine q L sss l rv H4 co sl2 sp ⟨sA.trans t.same,z2v sA t.new,t.out,λr hr'=>⟨z2v sA (t.rows r hr').1,(t.rows r hr').2⟩,t.len,t.at_,t.nd⟩
noncomputable abbrev z73:Stmt:=top 36
theorem zko:FnScope ["_law_one","_law_other"] ["_law_one","_law_other"] (z04 z73):=⟨rfl,rfl,rfl,by decide +kernel,rfl,by decide +kernel,by decide +kernel⟩
theorem zjr (T:Top K mg "_law_plus" z73 ["_law_one","_law_other"])(B:Blt mg)(bh:Def P w K mg base "_law_lowest" 2 ["_law_top","_law_bottom"] (zbu K)):Def P w K mg base "_law_plus" 3 ["_law_one","_law_other"] (zmf K (λa b c d=>a*d+c*b)):=by
 refine z1e (k:=2) T zko (λvs H Q E h=>?_) (λf cdv A outer s H vs Q E hr h=>?_)
 ·obtain⟨x,y,a,b,c,d,rfl,_⟩:=h;rfl
 obtain⟨x,y,a,b,c,d,rfl,hx,hy,hb,hd,ba,bb,bc,bd,q⟩:=h;obtain⟨p,rfl,hp0⟩:=is_frac.mp hx;obtain⟨r,rfl,hr0⟩:=is_frac.mp hy;have hp:SqT K H p _:=SqT.of hp0;have hr':SqT K H r _:=SqT.of hr0
 refine⟨_,(z07 (z0n (z0f bh (hr.mono (by decide)) (z00 (z0m z2i (z0m z2j (z0j z0k (cv 0) z05 (λ_ _=>rfl)) (z0j z0k (cv 1) z05 (λ_ _=>rfl))) (z0m z2j (z0j z0k (cv 1) z05 (λ_ _=>rfl)) (z0j z0k (cv 0) z05 (λ_ _=>rfl)))) (z00 (z0m z2j (z0j z0k (cv 0) z05 (λ_ _=>rfl)) (z0j z0k (cv 1) z05 (λ_ _=>rfl))) z03))))),?_⟩
 refine rd (σ':=[some (.ref p),some (.ref r)]) rfl ?_;walk_at "run";exact⟨_,_,.inr hp,rfl,_,_,.inr hr',rfl,z5i ba bd (by decide),_,_,.inr hr',rfl,_,_,.inr hp,rfl,z5i bc bb (by decide),_,_,.inr hp,rfl,_,_,.inr hr',rfl,z5i bb bd (by decide),_,_,rfl,y50 hb hd,(bb.mul bd).le (by decide),q⟩
noncomputable abbrev z4c:Stmt:=top 42
theorem sc_Lshares:FnScope ["_law_script","_law_works","_law_doers","_law_many","_law_number","_law_shares_here","_law_chore","_law_at"] ["_law_script","_law_works","_law_doers","_law_many"] (z04 z4c):=⟨rfl,rfl,rfl,by decide +kernel,rfl,by decide +kernel,by decide +kernel⟩
theorem zeu (T:Top K mg "_law_shares" z4c ["_law_script","_law_works","_law_doers","_law_many"])(B:Blt mg)(aD:Def P w K mg base "_law_mixed" 1 ["_law_cell","_law_k"] (z44))(aI:Def P w K mg base "_law_cell_at" 1 ["_law_script","_law_k"] (z7e K))(b7:Def P w K mg base "_law_drawn" 4 ["_law_script","_law_doers"] (zel K))(bv:Def P w K mg base "deal_evenly" 11 ["works","doers","many"] (zg3 K))(bK:Def P w K mg base "_law_plus" 3 ["_law_one","_law_other"] (zmf K (λa b c d=>a*d+c*b)))(bx:Def P w K mg base "_law_small" 3 ["_law_number"] (zd7 K))(bW:Def P w K mg base "_law_far" 2 ["_law_script","_law_at","_law_k"] (zg4 K)):Def P w K mg base "_law_shares" 12 ["_law_script","_law_works","_law_doers","_law_many"] (zai K):=by
 refine z1e (k:=11) T sc_Lshares (λvs H Q E h=>?_) (λf cdv A outer s H vs Q E hr h=>?_)
 ·obtain⟨a,aw,ad,ns,ws,drs,many,rfl,_⟩:=h;rfl
 obtain⟨a,aw,ad,ns,ws,drs,many,rfl,hS,hlen,cr,q⟩:=h;obtain⟨_,rs,e0,hda,hrs⟩:=is_list.mp cr.ask.d;cases e0;have few:=cr.few;have dl:=cr.ask.len
 have h12:=cr.h12;have rsl:rs.length=drs.length:=by rw[z0c hrs,y04]
 refine⟨_,(z02 (z0d 4 sc_Lshares.nd (z0f aD (hr.mono (by decide)) (z00 (z0f aI (hr.mono (by decide)) (z00 (cv 0) (z00 z05 z03))) (z00 z05 z03))))
   (z02 (z2x (z80 (z0s z4y (z0m z1u (cv 4) z05) z05 (z0o _)) (z8o (z0s (zdj hr) (cv 2) (z1p z03) (z0o _)))).pt
   (z07 (z0n (z0f b7 (hr.mono (by decide)) (z00 (cv 0) (z00 (cv 2) z03)))))
   z1h)
   (z02 (z0d 5 sc_Lshares.nd (z0f bv (hr.mono (by decide)) (z00 (znq z8f B.list z5n (z00 (cv 1) z03)) (z00 (z2t (N:=["_law_row_here"]) (fr:=[]) 1 (z1i (cv 2)) (λC hN=>by exact pgC ((z0b 0 hN)) (by walk_at "c")) (λC hN=>by exact peC ((znq z8f B.list z5n (z00 (cv 0) z03))) (by walk_at "c"))) (z00 (cv 3) z03)))))
   (z02 (z2x (z0s z4y (z0m z1u (z0m z2a (cv 4) z05) z05) z05 (z0o _))
   (z02 (z0d 6 sc_Lshares.nd (z0m z1u (z0m z2a (cv 4) z05) (z45 z29 B.len y19 (z00 (cv 2) z03))))
    (z02 (z0d 7 sc_Lshares.nd (z0m z1u (z0m z2a (cv 4) z05) (z45 z29 B.len y19 (z00 (z0j z0k (cv 2) (cv 6) (λ_ _=>rfl)) z03))))
    (z07 (z9j (z0f bK (hr.mono (by decide)) (z00 (z0j z0k (z0j z0k (cv 5) (cv 6) (λ_ _=>rfl)) (cv 7) (λ_ _=>rfl)) (z00 (z0f bx (hr.mono (by decide)) (z00 (z0f bW (hr.mono (by decide)) (z00 (cv 0) (z00 z05 (z00 z05 z03)))) z03)) z03))) (zc2 (z0j z0k (cv 5) (cv 6) (λ_ _=>rfl)) (cv 7) z4t)))))
   z1h)
   (z07 (z0n (cv 5))))))),?_⟩
 refine rd (σ':=[some (.ref a),some (.ref aw),some (.ref ad),some (.int (many:Int)),none,none,none,none]) rfl ?_;walk_at "run";refine⟨ns,hS,by decide,by decide,by decide,λz z0=>⟨by decide,?_⟩⟩
 refine z3m (λ_=>z6m ?_) (λ_=>?_)
 ·exact⟨a,aw,ad,ns,ws,drs,many,rfl,hS,cr,q⟩
 refine⟨sz (by show 0≤1000;decide),λpn hpn=>?_⟩
 have s0:=z06 hpn (.lst []);have kn:=z01 (H:=H) (a:=pn) (o:=.lst [])
 have cr1:=cr.same s0;have hS1:=s0.seq hS
 replace hda:=s0 _ _ hda;replace hrs:=IsAll.same s0 _ _ hrs;generalize upd H pn (.lst [])=H1 at s0 kn cr1 hS1 hda hrs ⊢
 refine⟨_,_,cr1.ask.d,is_list.mpr ⟨pn,[],rfl,kn,z0p⟩,zkx (n:=58) _,z3j (n:=59) λd hd=>(by cases hd),?_⟩
 rw[show z3z drs = .list (drs.map z3x) from rfl,z9x]
 refine z3m (λc=>?_) (λc=>?_)
 ·exact⟨a,aw,ad,ns,ws,drs,many,rfl,hS1,cr1,λR rt v' H' s' is'=>q R rt v' H' (s0.trans s') is'⟩
 have dne:0<drs.length:=by
  cases drs with
  | nil=>exact absurd rfl c
  | cons x t=>exact Nat.succ_pos _
 refine⟨_,.inl (SqL.of cr1.ask.w),λbw hbw=>?_⟩;have s2:=z06 hbw (.lst (ws.map V.int));have kw:=z01 (H:=H1) (a:=bw) (o:=.lst (ws.map V.int))
 generalize upd H1 bw (.lst (ws.map V.int))=H2 at s2 kw ⊢
 walk_at "run";refine .inl ⟨⟨_,SqL.of (s2 _ _ hda)⟩,?_⟩;refine cgo (σ':=[none]) rfl ?_;refine zej (s2 _ _ hda) (IsAll.same s2 _ _ hrs) (by omega) λbd ys H4 e4 kd ad4=>?_
 have ask3:AsksC K H4 bw bd ws drs:=⟨e4 _ _ kw,is_list.mpr ⟨bd,ys,rfl,kd,ad4⟩,cr.ask.len,cr.ask.few,cr.ask.row,cr.ask.pos,cr.ask.bd⟩;have s3:=s2.trans e4
 clear kw hbw kd ad4 s2 e4;have h0:=cr.h0;have dk:DoOk ws drs many:=cr.rows.doOk rfl (by omega)
 have nr:∀r∈drs,r.Nodup:=λr hr=>(cr.rows.2 r hr).2.1.imp λh=>y0t h;refine⟨bw,bd,many,ws,drs,rfl,ask3,dk,nr,λL sss l rv H5 C sl pk t=>?_⟩;obtain⟨ps,qs,lo,lk⟩:=zj7 C h0;have E:=znd C h0 (by omega) (by omega) dl nr ask3.pos sl pk lo lk
 generalize z2w drs L sss (0,1)=R at E t;have rt:=RatOk.of_even E cr.rows h12 (by omega)
 have sA:=s0.trans s3;refine⟨by decide,by decide +kernel,by decide,z3m (λ_=>?_) (λ_=>q R rt _ _ (sA.trans t.same) t.is)⟩
 have sB:=s3.trans t.same;replace hda:=sB _ _ hda;replace hrs:=IsAll.same sB _ _ hrs;refine⟨by decide,by decide +kernel,_,.inl (SqL.of hda),?_⟩
 rw[rsl];refine⟨by omega,by decide,by decide +kernel,?_⟩
 obtain⟨cc,hcc⟩:=y2b (y1q (z.fdiv 4) (show((drs.length:Nat):Int)≠0 by omega))
 have ccl:=y1p (z.fdiv 4) (show(0:Int)<((drs.length:Nat):Int) by omega)
 rw[hcc] at ccl ⊢
 have hr1:drs[cc]?=some (drs[cc]'(by omega)):=y01 _
 have hs1:R[cc]?=some (R[cc]'(by rw[E.len];omega)):=y01 _
 generalize drs[cc]'(by omega)=r at hr1
 generalize R[cc]'(by rw[E.len];omega)=s at hs1
 obtain⟨ra,hra1,hra⟩:=z32 hrs hr1;obtain⟨rne,_,_⟩:=cr.rows.2 r (y02 hr1);have rpos:0<r.length:=y0v.mpr rne;have srl:=E.row cc r s hr1 hs1
 refine⟨_,_,.inl (SqL.of hda),z0x hra1,_,.inl (SqL.of hra),?_⟩;rw[z0i];obtain⟨kk,hkk⟩:=y2b (y1q (z.fdiv 36) (show((r.length:Nat):Int)≠0 by omega))
 have kkl:=y1p (z.fdiv 36) (show(0:Int)<((r.length:Nat):Int) by omega)
 rw[hkk] at kkl;refine⟨by omega,?_⟩
 rw[hkk];have rc:rv[cc]?=some (rv[cc]'(by rw[t.len,E.len];omega)):=y01 _
 generalize rv[cc]'(by rw[t.len,E.len];omega)=r0 at rc
 obtain⟨v0,hv0,al0⟩:=t.at_ cc r0 s rc hs1;have sk:s[kk]?=some (s[kk]'(by omega)):=y01 _
 generalize s[kk]'(by omega)=p at sk
 obtain⟨pv,hpv,ip⟩:=z0z al0 (show(s.map λp=>z2b p.1 p.2)[kk]?=some (z2b p.1 p.2) by rw[y05,sk];rfl)
 obtain⟨pl,pn0,pd,pb⟩:=E.ok s (y02 hs1) p (y02 sk);have rvc:(rv.map V.ref)[cc]?=some (.ref r0):=by rw[y05,rc];rfl
 refine⟨_,_,.inl (SqL.of t.out),z0x rvc,_,_,.inl (SqL.of hv0),z0x hpv,?_⟩;refine⟨a,ns,_,_,rfl,(sB.seq hS1),by decide,by decide,by decide,by decide,λy y0=>⟨y,rfl,y0,λu su v6 H6 s6 is6=>?_⟩⟩
 obtain⟨ul,ud,u0,u9,u6⟩:=su;have fp:FV M0 p (vl M0 p):=⟨pl,by rw[←zau (M:=M0) pd,y1k]⟩
 have fu:FV M0 u (vl M0 u):=⟨ul,by rw[←zau ud,y1k]⟩
 have bp2:Bd 28 p.2:=by
  show p.2.natAbs<2^28;have:=y7p (by decide) pd
  have:=pl.1;omega
 have bu1:Bd 4 u.1:=by show u.1.natAbs<2^4;omega
 have bu2:Bd 4 u.2:=by have:=ul.1;show u.2.natAbs<2^4;omega
 have pl1:=pl.1;have ul1:=ul.1
 refine⟨_,_,p.1,p.2,u.1,u.2,rfl,Is.same s6 _ _ ip,is6,by omega,by omega,pb.le (by decide),bp2.le (by decide),bu1.le (by decide),bu2.le (by decide),λn e e1 eg ee v7 H7 s7 is7=>?_⟩
 replace ee:n*(p.2*u.2)=(p.1*u.2+u.1*p.2)*e:=ee;have fn:=fp.plus fu e1 eg ee;have nd:=z5w eg ee
 have d2:e∣M0:=(z5w eg (show n*M0=(vl M0 p+vl M0 u)*e by rw[y1k _ e];exact fn.2)).1
 have s67:=s6.trans s7;refine⟨_,_,.inl (SqL.of (s67 _ _ t.out)),z0x rvc,v0,kk,s67 _ _ hv0,z3f (by rw[z0c al0,y04];omega),?_⟩
 obtain⟨o1,o2⟩:=t.put s67 (k:=kk) (p:=(n,e)) rc hs1 hv0 is7;refine q _ (rt.put (k:=kk) (p:=(n,e)) hs1 ⟨e1,eg⟩ d2 ?_ ?_) _ _ (sA.trans o1) o2
 ·have l1:=(zbz eg (y50 (by omega) (by omega)) ee).1
  have b1:=pb.mul bu2;have b2:=bu1.mul bp2
  show n.natAbs<2^600;have t1:(p.1*u.2).natAbs<2^334:=b1;have t2:(u.1*p.2).natAbs<2^32:=b2
  have t3:=y5i (p.1*u.2) (u.1*p.2);have t4:(2:Nat)^32≤2^334:=y3s (by decide) (by decide)
  have t5:(2:Nat)^334+2^334≤2^600:=by decide +kernel
  omega
 ·show 0≤n;rcases y28 n 0 with w | w
  ·have h1:n*(p.2*u.2)<0:=y5b w (y3m (by omega) (by omega))
   have h2:0≤(p.1*u.2+u.1*p.2)*e:=y29 (Int.add_nonneg (y29 pn0 (by omega)) (y29 u0 (by omega))) (by omega)
   omega
  ·exact w
noncomputable abbrev z72:Stmt:=top 38
theorem sc_Lbear:FnScope ["_law_doers","_law_many","_law_shares_here","_law_loads","_law_row_here","_law_some","_law_hand","_law_share"] ["_law_doers","_law_many","_law_shares_here"] (z04 z72):=⟨rfl,rfl,rfl,by decide +kernel,rfl,by decide +kernel,by decide +kernel⟩
theorem zka (T:Top K mg "_law_bear" z72 ["_law_doers","_law_many","_law_shares_here"])(B:Blt mg)(bK:Def P w K mg base "_law_plus" 3 ["_law_one","_law_other"] (zmf K (λa b c d=>a*d+c*b))):Def P w K mg base "_law_bear" 4 ["_law_doers","_law_many","_law_shares_here"] (zl2 K):=by
 refine z1e (k:=3) T sc_Lbear (λvs H Q E h=>?_) (λf cdv A outer s H vs Q E hr h=>?_)
 ·obtain⟨ad,as,many,drs,shs,M,rfl,_⟩:=h;rfl
 obtain⟨ad,as,many,drs,shs,M,rfl,id,is,ok,hm,q⟩:=h;obtain⟨_,rs,e0,hda,hrs⟩:=is_list.mp id;cases e0;obtain⟨_,ss,e0,hsa,hss⟩:=is_list.mp is;cases e0;have rsl:rs.length=drs.length:=by rw[z0c hrs,y04]
 have ssl:ss.length=shs.length:=by rw[z0c hss,y04]
 refine⟨_,(z02 (z0d 3 sc_Lbear.nd (z0m z2j (z1p (z00 (z2s (z00 z05 (z00 z05 z03))) z03)) (cv 1)))
   (z02 (z1z (z4z B.zip (cv 0) (cv 2)) (z5k (z0b 4 sc_Lbear.nd) (z0b 5 sc_Lbear.nd))
   (z07 (z1z (z4z B.zip (cv 4) (cv 5)) (z5k (z0b 6 sc_Lbear.nd) (z0b 7 sc_Lbear.nd))
    (z07 (z9j (z0f bK (hr.mono (by decide)) (z00 (z0j z0k (cv 3) (cv 6) (λ_ _=>rfl)) (z00 (cv 7) z03))) (zc2 (cv 3) (cv 6) z4t))))))
   (z07 (z0n (cv 3))))),?_⟩
 refine rd (σ':=[some (.ref ad),some (.int (many:Int)),some (.ref as),none,none,none,none,none]) rfl ?_;walk_at "run";refine⟨sz (by show 2≤1000;decide),λt0 ht0=>⟨sz (by show 1≤1000;decide),λl0 hl0=>?_⟩⟩
 have w1:=z06 ht0 (.tup [.int 0,.int 1]);have w2:=z06 hl0 (.lst [.ref t0])
 refine⟨_,z01,by omega,by omega,sz (by show 1*_≤1000;omega),λl hl=>?_⟩
 rw[z4o,show((many:Int)).toNat=many by omega]
 have g0:Grow K H (upd (upd (upd H t0 (.tup [.int 0,.int 1])) l0 (.lst [.ref t0])) l (.lst (y08 many (V.ref t0)))) l (y08 many (V.ref t0)) ((y08 many ((0,1):Int×Int)).map λp=>z2b p.1 p.2):=by
  refine⟨?_,z01,?_⟩
  ·rw[z3i];exact(w1.trans w2).trans (ze3 hl)
  ·rw[z3i,y3h];have e:(del (upd (upd H t0 (.tup [.int 0,.int 1])) l0 (.lst [.ref t0])) l) t0=some (.tup [.int 0,.int 1]):=by
    have e1:=w2 _ _ (z01 (H:=H) (a:=t0) (o:=.tup [.int 0,.int 1]));rw[z9c (z08 e1 hl)];exact e1
   exact z8b (is_frac.mpr ⟨t0,rfl,e⟩) many
 generalize upd (upd (upd H t0 (.tup [.int 0,.int 1])) l0 (.lst [.ref t0])) l (.lst (y08 many (V.ref t0)))=H1 at g0 ⊢
 clear w1 w2 hl ht0 hl0;refine⟨false,false,⟨_,SqL.of (g0.same _ _ hda)⟩,⟨_,SqL.of (g0.same _ _ hsa)⟩,?_⟩;have len:=ok.len;have few:=ok.few
 refine z84 (xs:=rs) (ys:=ss) drs.length (by rw[rsl,ssl,len,y40]) (λi σ' H'=>∃t4 t5 t6 t7 vs qs,σ' = [some (.ref ad),some (.int (many:Int)),some (.ref as),some (.ref l),t4,t5,t6,t7]/\Grow K H H' l vs (qs.map λp=>z2b p.1 p.2)/\qs.length=many/\LdB M (z20 (drs.take i) (shs.take i)) qs) ⟨_,_,_,_,_,y08 many (0,1),rfl,g0,y1m,?_⟩ ?_ ?_ ?_
 ·intro h z hz;rw[y1a] at hz
  split at hz
  ·cases hz;exact⟨⟨by decide,by decide⟩,by simp[z20,bag]⟩
  ·cases hz
 ·rintro i σ' H' _ ⟨t4,t5,t6,t7,vs,qs,rfl,g,_⟩;exact⟨SqL.of (g.same _ _ hda),SqL.of (g.same _ _ hsa)⟩
 ·rintro i x y σ' H' pt hx hy ⟨t4,t5,t6,t7,vs,qs,rfl,g,ql,lb⟩ hpt;have hi:=(y00.mp hx).1;have hr1:drs[i]?=some (drs[i]'(by omega)):=y01 _
  have hs1:shs[i]?=some (shs[i]'(by omega)):=y01 _
  generalize drs[i]'(by omega)=r at hr1
  generalize shs[i]'(by omega)=s at hs1
  obtain⟨ra,hra1,hra⟩:=z32 hrs hr1;rw[hx] at hra1;cases hra1;obtain⟨y',hy1,iy⟩:=z0z hss (show(shs.map z1v)[i]?=some (z1v s) by rw[y05,hs1];rfl)
  rw[hy] at hy1;cases hy1;obtain⟨sa,sv,rfl,hsa1,hsv⟩:=is_list.mp iy;obtain⟨sr,rlen,rlt⟩:=ok.row i r s hr1 hs1;have svl:sv.length=r.length:=by rw[z0c hsv,y04,sr]
  have sok:=ok.ok s (y02 hs1);have sT:=z06 hpt (.tup [.ref ra,.ref sa])
  have g1:=g.more sT;have kT:=z01 (H:=H') (a:=pt) (o:=.tup [.ref ra,.ref sa])
  generalize upd H' pt (.tup [.ref ra,.ref sa])=H2 at g1 kT ⊢
  have fl:=zaa ok i (by omega)
  walk_at "run";refine⟨_,_,SqT.of kT,?_⟩;walk_at "run";refine⟨false,false,⟨_,SqL.of (g1.same _ _ hra)⟩,⟨_,SqL.of (g1.same _ _ hsa1)⟩,?_⟩;refine z84 (xs:=z09 r) (ys:=sv) r.length (by rw[z0i,svl,y40]) (λj σ' H'=>∃t6 t7 vs qs,σ' = [some (.ref ad),some (.int (many:Int)),some (.ref as),some (.ref l),some (.ref ra),some (.ref sa),t6,t7]/\Grow K H H' l vs (qs.map λp=>z2b p.1 p.2)/\qs.length=many/\LdB M (z20 (drs.take i) (shs.take i)++(r.zip s).take j) qs) ⟨_,_,_,_,rfl,g1,ql,by rw[List.take_zero,y2i];exact lb⟩ ?_ ?_ ?_
  ·rintro j σ' H' _ ⟨t6,t7,vs,qs,rfl,g,_⟩;exact⟨SqL.of (g.same _ _ hra),SqL.of (g.same _ _ hsa1)⟩
  ·rintro j x y σ' H' pt hx hy ⟨t6,t7,vs,qs,rfl,g,ql,lb⟩ hpt;obtain⟨h,hh,rfl⟩:=z2q hx;obtain⟨p,pa,hp,rfl,hpa⟩:=z4q hsv hy;have hlt:=rlt h (y02 hh);have jl:=(y00.mp hh).1
   obtain⟨pl,pd,pb⟩:=sok p (y02 hp);have hq:qs[h]?=some (qs[h]'(by omega)):=y01 _
   generalize qs[h]'(by omega)=u at hq
   have zt:(r.zip s)[j]?=some (h,p):=y0l.mpr ⟨hh,hp⟩;have okL:∀x∈z20 (drs.take i) (shs.take i)++(r.zip s).take j,1≤x.2.2/\x.2.2∣M/\Bd 600 x.2.1:=λx hx=>by
    rcases y0z.mp hx with z | z
    ·exact znc ok x (zjn len i x z)
    ·obtain⟨a1,a2,a3⟩:=sok x.2 (y16 (y3u z)).2;exact⟨a1.1,a2,a3⟩
   obtain⟨b1,b2⟩:=lb.bd ok.hM ok.bM okL (by rw[y0c,y0x,y2k];omega) hq
   obtain⟨ul,_⟩:=lb h u hq;have sT:=z06 hpt (.tup [.int (h:Int),.ref pa]);have g1:=g.more sT
   have kT:=z01 (H:=H') (a:=pt) (o:=.tup [.int (h:Int),.ref pa]);generalize upd H' pt (.tup [.int (h:Int),.ref pa])=H3 at g1 kT ⊢
   obtain⟨uv,hu1,hu2⟩:=z0z g1.all (show(qs.map λp=>z2b p.1 p.2)[h]?=some (z2b u.1 u.2) by rw[y05,hq];rfl)
   have b3:Bd 600 p.2:=ok.bM.of_le (by
    have:=y7p ok.hM pd;have:=pl.1
    omega)
   walk_at "run";refine⟨_,_,SqT.of kT,?_⟩;walk_at "run";refine⟨_,_,.inl (SqL.of g1.here),z0x hu1,_,_,u.1,u.2,p.1,p.2,rfl,Is.same del_sub _ _ hu2,is_frac.mpr ⟨pa,rfl,g1.same _ _ hpa⟩,by have:=ul.1;omega,by have:=pl.1;omega,b1.le (by decide),b2.le (by decide),pb.le (by decide),b3.le (by decide),λn e e1 e2 e3 v4 H4 s4 is4=>?_⟩
   have g2:=g1.more s4;have vl4:vs.length=many:=by rw[z0c g1.all,y04,ql]
   obtain⟨va,rfl,hva⟩:=is_frac.mp is4;refine⟨_,h,g2.here,z3f (by omega),?_⟩
   refine⟨_,_,vs.set h (.ref va),qs.set h (n,e),rfl,?_,by rw[y25];exact ql,?_⟩
   ·rw[y2q];exact g2.setAt h (z6a is4 g2.here)
   ·rw[z0l zt,←y33];exact lb.add hq pl.1 pd ⟨e1,e2⟩ e3
  ·rintro σ' H' ⟨t6,t7,vs,qs,rfl,g,ql,lb⟩;rw[show(r.zip s).take r.length=r.zip s from y07 (by rw[y2k];omega),←z6g hr1 hs1] at lb
   exact⟨_,_,_,_,vs,qs,rfl,g,ql,lb⟩
 ·rintro σ' H' ⟨t4,t5,t6,t7,vs,qs,rfl,g,ql,lb⟩;rw[y07 (y09 _),y07 (by omega)] at lb
  walk_at "run";exact q qs ql lb _ _ g.same g.is
noncomputable abbrev z1q:Stmt:=top 7
theorem sc_plus_in_lowest:FnScope ["one","other","shared","top","extra"] ["one","other"] (z04 z1q):=⟨rfl,rfl,rfl,by decide +kernel,rfl,by decide +kernel,by decide +kernel⟩
theorem z6z (T:Top K mg "plus_in_lowest" z1q ["one","other"])(B:Blt mg)(aH:Def P w K mg base "divisor_of" 1 ["one","other"] (spG)):Def P w K mg base "plus_in_lowest" 2 ["one","other"] (zgd K):=by
 refine z1e (k:=1) T sc_plus_in_lowest (λvs H Q E h=>?_) (λf cdv A outer s H vs Q E hr h=>?_)
 ·obtain⟨x,y,a,b,c,d,rfl,_⟩:=h;rfl
 obtain⟨x,y,a,b,c,d,rfl,hx,hy,hb,hd,g1,g2,ba,bb,bc,bd,q⟩:=h;obtain⟨p,rfl,hp0⟩:=is_frac.mp hx;obtain⟨r,rfl,hr0⟩:=is_frac.mp hy;have hp:SqT K H p _:=SqT.of hp0;have hr':SqT K H r _:=SqT.of hr0
 refine⟨_,(z02 (z0d 2 sc_plus_in_lowest.nd (z0f aH (hr.mono (by decide)) (z00 (z0j z0k (cv 0) z05 (λ_ _=>rfl)) (z00 (z0j z0k (cv 1) z05 (λ_ _=>rfl)) z03))))
   (z02 (z0d 3 sc_plus_in_lowest.nd (z0m z2i (z0m z2j (z0j z0k (cv 0) z05 (λ_ _=>rfl)) (z0m z2a (z0j z0k (cv 1) z05 (λ_ _=>rfl)) (cv 2))) (z0m z2j (z0j z0k (cv 1) z05 (λ_ _=>rfl)) (z0m z2a (z0j z0k (cv 0) z05 (λ_ _=>rfl)) (cv 2)))))
   (z02 (z0d 4 sc_plus_in_lowest.nd (z0f aH (hr.mono (by decide)) (z00 (cv 3) (z00 (cv 2) z03))))
   (z07 (z0n (z2s (z00 (z0m z2a (cv 3) (cv 4)) (z00 (z0m z2j (z0m z2a (z0j z0k (cv 0) z05 (λ_ _=>rfl)) (cv 2)) (z0m z2a (z0j z0k (cv 1) z05 (λ_ _=>rfl)) (cv 4))) z03)))))))),?_⟩
 refine rd (σ':=[some (.ref p),some (.ref r),none,none,none]) rfl ?_;walk_at "run";obtain⟨m1,m2,m3,m4,m5,m6,m7,m8⟩:=zh9 hb hd g1 g2 rfl rfl rfl;refine⟨_,_,.inr hp,rfl,_,_,.inr hr',rfl,?_⟩;walk_at "run";have gp:=zoh (a:=b) (b:=d) (by omega)
 generalize hg:((y1b b d:Nat):Int)=g at *
 have lg:g.natAbs.log2<9000:=znp (bd.le (by decide)) m2 m1
 have bg:Bd 8000 g:=bd.of_le m2;have b1:Bd 8000 (d.fdiv g):=bd.of_le (zc9 gp)
 have b2:Bd 100000 (b.fdiv g):=bb.of_le (zc9 gp);refine⟨_,_,.inr hp,rfl,_,_,.inr hr',rfl,m1,lg,z5i ba b1 (by decide),_,_,.inr hr',rfl,_,_,.inr hp,rfl,m1,lg,z5i bc b2 (by decide),?_⟩
 walk_at "run";have ep:=zoh (a:=a*d.fdiv g+c*b.fdiv g) (b:=g) (by omega)
 generalize he:((y1b (a*d.fdiv g+c*b.fdiv g) g:Nat):Int)=e at *
 have le:e.natAbs.log2<9000:=znp (bg.le (by decide)) m5 m4
 have b3:Bd 8000 (d.fdiv e):=bd.of_le (zc9 ep);exact⟨m4,le,_,_,.inr hp,rfl,m1,lg,_,_,.inr hr',rfl,m4,le,z5i b2 b3 (by decide),sz (by show 2≤1000;decide),(q _ _ m6 m7 m8).ints2⟩
noncomputable abbrev z25:Stmt:=top 8
theorem sc_sum_of_parts:FnScope ["parts","total","part"] ["parts"] (z04 z25):=⟨rfl,rfl,rfl,by decide +kernel,rfl,by decide +kernel,by decide +kernel⟩
theorem z93 (T:Top K mg "sum_of_parts" z25 ["parts"])(B:Blt mg)(aY:Def P w K mg base "plus_in_lowest" 2 ["one","other"] (zgd K)):Def P w K mg base "sum_of_parts" 3 ["parts"] (zdm K):=by
 refine z1e (k:=2) T sc_sum_of_parts (λvs H Q E h=>?_) (λf cdv A outer s H vs Q E hr h=>?_)
 ·obtain⟨x,ps,Xs,M,rfl,_⟩:=h;rfl
 obtain⟨x,ps,Xs,M,rfl,hx,f,q⟩:=h;obtain⟨a,xs,rfl,ha,al⟩:=is_list.mp hx;have hlen:xs.length=ps.length:=by simpa using z0c al
 have few:=f.few;have fl:=f.len
 refine⟨_,(z02 (z0d 1 sc_sum_of_parts.nd (z2s (z00 z05 (z00 z05 z03))))
   (z02 (z1z (z1i (cv 0)) (z0b 2 sc_sum_of_parts.nd)
   (z07 (z0d 1 sc_sum_of_parts.nd (z0f aY (hr.mono (by decide)) (z00 (cv 1) (z00 (cv 2) z03))))))
   (z07 (z0n (cv 1))))),?_⟩
 refine rd (σ':=[some (.ref a),none,none]) rfl ?_;walk_at "run";refine⟨sz (by show 2≤1000;decide),λp hp=>.inl ⟨⟨_,SqL.of (z06 hp _ _ _ ha)⟩,?_⟩⟩
 have s0:=z06 hp (.tup [.int 0,.int 1]);refine z3w (xs:=xs) (λi σ H'=>Same H H'/\∃(v:V) (r:Int×Int) (t:Option V),σ = [some (.ref a),some v,t]/\Is K H' v (z2b r.1 r.2)/\FV M r (Xs.take i).sum) ⟨s0,.ref p,(0,1),_,rfl,is_frac.mpr ⟨p,rfl,z01⟩,FV.zero⟩ ?_ ?_ ?_
 ·rintro i σ H' _ ⟨hs,_⟩;exact SqL.of (hs _ _ ha)
 ·rintro i x σ H' hx' ⟨hs,v,r,t,rfl,hv,fv⟩;obtain⟨pp,b,hpp,rfl,hb⟩:=z4q al hx';obtain⟨X,hX,fX,bX⟩:=f.get hpp;obtain⟨b1,b2⟩:=fv.bd f.hM f.bM ((zgm f.bX (by omega) i).le (by decide))
  obtain⟨b3,b4⟩:=fX.bd f.hM f.bM (bX.le (by decide))
  walk_at "run";refine⟨_,_,r.1,r.2,pp.1,pp.2,rfl,hv,is_frac.mpr ⟨b,rfl,hs _ _ hb⟩,fv.1.1,fX.1.1,fv.1.2,fX.1.2,b1.le (by decide),b2.le (by decide),b3.le (by decide),b4.le (by decide),λn' e' f1 f2 f3 v' H1 s1 hv'=>?_⟩
  refine⟨hs.trans s1,v',(n',e'),_,rfl,hv',?_⟩;rw[z0l hX,zju];exact fv.plus fX f1 f2 f3
 ·rintro σ H' ⟨hs,v,r,t,rfl,hv,fv⟩;walk_at "run";rw[y07 (by omega)] at fv
  exact q r fv _ _ hs hv
noncomputable abbrev z1m:Stmt:=top 24
theorem sc_loads_of_shares:FnScope ["doers","many","shares","shares_at","hands","row","hand","share"] ["doers","many","shares"] (z04 z1m):=⟨rfl,rfl,rfl,by decide +kernel,rfl,by decide +kernel,by decide +kernel⟩
theorem z61 (T:Top K mg "loads_of_shares" z1m ["doers","many","shares"])(B:Blt mg)(bo:Def P w K mg base "sum_of_parts" 3 ["parts"] (zdm K)):Def P w K mg base "loads_of_shares" 4 ["doers","many","shares"] (z8i K):=by
 refine z1e (k:=3) T sc_loads_of_shares (λvs H Q E h=>?_) (λf cdv A outer s H vs Q E hr h=>?_)
 ·obtain⟨ad,as,many,drs,R,rfl,_⟩:=h;rfl
 obtain⟨ad,as,many,drs,R,rfl,idd,is,ok,q⟩:=h;obtain⟨_,rs,e0,hda,hrs⟩:=is_list.mp idd;cases e0;obtain⟨_,ss,e0,hsa,hss⟩:=is_list.mp is;cases e0;have rsl:rs.length=drs.length:=by rw[z0c hrs,y04]
 have ssl:ss.length=drs.length:=by rw[z0c hss,y04,ok.sh.len]
 have len:=ok.sh.len;have few:=ok.sh.few
 have m20:=ok.m20;refine⟨_,(z02 (z8h (N:=["hand"]) (fr:=[]) 3 1 sc_loads_of_shares.nd (zf7 B.range (z00 (cv 1) z03)) (λC hN=>by exact pgC ((z0b 0 hN)) (by walk_at "c")) (λC hN=>by exact peC ((z1p z03)) (by walk_at "c")))
   (z02 (z1z (z4z B.zip (cv 0) (cv 2)) (z5k (z0b 4 sc_loads_of_shares.nd) (z0b 5 sc_loads_of_shares.nd))
   (z07 (z1z (z4z B.zip (cv 4) (cv 5)) (z5k (z0b 6 sc_loads_of_shares.nd) (z0b 7 sc_loads_of_shares.nd))
    (z07 (z22 (z1b (z0j z0k (cv 3) (cv 6) (λ_ _=>rfl)) (z00 (cv 7) z03)))))))
   (z07 (z0n (z2t (N:=["parts"]) (fr:=[]) 1 (z1i (cv 3)) (λC hN=>by exact pgC ((z0b 0 hN)) (by walk_at "c")) (λC hN=>by exact peC ((z0f bo (hr.mono (by decide)) (z00 (cv 0) z03))) (by walk_at "c"))))))),?_⟩
 refine rd (σ':=[some (.ref ad),some (.int (many:Int)),some (.ref as),none,none,none,none,none]) rfl ?_;walk_at "run";refine⟨⟨by omega,by omega⟩,?_⟩
 rw[show((many:Int)).toNat=many by omega]
 refine cgo (σ':=[none]) rfl ?_;refine z6u (λj ys H1=>∃rv ap,ys=rv.map V.ref/\Rw K H H1 rv ap (y08 j [])/\rv.length=j/\∀r∈rv,H r=none) ⟨[],[],rfl,⟨by simp,rfl,rfl,λi r v h=>(by simp at h),λb o h=>(by unfold z64;simpa using h),λi v d h=>(by simp at h)⟩,rfl,λr h=>(by cases h)⟩ (z0h (by omega)) ?_ ?_ ?_
 ·rintro j ys H1 _ ⟨rv,ap,rfl,g,rl,_⟩;rw[y04];omega
 ·rintro j ys H1 hj ⟨rv,ap,rfl,g,rl,rn⟩;walk_at "run";refine z6m ⟨sz (by show 0≤1000;decide),λl1 hl1=>?_⟩
  have g1:=g.snoc hl1 (v:=[]) (d:=[]) z0p;refine CNx.mk ⟨rv ++ [l1],ap ++ [[]],by rw[y0f];rfl,?_,by rw[y0c,rl];rfl,λr hr'=>?_⟩ hj
  ·rw[List.replicate_succ'];exact g1
  ·rcases y0z.mp hr' with z | z
   ·exact rn r z
   ·rw[y0e.mp z];exact z2v g.same hl1
 rintro ys H1 ⟨rv,ap,rfl,g,rl,rn⟩ l hl;have f1:=z06 hl (.lst (rv.map V.ref));have lrv:l ∉ rv:=λz=>by
  obtain⟨v,hv⟩:=g.here z;rw[hl] at hv;cases hv
 have g2:=(g.more f1).rebase;have sB:Same H (z64 (upd H1 l (.lst (rv.map V.ref))) rv):=(g.more f1).old
 have kb:z64 (upd H1 l (.lst (rv.map V.ref))) rv l=some (.lst (rv.map V.ref)):=by rw[za4 lrv];exact z01
 generalize upd H1 l (.lst (rv.map V.ref))=H2 at g2 sB kb ⊢
 generalize z64 H2 rv=Hb at g2 sB kb;clear g f1 hl;have ds0:y08 many ([]:List PyData)=(y0d many).map λh=>(z0r (z20 (drs.take 0) (R.take 0)) h).map λp=>z2b p.1 p.2:=by
  refine y2u λi=>?_;rw[y1a,y05]
  by_cases c:i<many
  ·rw[if_pos c,y1d c];simp[z20,z0r]
  ·rw[if_neg c,y0w (by rw[y1z];omega)]
   rfl
 rw[ds0] at g2;walk_at "run";refine⟨false,false,⟨_,SqL.of (g2.same _ _ (sB _ _ hda))⟩,⟨_,SqL.of (g2.same _ _ (sB _ _ hsa))⟩,?_⟩;refine z84 (xs:=rs) (ys:=ss) drs.length (by rw[rsl,ssl,y40]) (λi σ' H'=>∃t4 t5 t6 t7 ap,σ' = [some (.ref ad),some (.int (many:Int)),some (.ref as),some (.ref l),t4,t5,t6,t7]/\Rw K Hb H' rv ap ((y0d many).map λh=>(z0r (z20 (drs.take i) (R.take i)) h).map λp=>z2b p.1 p.2)) ⟨_,_,_,_,ap,rfl,g2⟩ ?_ ?_ ?_
 ·rintro i σ' H' _ ⟨t4,t5,t6,t7,ap,rfl,g⟩;exact⟨SqL.of (g.same _ _ (sB _ _ hda)),SqL.of (g.same _ _ (sB _ _ hsa))⟩
 ·rintro i x y σ' H' pt hx hy ⟨t4,t5,t6,t7,ap,rfl,g⟩ hpt;have hi:=(y00.mp hx).1;have hr1:drs[i]?=some (drs[i]'(by omega)):=y01 _
  have hs1:R[i]?=some (R[i]'(by omega)):=y01 _
  generalize drs[i]'(by omega)=r at hr1
  generalize R[i]'(by omega)=s at hs1
  obtain⟨ra,hra1,hra⟩:=z32 hrs hr1;rw[hx] at hra1;cases hra1;obtain⟨y',hy1,iy⟩:=z0z hss (show(R.map z1v)[i]?=some (z1v s) by rw[y05,hs1];rfl)
  rw[hy] at hy1;cases hy1;obtain⟨sa,sv,rfl,hsa1,hsv⟩:=is_list.mp iy;obtain⟨sr,rlen,rlt⟩:=ok.sh.row i r s hr1 hs1;have svl:sv.length=r.length:=by rw[z0c hsv,y04,sr]
  have sT:=z06 hpt (.tup [.ref ra,.ref sa]);have g1:=g.more sT
  have kT:=z01 (H:=H') (a:=pt) (o:=.tup [.ref ra,.ref sa]);generalize upd H' pt (.tup [.ref ra,.ref sa])=H3 at g1 kT ⊢
  have sH:=sB;walk_at "run";refine⟨_,_,SqT.of kT,?_⟩;walk_at "run";refine⟨false,false,⟨_,SqL.of (g1.same _ _ (sB _ _ hra))⟩,⟨_,SqL.of (g1.same _ _ (sB _ _ hsa1))⟩,?_⟩;refine z84 (xs:=z09 r) (ys:=sv) r.length (by rw[z0i,svl,y40]) (λj σ' H'=>∃t6 t7 ap,σ' = [some (.ref ad),some (.int (many:Int)),some (.ref as),some (.ref l),some (.ref ra),some (.ref sa),t6,t7]/\Rw K Hb H' rv ap ((y0d many).map λh=>(z0r (z20 (drs.take i) (R.take i)++(r.zip s).take j) h).map λp=>z2b p.1 p.2)) ⟨_,_,_,rfl,by simpa using g1⟩ ?_ ?_ ?_
  ·rintro j σ' H' _ ⟨t6,t7,ap,rfl,g⟩;exact⟨SqL.of (g.same _ _ (sB _ _ hra)),SqL.of (g.same _ _ (sB _ _ hsa1))⟩
  ·rintro j x y σ' H' pt hx hy ⟨t6,t7,ap,rfl,g⟩ hpt;obtain⟨h,hh,rfl⟩:=z2q hx;obtain⟨p,pa,hp,rfl,hpa⟩:=z4q (IsAll.same sB _ _ hsv) hy;have hlt:=rlt h (y02 hh);have zt:(r.zip s)[j]?=some (h,p):=(y0l (z:=(h,p))).mpr ⟨hh,hp⟩
   have sT:=z06 hpt (.tup [.int (h:Int),.ref pa]);have g1:=g.more sT
   have kT:=z01 (H:=H') (a:=pt) (o:=.tup [.int (h:Int),.ref pa]);generalize upd H' pt (.tup [.int (h:Int),.ref pa])=H4 at g1 kT ⊢
   have rx:rv[h]?=some (rv[h]'(by omega)):=y01 _
   generalize rv[h]'(by omega)=r0 at rx
   have vx:ap[h]?=some (ap[h]'(by rw[g1.len];omega)):=y01 _
   generalize ap[h]'(by rw[g1.len];omega)=v0 at vx
   generalize hL:z20 (drs.take i) (R.take i)++(r.zip s).take j=L1 at g1;have dx:((y0d many).map λh=>(z0r L1 h).map λp=>z2b p.1 p.2)[h]?=some ((z0r L1 h).map λp=>z2b p.1 p.2):=by rw[y05,y1d hlt];rfl
   have al0:=g1.all h v0 _ vx dx;have v0l:v0.length≤240:=by
    have fl:=zaa ok.sh i (by omega)
    have:(z0r L1 h).length≤L1.length:=by unfold z0r;rw[y04];exact y2x _ _
    rw[z0c al0,y04];refine y13 this ?_;rw[←hL,y0c,y0x,y2k];omega
   walk_at "run";refine⟨_,_,SqT.of kT,?_⟩;walk_at "run";refine⟨_,_,.inl (SqL.of (g1.same _ _ kb)),z0x (show(rv.map V.ref)[h]?=some (.ref r0) by rw[y05,rx];rfl),⟨_,g1.at_ h r0 v0 rx vx⟩,_,g1.at_ h r0 v0 rx vx,z0h (by omega),?_⟩
   refine⟨_,_,ap.set h (v0 ++ [.ref pa]),rfl,?_⟩;have g3:=g1.set rx vx (z1l al0 (Is.same g1.old _ _ (is_frac.mpr ⟨pa,rfl,hpa⟩)));have e:((y0d many).map λg=>(z0r (z20 (drs.take i) (R.take i)++(r.zip s).take (j+1)) g).map λp=>z2b p.1 p.2)=((y0d many).map λh=>(z0r L1 h).map λp=>z2b p.1 p.2).set h ((z0r L1 h).map (λp=>z2b p.1 p.2) ++ [z2b p.1 p.2]):=by
    rw[z0l zt,←y33,hL];refine y2u λg=>?_
    by_cases c:g=h
    ·rw[c,y0q (by rw[y04,y1z];exact hlt),y05,y1d hlt]
     show some ((z0r (L1 ++ [(h,p)]) h).map λp=>z2b p.1 p.2)=_;rw[z7h,if_pos rfl,y0f];rfl
    ·rw[y10 (λz=>c z.symm),y05,y05]
     by_cases m:g<many
     ·rw[y1d m];show some ((z0r (L1 ++ [(h,p)]) g).map λp=>z2b p.1 p.2)=_;rw[z7h,if_neg (λz=>c z.symm),y2i];rfl
     ·rw[y0w (by rw[y1z];omega)]
      rfl
   rw[e];exact g3
  ·rintro σ' H' ⟨t6,t7,ap,rfl,g⟩;rw[show(r.zip s).take r.length=r.zip s from y07 (by rw[y2k];omega),←z6g hr1 hs1] at g
   exact⟨_,_,_,_,ap,rfl,g⟩
 rintro σ' H' ⟨t4,t5,t6,t7,ap,rfl,g⟩;rw[show drs.take drs.length=drs from y07 (y09 _),show R.take drs.length=R from y07 (by omega)] at g
 walk_at "run";refine .inl ⟨⟨_,SqL.of (g.same _ _ kb)⟩,?_⟩;refine cgo (σ':=[none]) rfl ?_;have sq0:=g.same _ _ kb;refine z1c (xs:=rv.map V.ref) (λi ys H2=>Same H' H2/\∃qs:List (Int×Int),ys.length=i/\qs.length=i/\IsAll K H2 ys (qs.map λp=>z2b p.1 p.2)/\LdB M0 (z20 drs R) qs) ⟨Same.refl _,[],rfl,rfl,z0p,λh q z=>(by simp at z)⟩ (z0h (by rw[y04];omega)) ?_ ?_ ?_
 ·rintro i ys H2 _ ⟨s2,qs,yl,_⟩;exact⟨SqL.of (s2 _ _ sq0),by omega⟩
 ·rintro i x ys H2 hx ⟨s2,qs,yl,ql,al,ld⟩;rw[y05] at hx;obtain⟨r0,hr0,rfl⟩:=y2r.mp hx;have hi:=(y00.mp hr0).1;have vx:ap[i]?=some (ap[i]'(by rw[g.len];exact hi)):=y01 _
  generalize ap[i]'(by rw[g.len];exact hi)=v0 at vx
  have kr:=s2 _ _ (g.at_ i r0 v0 hr0 vx);have dx:((y0d many).map λh=>(z0r (z20 drs R) h).map λp=>z2b p.1 p.2)[i]?=some ((z0r (z20 drs R) i).map λp=>z2b p.1 p.2):=by rw[y05,y1d (by omega)];rfl
  have al0:=g.all i v0 _ vx dx;walk_at "run";refine z6m ⟨_,z0r (z20 drs R) i,_,M0,rfl,is_list.mpr ⟨_,_,rfl,kr,IsAll.same s2 _ _ (IsAll.same z9y _ _ al0)⟩,zbd ok i,λp fv v H3 s3 hv=>?_⟩;refine CNx.mk ⟨s2.trans s3,qs ++ [p],by rw[y0c,yl];rfl,by rw[y0c,ql];rfl,?_,?_⟩ (by rw[y04];exact hi)
  ·rw[y0f];exact z1l (IsAll.same s3 _ _ al) hv
  ·intro h q hq;rcases z3b hq with z | ⟨z,rfl⟩
   ·exact ld h q z
   ·rw[z,ql];have f2:=fv.2;rw[zbn] at f2;exact⟨fv.1,f2⟩
 ·rintro ys H2 ⟨s2,qs,yl,ql,al,ld⟩ l2 hl2;have s3:=z06 hl2 (.lst ys);refine q l2 ys qs _ (by rw[ql,y04,rl]) ld (z2v (sB.trans (g.same.trans s2)) hl2) (sB.trans (g.same.trans (s2.trans s3))) z01 (IsAll.same s3 _ _ al)
noncomputable abbrev z59:Stmt:=top 29
theorem zhp:FnScope ["_law_found"] ["_law_found"] (z04 z59):=⟨rfl,rfl,rfl,by decide +kernel,rfl,by decide +kernel,by decide +kernel⟩
theorem zi2 (T:Top K mg "_law_whole" z59 ["_law_found"])(B:Blt mg) :Def P w K mg base "_law_whole" 1 ["_law_found"] (z3u):=by
 refine z1e (k:=0) T zhp (λvs H Q E h=>?_) (λf cdv A outer s H vs Q E hr h=>?_)
 ·unfold z3u at h
  split at h
  ·rfl
  ·rfl
  ·exact h.elim
 refine⟨_,(z07 (z0n (zb4 (z45 z23 B.isinstance z21 (z00 (cv 0) (z00 (zcz B.int zlc) z03))) (z81 (zl6 (z45 z23 B.isinstance z21 (z00 (cv 0) (z00 (zcz B.bool zfv) z03)))))))),?_⟩;unfold z3u at h
 split at h
 ·rename_i z;refine rd (σ':=[some (.int z)]) rfl ?_;walk_at "run";exact⟨by decide,z6m ⟨by decide,h⟩⟩
 ·rename_i z;refine rd (σ':=[some (.bl z)]) rfl ?_;walk_at "run";exact⟨by decide,z6m ⟨by decide,h⟩⟩
 ·exact h.elim
noncomputable abbrev z28:Stmt:=top 31
theorem z90:FnScope ["_law_found"] ["_law_found"] (z04 z28):=⟨rfl,rfl,rfl,by decide +kernel,rfl,by decide +kernel,by decide +kernel⟩
theorem z87 (T:Top K mg "_law_is_fraction" z28 ["_law_found"])(B:Blt mg)(bq:Def P w K mg base "_law_whole" 1 ["_law_found"] (z3u))(aX:Def P w K mg base "_law_divisor" 1 ["_law_one","_law_other"] (spG)):Def P w K mg base "_law_is_fraction" 2 ["_law_found"] (ze6 K):=by
 refine z1e (k:=1) T z90 (λvs H Q E h=>?_) (λf cdv A outer s H vs Q E hr h=>?_)
 ·obtain⟨x,n,d,rfl,_⟩:=h;rfl
 obtain⟨x,n,d,rfl,hx,hd,hg,q⟩:=h;obtain⟨a,rfl,ha⟩:=is_frac.mp hx;have hT:SqT K H a [.int n,.int d]:=SqT.of ha;refine⟨_,(z02 (z2x (z80 (z46 (z3c (z45 z23 B.isinstance z21 (z00 (cv 0) (z00 (zcz B.tuple zdy) z03))))) (z8o (z0s zqb (z45 z29 B.len y19 (z00 (cv 0) z03)) z05 (z0o _)))).pt
   (z07 (z0n zcm))
   z1h)
   (z02 (z2x (z80 (z46 (z3c (z0f bq (hr.mono (by decide)) (z00 (z0j z0k (cv 0) z05 (λ_ _=>rfl)) z03)))) (z80 (z46 (z3c (z0f bq (hr.mono (by decide)) (z00 (z0j z0k (cv 0) z05 (λ_ _=>rfl)) z03)))) (z8o (z0s z7k (z0j z0k (cv 0) z05 (λ_ _=>rfl)) z05 (z0o _))))).pt
   (z07 (z0n zcm))
   z1h)
   (z07 (z0n (z3k z4y (z0f aX (hr.mono (by decide)) (z00 (z0j z0k (cv 0) z05 (λ_ _=>rfl)) (z00 (z0j z0k (cv 0) z05 (λ_ _=>rfl)) z03))) z05 (z0o _)))))),?_⟩
 refine rd (σ':=[some (.ref a)]) rfl ?_;walk_at "run";rw[ha];walk_at "run";refine⟨by decide,z7t ⟨_,.inr hT,zr8 rfl ⟨_,_,.inr hT,rfl,?_⟩⟩⟩
 walk_at "run";refine z7t ⟨_,_,.inr hT,rfl,?_⟩;walk_at "run";refine z7t ⟨_,_,.inr hT,rfl,?_⟩;walk_at "run";refine z3m (λc=>absurd (of_decide_eq_true c) (by omega)) (λ_=>⟨_,_,.inr hT,rfl,_,_,.inr hT,rfl,?_⟩)
 walk_at "run";rw[hg];exact q
noncomputable abbrev z5e:Stmt:=top 37
theorem zh0:FnScope ["_law_one","_law_other"] ["_law_one","_law_other"] (z04 z5e):=⟨rfl,rfl,rfl,by decide +kernel,rfl,by decide +kernel,by decide +kernel⟩
theorem zi6 (T:Top K mg "_law_below" z5e ["_law_one","_law_other"])(B:Blt mg) :Def P w K mg base "_law_below" 1 ["_law_one","_law_other"] (zg8 K):=by
 refine z1e (k:=0) T zh0 (λvs H Q E h=>?_) (λf cdv A outer s H vs Q E hr h=>?_)
 ·obtain⟨x,y,a,b,c,d,rfl,_⟩:=h;rfl
 obtain⟨x,y,a,b,c,d,rfl,hx,hy,ba,bb,bc,bd,q⟩:=h;obtain⟨p,rfl,hp0⟩:=is_frac.mp hx;obtain⟨r,rfl,hr0⟩:=is_frac.mp hy;have hp:SqT K H p _:=SqT.of hp0;have hr':SqT K H r _:=SqT.of hr0
 refine⟨_,(z07 (z0n (z3k z7k (z0m z2j (z0j z0k (cv 0) z05 (λ_ _=>rfl)) (z0j z0k (cv 1) z05 (λ_ _=>rfl))) (z0m z2j (z0j z0k (cv 1) z05 (λ_ _=>rfl)) (z0j z0k (cv 0) z05 (λ_ _=>rfl))) (z0o _)))),?_⟩;refine rd (σ':=[some (.ref p),some (.ref r)]) rfl ?_;walk_at "run";exact⟨_,_,.inr hp,rfl,_,_,.inr hr',rfl,z5i ba bd (by decide),_,_,.inr hr',rfl,_,_,.inr hp,rfl,z5i bc bb (by decide),q⟩
noncomputable abbrev z4m:Stmt:=top 43
theorem sc_Lunrest:FnScope ["_law_doers","_law_shares_here","_law_loads","_law_chore","_law_one","_law_share","_law_other"] ["_law_doers","_law_shares_here","_law_loads"] (z04 z4m):=⟨rfl,rfl,rfl,by decide +kernel,rfl,by decide +kernel,by decide +kernel⟩
theorem zf6 (T:Top K mg "_law_unrest" z4m ["_law_doers","_law_shares_here","_law_loads"])(B:Blt mg)(b8:Def P w K mg base "_law_below" 1 ["_law_one","_law_other"] (zg8 K)):Def P w K mg base "_law_unrest" 2 ["_law_doers","_law_shares_here","_law_loads"] (zba K):=by
 refine z1e (k:=1) T sc_Lunrest (λvs H Q E h=>?_) (λf cdv A outer s H vs Q E hr h=>?_)
 ·obtain⟨ad,as,al,many,drs,R,qs,rfl,_⟩:=h;rfl
 obtain⟨ad,as,al,many,drs,R,qs,rfl,idd,is,il,ok,ql,ld,q⟩:=h;obtain⟨_,rs,e0,hda,hrs⟩:=is_list.mp idd;cases e0;obtain⟨_,ss,e0,hsa,hss⟩:=is_list.mp is;cases e0;obtain⟨_,ls,e0,hla,hls⟩:=is_list.mp il;cases e0;have rsl:rs.length=drs.length:=by rw[z0c hrs,y04]
 have ssl:ss.length=drs.length:=by rw[z0c hss,y04,ok.sh.len]
 have lsl:ls.length=many:=by rw[z0c hls,y04,ql]
 have len:=ok.sh.len;have few:=ok.sh.few
 have m20:=ok.m20;refine⟨_,(z02 (z1z (zf7 B.range (z00 (z45 z29 B.len y19 (z00 (cv 0) z03)) z03)) (z0b 3 sc_Lunrest.nd)
   (z07 (z1z (z1i (z0j z0k (cv 0) (cv 3) (λ_ _=>rfl))) (z0b 4 sc_Lunrest.nd)
    (z02 (z0d 5 sc_Lunrest.nd (z0j z0k (z0j z0k (cv 1) (cv 3) (λ_ _=>rfl)) (z7i hr (z0j z0k (cv 0) (cv 3) (λ_ _=>rfl)) (z00 (cv 4) z03)) (λ_ _=>rfl)))
     (z07 (z1z (z1i (z0j z0k (cv 0) (cv 3) (λ_ _=>rfl))) (z0b 6 sc_Lunrest.nd)
     (z07 (z2x (z8p (z0s (zbv hr) (cv 5) (z2s (z00 z05 (z00 z05 z03))) (z0o _)) (z5l (z3c (z0f b8 (hr.mono (by decide)) (z00 (z0j z0k (cv 2) (cv 6) (λ_ _=>rfl)) (z00 (z0j z0k (cv 2) (cv 4) (λ_ _=>rfl)) z03)))))).pt
      (z07 (z0n (z2s (z00 (cv 3) (z00 (cv 4) (z00 (cv 6) z03))))))
      z1h))))))))
   (z07 (z0n zdg))),?_⟩
 refine rd (σ':=[some (.ref ad),some (.ref as),some (.ref al),none,none,none,none]) rfl ?_;walk_at "run";refine⟨_,.inl (SqL.of hda),?_⟩;rw[rsl];refine⟨⟨by omega,by omega⟩,?_⟩
 rw[show((drs.length:Nat):Int).toNat=drs.length by omega]
 refine z9v (λi σ' H'=>Same H H'/\∃t3 t4 t5 t6,σ' = [some (.ref ad),some (.ref as),some (.ref al),t3,t4,t5,t6]/\unC (ltQ qs) 0 (drs.zip R)=unC (ltQ qs) i ((drs.zip R).drop i)) ⟨Same.refl _,_,_,_,_,rfl,rfl⟩ ?_ ?_
 ·rintro i σ' H' hi ⟨e1,t3,t4,t5,t6,rfl,un⟩;rw[y31];have hr1:drs[i]?=some (drs[i]'(by omega)):=y01 _
  have hs1:R[i]?=some (R[i]'(by omega)):=y01 _
  generalize drs[i]'(by omega)=r at hr1
  generalize R[i]'(by omega)=s at hs1
  obtain⟨ra,hra1,hra⟩:=z32 hrs hr1;obtain⟨y',hy1,iy⟩:=z0z hss (show(R.map z1v)[i]?=some (z1v s) by rw[y05,hs1];rfl)
  obtain⟨sa,sv,rfl,hsa1,hsv⟩:=is_list.mp iy;obtain⟨sr,rlen,rlt⟩:=ok.sh.row i r s hr1 hs1;have nd:=ok.nd r (y02 hr1);have zc:(drs.zip R)[i]?=some (r,s):=(y0l (z:=(r,s))).mpr ⟨hr1,hs1⟩
  walk_at "run";refine⟨_,_,.inl (SqL.of (e1 _ _ hda)),z0x hra1,.inl ⟨⟨_,SqL.of (e1 _ _ hra)⟩,?_⟩⟩;refine z3w (xs:=z09 r) (λj σ' H'=>Same H H'/\∃t4 t5 t6,σ' = [some (.ref ad),some (.ref as),some (.ref al),some (.int (i:Int)),t4,t5,t6]/\unR (ltQ qs) r (r.zip s)=unR (ltQ qs) r ((r.zip s).drop j)) ⟨e1,_,_,_,rfl,rfl⟩ ?_ ?_ ?_
  ·rintro j σ' H' _ ⟨e1,_⟩;exact SqL.of (e1 _ _ hra)
  ·rintro j x σ' H' hx ⟨e1,t4,t5,t6,rfl,ur⟩;obtain⟨h,hh,rfl⟩:=z2q hx;have hj:=(y00.mp hh).1;have hs2:s[j]?=some (s[j]'(by omega)):=y01 _
   generalize s[j]'(by omega)=p at hs2
   have zr:(r.zip s)[j]?=some (h,p):=(y0l (z:=(h,p))).mpr ⟨hh,hs2⟩;obtain⟨pv,hpv,ip⟩:=z0z hsv (show(s.map λp=>z2b p.1 p.2)[j]?=some (z2b p.1 p.2) by rw[y05,hs2];rfl)
   have lp:=(ok.sh.ok s (y02 hs1) p (y02 hs2)).1;have np:=ok.nn s (y02 hs1) p (y02 hs2)
   have hlt:=rlt h (y02 hh);have qh:qs[h]?=some (qs[h]'(by omega)):=y01 _
   generalize qs[h]'(by omega)=qa at qh
   obtain⟨ha1,ha2,iqa⟩:=z0z hls (show(qs.map λp=>z2b p.1 p.2)[h]?=some (z2b qa.1 qa.2) by rw[y05,qh];rfl)
   obtain⟨_,ba1,ba2⟩:=LdB.bds ok ld qh;walk_at "run";refine⟨_,_,.inl (SqL.of (e1 _ _ hsa)),z0x hy1,_,_,.inl (SqL.of (e1 _ _ hda)),z0x hra1,⟨_,e1 _ _ hra⟩,r.map λ(n:Nat)=>(n:Int),by rw[y20];exact e1 _ _ hra,y1i.mpr ⟨h,y02 hh,rfl⟩,λk hk _=>?_⟩
   have kj:k=j:=by
    rw[y05] at hk;obtain⟨h',h1,h2⟩:=y2r.mp hk;have:h'=h:=by omega
    subst this;exact(y6x (y00.mp h1).1 nd).mp (h1.trans hh.symm)
   subst kj;refine⟨_,_,.inl (SqL.of (e1 _ _ hsa1)),z0x hpv,?_⟩;refine⟨_,_,.inl (SqL.of (e1 _ _ hda)),z0x hra1,.inl ⟨⟨_,SqL.of (e1 _ _ hra)⟩,?_⟩⟩;refine z3w (xs:=z09 r) (λm σ' H'=>Same H H'/\∃t6,σ' = [some (.ref ad),some (.ref as),some (.ref al),some (.int (i:Int)),some (.int (h:Int)),some pv,t6]/\(0<p.1->r.find? (λo=>ltQ qs o h)=(r.drop m).find? λo=>ltQ qs o h)) ⟨e1,_,rfl,λ_=>rfl⟩ ?_ ?_ ?_
   ·rintro m σ' H' _ ⟨e1,_⟩;exact SqL.of (e1 _ _ hra)
   ·rintro m x σ' H' hx ⟨e1,t6,rfl,fi⟩;obtain⟨o,ho,rfl⟩:=z2q hx;have olt:=rlt o (y02 ho);have qo:qs[o]?=some (qs[o]'(by omega)):=y01 _
    generalize qs[o]'(by omega)=qb at qo
    obtain⟨hb1,hb2,iqb⟩:=z0z hls (show(qs.map λp=>z2b p.1 p.2)[o]?=some (z2b qb.1 qb.2) by rw[y05,qo];rfl)
    obtain⟨_,bb1,bb2⟩:=LdB.bds ok ld qo;have eL:ltQ qs o h=decide (qb.1*qa.2<qa.1*qb.2):=by
     unfold ltQ;rw[y06,y06,qo,qh];rfl
    walk_at "run";refine⟨sz (by show 2≤1000;decide),λp1 hp1=>?_⟩
    have f1:=z06 hp1 (.tup [.int 0,.int 1]);have k1:=z01 (H:=H') (a:=p1) (o:=.tup [.int 0,.int 1])
    have e2:=e1.trans f1;generalize upd H' p1 (.tup [.int 0,.int 1])=H2 at k1 e2 ⊢
    refine⟨_,_,Is.same e2 _ _ ip,is_frac.mpr ⟨p1,rfl,k1⟩,zcu _ _,zcu _ _,?_⟩;rw[zdn,lp.nz np,Bool.not_not];refine z3m (λc=>?_) (λc=>?_)
    ·refine⟨_,_,.inl (SqL.of (e2 _ _ hla)),z0x hb2,_,_,.inl (SqL.of (e2 _ _ hla)),z0x ha2,_,_,qb.1,qb.2,qa.1,qa.2,rfl,Is.same e2 _ _ iqb,Is.same e2 _ _ iqa,bb1.le (by decide),bb2.le (by decide),ba1.le (by decide),ba2.le (by decide),?_⟩
     rw[←eL];walk_at "run";refine z3m (λc2=>?_) (λc2=>?_)
     ·refine⟨sz (by show 3≤1000;decide),λp3 hp3=>?_⟩
      have f3:=z06 hp3 (.tup [.int (i:Int),.int (h:Int),.int (o:Int)]);have fo:=fi (of_decide_eq_true c)
      rw[z6w ho,List.find?_cons_of_pos (p:=λo=>ltQ qs o h) c2] at fo;rw[un,zhh zc (by rw[ur];exact zge zr (of_decide_eq_true c) fo)] at q
      exact q _ _ (e2.trans f3) (is_tuple.mpr ⟨p3,_,rfl,z01,z31 [(i:Int),(h:Int),(o:Int)]⟩)
     ·refine⟨e2,_,rfl,λz=>?_⟩;rw[fi z,z6w ho,List.find?_cons_of_neg (p:=λo=>ltQ qs o h) c2]
    ·refine⟨e2,_,rfl,λz=>absurd (decide_eq_true z) c⟩
   ·rintro σ' H' ⟨e1,t6,rfl,fi⟩;rw[z0i,zk6] at fi;exact⟨e1,_,_,_,rfl,by rw[ur];exact zfw zr fi⟩
  ·rintro σ' H' ⟨e1,t4,t5,t6,rfl,ur⟩;rw[z0i,y21 (by rw[y2k];omega)] at ur
   exact⟨e1,_,_,_,_,rfl,by rw[un];exact zlb zc ur⟩
 ·rintro σ' H' ⟨e1,t3,t4,t5,t6,rfl,un⟩;rw[y21 (by rw[y2k];omega)] at un
  rw[un] at q;walk_at "run";exact q _ _ e1 (by show Is K H' V.non .none;simp only[Is])
noncomputable abbrev z1g:Stmt:=top 9
theorem sc_in_whole_numbers:FnScope ["parts","greatest"] ["parts"] (z04 z1g):=⟨rfl,rfl,rfl,by decide +kernel,rfl,by decide +kernel,by decide +kernel⟩
theorem z5x (T:Top K mg "in_whole_numbers" z1g ["parts"])(B:Blt mg) :Def P w K mg base "in_whole_numbers" 1 ["parts"] (zao K):=by
 refine z1e (k:=0) T sc_in_whole_numbers (λvs H Q E h=>?_) (λf cdv A outer s H vs Q E hr h=>?_)
 ·obtain⟨al,qs,rfl,_⟩:=h;rfl
 obtain⟨al,qs,rfl,hx,ne,few,bd,q⟩:=h;obtain⟨a,xs,e0,ha,al2⟩:=is_list.mp hx;cases e0;have hlen:xs.length=qs.length:=by simpa using z0c al2
 refine⟨_,(z02 (z0d 1 sc_in_whole_numbers.nd (zm5 B.max (z00 (z2t (N:=["part"]) (fr:=[]) 1 (z1i (cv 0)) (λC hN=>by exact pgC ((z0b 0 hN)) (by walk_at "c")) (λC hN=>by exact peC ((z0j z0k (cv 0) z05 (λ_ _=>rfl))) (by walk_at "c"))) z03) (zmb z05 zo1)))
   (z07 (z0n (z2t (N:=["part","greatest"]) (fr:=[1]) 1 (z1i (cv 0)) (λC hN=>by exact pgC ((z0b 0 hN)) (by walk_at "c")) (λC hN=>by exact peC ((z0m z2a (z0m z2j (z0m z2j (z0j z0k (cv 0) z05 (λ_ _=>rfl)) (cv 1)) (cv 1)) (z0j z0k (cv 0) z05 (λ_ _=>rfl)))) (by walk_at "c")))))),?_⟩
 refine rd (σ':=[some (.ref al),none]) rfl ?_;walk_at "run";refine .inl ⟨⟨_,SqL.of ha⟩,?_⟩;refine cgo (σ':=[none]) rfl ?_;refine z1c (xs:=xs) (λj ys H'=>H'=H/\ys=((qs.take j).map λp=>V.int p.2)) ⟨rfl,rfl⟩ (z0h (by omega)) ?_ ?_ ?_
 ·rintro j ys H' _ ⟨rfl,rfl⟩;exact⟨SqL.of ha,by rw[y04,y0x];omega⟩
 ·rintro j x ys H' hx' ⟨rfl,rfl⟩;have hj:=(y00.mp hx').1;obtain⟨p,pa,hp,rfl,hpa⟩:=z4q al2 hx';walk_at "run";refine z6m ⟨_,_,.inr (SqT.of hpa),rfl,?_⟩;refine CNx.mk ⟨rfl,?_⟩ hj;rw[z0l hp,y0f];rfl
 rintro ys H' ⟨rfl,rfl⟩ l1 hl1;rw[hlen,y07 (y09 _)];have f1:=z06 hl1 (.lst (qs.map λp=>V.int p.2));have k1:=z01 (H:=H') (a:=l1) (o:=.lst (qs.map λp=>V.int p.2))
 generalize upd H' l1 (.lst (qs.map λp=>V.int p.2))=H1 at f1 k1 ⊢
 walk_at "run";have ez:(qs.map λp=>V.int p.2)=(qs.map (·.2)).map V.int:=by rw[y20];rfl
 rw[ez] at k1;refine⟨qs.map (·.2),SqL.of k1,λz=>ne (y69.mp z),λG gm gmax=>.inl ⟨⟨_,SqL.of (f1 _ _ ha)⟩,?_⟩⟩;have bG:Bd 600 G/\1≤G:=by
  obtain⟨u,hu,rfl⟩:=y1i.mp gm;exact⟨(bd u hu).2.1,(bd u hu).1⟩
 have leG:∀u∈qs,u.2≤G:=λu hu=>gmax _ (List.mem_map_of_mem hu);refine cgo (σ':=[none,some (.int G)]) rfl ?_;refine z1c (xs:=xs) (λj ys H2=>H2=H1/\ys=((qs.take j).map λp=>V.int ((p.1*G*G).fdiv p.2))) ⟨rfl,rfl⟩ (z0h (by omega)) ?_ ?_ ?_
 ·rintro j ys H2 _ ⟨rfl,rfl⟩;exact⟨SqL.of (f1 _ _ ha),by rw[y04,y0x];omega⟩
 ·rintro j x ys H2 hx' ⟨rfl,rfl⟩;have hj:=(y00.mp hx').1;obtain⟨p,pa,hp,rfl,hpa⟩:=z4q al2 hx';replace hpa:=f1 _ _ hpa;obtain⟨p1,p2,p3⟩:=bd p (y02 hp);have bb:=p3.mul bG.1
  walk_at "run";refine z6m ⟨_,_,.inr (SqT.of hpa),rfl,z5i p3 bG.1 (by decide),z5i bb bG.1 (by decide),_,_,.inr (SqT.of hpa),rfl,by omega,zle (n:=600) p2 (by decide) (by omega),?_⟩
  refine CNx.mk ⟨rfl,?_⟩ hj;rw[z0l hp,y0f];rfl
 rintro ys H2 ⟨rfl,rfl⟩ l2 hl2;rw[hlen,y07 (y09 _)];have f2:=z06 hl2 (.lst (qs.map λp=>V.int ((p.1*G*G).fdiv p.2)));refine q l2 (qs.map λp=>(p.1*G*G).fdiv p.2) _ ⟨y04 ..,λi j p r a b hp hr' ha' hb'=>?_⟩ (f1.trans f2) (by rw[y20];exact z01)
 rw[y05,hp] at ha';rw[y05,hr'] at hb';cases ha';cases hb';have mp:=y02 hp;have mr:=y02 hr'
 exact zhd (bd p mp).1 (bd r mr).1 (leG p mp) (leG r mr)
noncomputable abbrev z39:Stmt:=top 25
theorem sc_unrest_of:FnScope ["doers","many","shares","heights","chore","hands","one","share","lower"] ["doers","many","shares"] (z04 z39):=⟨rfl,rfl,rfl,by decide +kernel,rfl,by decide +kernel,by decide +kernel⟩
theorem zak (T:Top K mg "unrest_of" z39 ["doers","many","shares"])(B:Blt mg)(aQ:Def P w K mg base "in_whole_numbers" 1 ["parts"] (zao K))(aC:Def P w K mg base "loads_of_shares" 4 ["doers","many","shares"] (z8i K)):Def P w K mg base "unrest_of" 5 ["doers","many","shares"] (zdi K):=by
 refine z1e (k:=4) T sc_unrest_of (λvs H Q E h=>?_) (λf cdv A outer s H vs Q E hr h=>?_)
 ·obtain⟨ad,as,many,drs,R,rfl,_⟩:=h;rfl
 obtain⟨ad,as,many,drs,R,rfl,idd,is,ok,m0,q⟩:=h;obtain⟨_,rs,e0,hda,hrs⟩:=is_list.mp idd;cases e0;obtain⟨_,ss,e0,hsa,hss⟩:=is_list.mp is;cases e0;have rsl:rs.length=drs.length:=by rw[z0c hrs,y04]
 have ssl:ss.length=drs.length:=by rw[z0c hss,y04,ok.sh.len]
 have len:=ok.sh.len;have few:=ok.sh.few
 have m20:=ok.m20;refine⟨_,(z02 (z0d 3 sc_unrest_of.nd (z0f aQ (hr.mono (by decide)) (z00 (z0f aC (hr.mono (by decide)) (z00 (cv 0) (z00 (cv 1) (z00 (cv 2) z03)))) z03)))
   (z02 (z1z (z71 B.enumerate (cv 0)) (z5k (z0b 4 sc_unrest_of.nd) (z0b 5 sc_unrest_of.nd))
   (z07 (z1z (z4z B.zip (cv 5) (z0j z0k (cv 2) (cv 4) (λ_ _=>rfl))) (z5k (z0b 6 sc_unrest_of.nd) (z0b 7 sc_unrest_of.nd))
    (z02 (zgg (N:=["other","heights","one"]) (fr:=[3,6]) 8 1 sc_unrest_of.nd (z1i (cv 5)) (λC hN=>by exact pgC ((z0b 0 hN)) (by walk_at "c")) (λC hN=>by exact ptC ((z0s z7k (z0j z0k (cv 1) (cv 0) (λ_ _=>rfl)) (z0j z0k (cv 1) (cv 2) (λ_ _=>rfl)) (z0o _))) (by walk_at "c")) (λC hN=>by exact peC ((cv 0)) (by walk_at "c")))
     (z07 (z2x (z8p (z0s z6e (z0j z0k (cv 7) z05 (λ_ _=>rfl)) z05 (z0o _)) (z5l (z0s z6e (z45 z29 B.len y19 (z00 (cv 8) z03)) z05 (z0o _)))).pt
     (z07 (z0n (z2s (z00 (cv 4) (z00 (cv 6) (z00 (z0j z0k (cv 8) z05 (λ_ _=>rfl)) z03))))))
     z1h))))))
   (z07 (z0n zdg)))),?_⟩
 refine rd (σ':=[some (.ref ad),some (.int (many:Int)),some (.ref as),none,none,none,none,none,none]) rfl ?_;walk_at "run";refine⟨ad,as,many,drs,R,rfl,idd,is,ok,λl vs qs H1 ql ld hl s1 hl1 al=>?_⟩;refine⟨l,qs,rfl,is_list.mpr ⟨l,vs,rfl,hl1,al⟩,λz=>by rw[z] at ql;exact absurd ql (by show 0≠many;omega),by omega,λu hu=>?_,λlh hs H2 ht s2 hlh=>?_⟩
 ·obtain⟨i,hi⟩:=y0a hu;obtain⟨lo,b1,b2⟩:=LdB.bds ok ld hi;exact⟨lo.1,b2,b1⟩
 replace q:=q qs ql ld;have sH:=s1.trans s2;walk_at "run";have hsl:hs.length=many:=by rw[ht.1,ql]
 refine⟨⟨_,SqL.of (sH _ _ hda)⟩,?_⟩;refine za3 (xs:=rs) (λi σ' H'=>Same H2 H'/\∃t4 t5 t6 t7 t8,σ' = [some (.ref ad),some (.int (many:Int)),some (.ref as),some (.ref lh),t4,t5,t6,t7,t8]/\unC (ltQ qs) 0 (drs.zip R)=unC (ltQ qs) i ((drs.zip R).drop i)) ⟨Same.refl _,_,_,_,_,_,rfl,rfl⟩ ?_ ?_ ?_
 ·rintro i σ' H' _ ⟨e1,_⟩;exact SqL.of ((sH.trans e1) _ _ hda)
 ·rintro i x σ' H' pt hx ⟨e1,t4,t5,t6,t7,t8,rfl,un⟩ hpt;have hi:=(y00.mp hx).1;have hr1:drs[i]?=some (drs[i]'(by omega)):=y01 _
  have hs1:R[i]?=some (R[i]'(by omega)):=y01 _
  generalize drs[i]'(by omega)=r at hr1
  generalize R[i]'(by omega)=s at hs1
  obtain⟨ra,hra1,hra⟩:=z32 hrs hr1;rw[hx] at hra1;cases hra1;obtain⟨y',hy1,iy⟩:=z0z hss (show(R.map z1v)[i]?=some (z1v s) by rw[y05,hs1];rfl)
  obtain⟨sa,sv,rfl,hsa1,hsv⟩:=is_list.mp iy;obtain⟨sr,rlen,rlt⟩:=ok.sh.row i r s hr1 hs1;have svl:sv.length=r.length:=by rw[z0c hsv,y04,sr]
  have zc:(drs.zip R)[i]?=some (r,s):=(y0l (z:=(r,s))).mpr ⟨hr1,hs1⟩;have sT:=z06 hpt (.tup [.int (i:Int),.ref ra])
  have kT:=z01 (H:=H') (a:=pt) (o:=.tup [.int (i:Int),.ref ra]);have e2:=e1.trans sT
  generalize upd H' pt (.tup [.int (i:Int),.ref ra])=H3 at kT e2 ⊢
  walk_at "run";refine⟨_,_,SqT.of kT,?_⟩;walk_at "run";refine⟨_,_,.inl (SqL.of ((sH.trans e2) _ _ hsa)),z0x hy1,false,false,⟨_,SqL.of ((sH.trans e2) _ _ hra)⟩,⟨_,SqL.of ((sH.trans e2) _ _ hsa1)⟩,?_⟩;refine z84 (xs:=z09 r) (ys:=sv) r.length (by rw[z0i,svl,y40]) (λj σ' H'=>Same H2 H'/\∃t6 t7 t8,σ' = [some (.ref ad),some (.int (many:Int)),some (.ref as),some (.ref lh),some (.int (i:Int)),some (.ref ra),t6,t7,t8]/\unR (ltQ qs) r (r.zip s)=unR (ltQ qs) r ((r.zip s).drop j)) ⟨e2,_,_,_,rfl,rfl⟩ ?_ ?_ ?_
  ·rintro j σ' H' _ ⟨e1,_⟩;exact⟨SqL.of ((sH.trans e1) _ _ hra),SqL.of ((sH.trans e1) _ _ hsa1)⟩
  ·rintro j x y σ' H' pt hx hy ⟨e1,t6,t7,t8,rfl,ur⟩ hpt;obtain⟨h,hh,rfl⟩:=z2q hx;obtain⟨p,pa,hp,rfl,hpa⟩:=z4q (IsAll.same sH _ _ hsv) hy;have zr:(r.zip s)[j]?=some (h,p):=(y0l (z:=(h,p))).mpr ⟨hh,hp⟩;have hlt:=rlt h (y02 hh)
   have qh:qs[h]?=some (qs[h]'(by omega)):=y01 _
   generalize qs[h]'(by omega)=qa at qh
   have gh:hs[h]?=some (hs[h]'(by omega)):=y01 _
   generalize hs[h]'(by omega)=ga at gh
   have eL:∀o∈r,∃b,hs[o]?=some b/\ltQ qs o h=decide (b<ga):=λo ho=>by
    have olt:=rlt o ho;have qo:qs[o]?=some (qs[o]'(by omega)):=y01 _
    have go:hs[o]?=some (hs[o]'(by omega)):=y01 _
    refine⟨_,go,?_⟩;unfold ltQ;rw[y06,y06,qo,qh];exact decide_eq_decide.mpr (ht.2 o h _ qa _ ga qo qh go gh).symm
   have sT:=z06 hpt (.tup [.int (h:Int),.ref pa]);have kT:=z01 (H:=H') (a:=pt) (o:=.tup [.int (h:Int),.ref pa])
   have e2:=e1.trans sT;generalize upd H' pt (.tup [.int (h:Int),.ref pa])=H4 at kT e2 ⊢
   have kh:=e2 _ _ hlh;walk_at "run";refine⟨_,_,SqT.of kT,?_⟩;walk_at "run";refine .inl ⟨⟨_,SqL.of ((sH.trans e2) _ _ hra)⟩,?_⟩;refine cgo (σ':=[none,some (.ref lh),some (.int (h:Int))]) rfl ?_;refine z1c (xs:=z09 r) (λk ys H5=>H5=H4/\ys=z09 ((r.take k).filter λo=>ltQ qs o h)) ⟨rfl,rfl⟩ (z0h (by rw[z0i];omega)) ?_ ?_ ?_
   ·rintro k ys H5 hk ⟨rfl,rfl⟩;refine⟨SqL.of ((sH.trans e2) _ _ hra),?_⟩;rw[z0i];exact y13 (y2x _ _) (by rw[y0x];omega)
   ·rintro k x ys H5 hx ⟨rfl,rfl⟩;obtain⟨o,ho,rfl⟩:=z2q hx;have hk:=(y00.mp hx).1;obtain⟨b,hb,eb⟩:=eL o (y02 ho);walk_at "run";refine⟨_,_,.inl (SqL.of kh),z0x (show(hs.map V.int)[o]?=some (.int b) by rw[y05,hb];rfl),_,_,.inl (SqL.of kh),z0x (show(hs.map V.int)[h]?=some (.int ga) by rw[y05,gh];rfl),?_⟩
    walk_at "run";rw[←eb];refine z3m (λc=>CNx.mk ⟨rfl,?_⟩ hk) (λc=>CNx.mk ⟨rfl,?_⟩ hk)
    ·rw[z0l ho,y2g,List.filter_cons_of_pos (p:=λo=>ltQ qs o h) c];exact zb8 _ _
    ·rw[z0l ho,y2g,List.filter_cons_of_neg (p:=λo=>ltQ qs o h) c,y62,y2i]
   rintro ys H5 ⟨rfl,rfl⟩ l5 hl5;rw[z0i,y07 (y09 _)];have f5:=z06 hl5 (.lst (z09 (r.filter λo=>ltQ qs o h)));have k5:=z01 (H:=H5) (a:=l5) (o:=.lst (z09 (r.filter λo=>ltQ qs o h)))
   have e3:=e2.trans f5;generalize upd H5 l5 (.lst (z09 (r.filter λo=>ltQ qs o h)))=H6 at k5 e3 ⊢
   walk_at "run";refine⟨_,_,.inr (SqT.of (e3 _ _ hpa)),rfl,?_⟩;walk_at "run";refine z3m (λc=>?_) (λc=>?_)
   ·refine⟨_,.inl (SqL.of k5),?_⟩;rw[z0i];have pp:0<p.1:=of_decide_eq_true c;cases hf:r.filter λo=>ltQ qs o h with
    | nil =>
     refine z7t ⟨e3,_,_,_,rfl,?_⟩;rw[ur];refine zfw zr λ_=>?_;rw[y6m];intro o ho z;have:o∈r.filter λo=>ltQ qs o h:=y12.mpr ⟨ho,z⟩;rw[hf] at this;cases this
    | cons o t =>
     refine z3m (λ_=>?_) (λc3=>absurd (decide_eq_true (show(0:Int)<(((o::t).length:Nat):Int) by rw[y1f];omega)) c3)
     rw[hf] at k5;refine⟨_,_,.inl (SqL.of k5),z0x (j:=0) rfl,sz (by show 3≤1000;decide),λp3 hp3=>?_⟩
     have f3:=z06 hp3 (.tup [.int (i:Int),.int (h:Int),.int (o:Int)]);have fo:r.find? (λo=>ltQ qs o h)=some o:=by
      rw[←List.head?_filter,hf];rfl
     rw[un,zhh zc (by rw[ur];exact zge zr pp fo)] at q
     exact q _ _ ((sH.trans e3).trans f3) (is_tuple.mpr ⟨p3,_,rfl,z01,z31 [(i:Int),(h:Int),(o:Int)]⟩)
   ·refine⟨e3,_,_,_,rfl,?_⟩;rw[ur];exact zfw zr λz=>absurd (decide_eq_true z) c
  ·rintro σ' H' ⟨e1,t6,t7,t8,rfl,ur⟩;rw[y21 (by rw[y2k];omega)] at ur
   exact⟨e1,_,_,_,_,_,rfl,by rw[un];exact zlb zc ur⟩
 ·rintro σ' H' ⟨e1,t4,t5,t6,t7,t8,rfl,un⟩;rw[rsl,y21 (by rw[y2k];omega)] at un
  rw[un] at q;walk_at "run";exact q _ _ (sH.trans e1) (by show Is K H' V.non .none;simp only[Is])
noncomputable abbrev zgh:Stmt:=top 44
theorem sc_law:FnScope ["_law_script","_law_works","_law_doers","_law_many","_law_shares_here","_law_loads","_law_handed","_law_found","_law_due","_law_told"] ["_law_script"] (z04 zgh):=⟨rfl,rfl,rfl,by decide +kernel,rfl,by decide +kernel,by decide +kernel⟩
theorem zox {f:Addr}{fd:FuncData}(U:Fun K "law" "law" zgh f fd)(B:Blt mg)(b9:Def P w K mg base "_law_crowd" 3 ["_law_script"] (zgn K))(bY:Def P w K mg base "_law_shares" 12 ["_law_script","_law_works","_law_doers","_law_many"] (zai K))(D_Lbear:Def P w K mg base "_law_bear" 4 ["_law_doers","_law_many","_law_shares_here"] (zl2 K))(aC:Def P w K mg base "loads_of_shares" 4 ["doers","many","shares"] (z8i K))(bn:Def P w K mg base "_law_is_fraction" 2 ["_law_found"] (ze6 K))(bZ:Def P w K mg base "_law_unrest" 2 ["_law_doers","_law_shares_here","_law_loads"] (zba K))(bE:Def P w K mg base "unrest_of" 5 ["doers","many","shares"] (zdi K))(bq:Def P w K mg base "_law_whole" 1 ["_law_found"] (z3u)):FnOk P w K mg base CX0 13 f fd ["_law_script"] (zf0 K):=by
 refine U.ok sc_law (λvs H Q E h=>?_) (λcdv A outer s H vs Q E hr h=>?_)
 ·obtain⟨a,ns,rfl,_⟩:=h;rfl
 obtain⟨a,ns,rfl,hS,hlen,q⟩:=h;refine⟨_,(z02 (z9j (z0f b9 (hr.mono (by decide)) (z00 (cv 0) z03)) (zqy (z0b 1 sc_law.nd) (z0b 2 sc_law.nd) (z0b 3 sc_law.nd)))
   (z02 (z0d 4 sc_law.nd (z0f bY (hr.mono (by decide)) (z00 (cv 0) (z00 (cv 1) (z00 (cv 2) (z00 (cv 3) z03))))))
   (z02 (z0d 5 sc_law.nd (z0f D_Lbear (hr.mono (by decide)) (z00 (cv 2) (z00 (cv 3) (z00 (cv 4) z03)))))
   (z02 (z0d 6 sc_law.nd (z1p (z00 (z2t (N:=["_law_row_here"]) (fr:=[]) 1 (z1i (cv 2)) (λC hN=>by exact pgC ((z0b 0 hN)) (by walk_at "c")) (λC hN=>by exact peC ((znq z8f B.list z5n (z00 (cv 0) z03))) (by walk_at "c"))) (z00 (z2t (N:=["_law_some"]) (fr:=[]) 1 (z1i (cv 4)) (λC hN=>by exact pgC ((z0b 0 hN)) (by walk_at "c")) (λC hN=>by exact peC ((znq z8f B.list z5n (z00 (cv 0) z03))) (by walk_at "c"))) z03))))
   (z02 (z0d 7 sc_law.nd (z0f aC (hr.mono (by decide)) (z00 (z0j z0k (cv 6) z05 (λ_ _=>rfl)) (z00 (cv 3) (z00 (z0j z0k (cv 6) z05 (λ_ _=>rfl)) z03)))))
   (z02 (z9u (z2x (z80 (z46 (z3c (z45 z23 B.isinstance z21 (z00 (cv 7) (z00 (zcz B.list z5n) z03))))) (z80 (z0s (zbv hr) (cv 7) (cv 5) (z0o _)) (z8o (z0s (zbv hr) (z49 (N:=["_law_one"]) (fr:=[]) 1 (z1i (cv 7)) (λC hN=>by exact pgC ((z0b 0 hN)) (by walk_at "c")) (λC hN=>by exact ptC ((z46 (z3c (z0f bn (hr.mono (by decide)) (z00 (cv 0) z03))))) (by walk_at "c")) (λC hN=>by exact peC ((cv 0)) (by walk_at "c"))) (z1p z03) (z0o _))))).pt
   (z07 (z0n zcm))
   z1h))
   (z02 (z0d 8 sc_law.nd (z0f bZ (hr.mono (by decide)) (z00 (cv 2) (z00 (cv 4) (z00 (cv 5) z03)))))
   (z02 (z0d 9 sc_law.nd (z0f bE (hr.mono (by decide)) (z00 (z0j z0k (cv 6) z05 (λ_ _=>rfl)) (z00 (cv 3) (z00 (z0j z0k (cv 6) z05 (λ_ _=>rfl)) z03)))))
   (z02 (z9u (z2x (z0s zqq (cv 8) zdg (z0o _))
   (z07 (z2x (z0s zkr (cv 9) zdg (z0o _))
    (z07 (z0n zcm))
    z1h))
   (z07 (z2x (z80 (z46 (z3c (z45 z23 B.isinstance z21 (z00 (cv 9) (z00 (zcz B.tuple zdy) z03))))) (z80 (z0s (zbv hr) (cv 9) (cv 8) (z0o _)) (z8o (z0s (zbv hr) (z49 (N:=["_law_one"]) (fr:=[]) 1 (z1i (cv 9)) (λC hN=>by exact pgC ((z0b 0 hN)) (by walk_at "c")) (λC hN=>by exact ptC ((z46 (z3c (z0f bq (hr.mono (by decide)) (z00 (cv 0) z03))))) (by walk_at "c")) (λC hN=>by exact peC ((cv 0)) (by walk_at "c"))) (z1p z03) (z0o _))))).pt
    (z07 (z0n zcm))
    z1h))))
   (z02 (z22 (zco (cv 7)))
   (z07 (z0n (zb4 (z3k (zdj hr) (cv 6) (z1p (z00 (cv 2) (z00 (cv 4) z03))) (z0o _)) (z81 (z3k (zdj hr) (z0f aC (hr.mono (by decide)) (z00 (z0j z0k (cv 6) z05 (λ_ _=>rfl)) (z00 (cv 3) (z00 (z0j z0k (cv 6) z05 (λ_ _=>rfl)) z03)))) (cv 5) (z0o _)))))))))))))))),?_⟩
 refine rd (σ':=[some (.ref a),none,none,none,none,none,none,none,none,none]) rfl ?_;walk_at "run";refine⟨a,ns,rfl,hS,hlen,λp aw ad ws drs many H1 cr s1 kp=>?_⟩;walk_at "run";refine⟨_,_,_,SqT.of kp,?_⟩;have few:=cr.few;have h12:=cr.h12
 have h0:=cr.h0;have dl:=cr.ask.len
 walk_at "run";refine⟨a,aw,ad,ns,ws,drs,many,rfl,s1.seq hS,hlen,cr,λR rt vR H2 s2 isR=>?_⟩;replace cr:=cr.same s2;have sS:=s1.trans s2;clear kp s1 s2;obtain⟨as,rw,rfl,hsa,hss⟩:=is_list.mp isR;obtain⟨_,rs,e0,hda,hrs⟩:=is_list.mp cr.ask.d;cases e0;have rsl:rs.length=drs.length:=by rw[z0c hrs,y04]
 have ssl:rw.length=drs.length:=by rw[z0c hss,y04,rt.sh.len]
 walk_at "run";refine⟨ad,as,many,drs,R,M0,rfl,cr.ask.d,isR,rt.sh,by omega,λoq ol ob vo H3 s3 iso=>?_⟩
 obtain⟨lo,lv,rfl,hlo,hlv⟩:=is_list.mp iso;replace hda:=s3 _ _ hda;replace hrs:=IsAll.same s3 _ _ hrs;replace hsa:=s3 _ _ hsa;replace hss:=IsAll.same s3 _ _ hss;clear cr isR sS s3;walk_at "run";refine .inl ⟨⟨_,SqL.of hda⟩,?_⟩;refine cgo (σ':=[none]) rfl ?_;refine zej hda hrs (by omega) λbd ys H4 s4 kd ad4=>?_
 walk_at "run";refine .inl ⟨⟨_,SqL.of (s4 _ _ hsa)⟩,?_⟩;refine cgo (σ':=[none]) rfl ?_;refine zg6 (s4 _ _ hsa) (IsAll.same s4 _ _ hss) (by rw[rt.sh.len];omega) λbs zs H5 s5 ks as5=>?_
 refine⟨sz (by show 2≤1000;decide),λlh hlh=>?_⟩
 have f6:=z06 hlh (.lst [.ref bd,.ref bs]);have kh:=z01 (H:=H5) (a:=lh) (o:=.lst [.ref bd,.ref bs])
 have i1:Is K (upd H5 lh (.lst [.ref bd,.ref bs])) (.ref bd) (z3z drs):=is_list.mpr ⟨bd,ys,rfl,(s5.trans f6) _ _ kd,IsAll.same (s5.trans f6) _ _ ad4⟩;have i2:Is K (upd H5 lh (.lst [.ref bd,.ref bs])) (.ref bs) (.list (R.map z1v)):=is_list.mpr ⟨bs,zs,rfl,f6 _ _ ks,IsAll.same f6 _ _ as5⟩
 have s6:=s4.trans (s5.trans f6);have iD:Is K (upd H5 lh (.lst [.ref bd,.ref bs])) (.ref ad) (z3z drs):=is_list.mpr ⟨ad,rs,rfl,s6 _ _ hda,IsAll.same s6 _ _ hrs⟩
 have iS:Is K (upd H5 lh (.lst [.ref bd,.ref bs])) (.ref as) (.list (R.map z1v)):=is_list.mpr ⟨as,rw,rfl,s6 _ _ hsa,IsAll.same s6 _ _ hss⟩;have iL:Is K (upd H5 lh (.lst [.ref bd,.ref bs])) (.ref lo) (z1v oq):=is_list.mpr ⟨lo,lv,rfl,s6 _ _ hlo,IsAll.same s6 _ _ hlv⟩
 generalize upd H5 lh (.lst [.ref bd,.ref bs])=H6 at kh i1 i2 iD iS iL ⊢
 clear f6 hlh s4 s5 s6 kd ad4 ks as5 hda hrs hsa hss hlo hlv iso;refine⟨_,_,.inl (SqL.of kh),rfl,_,_,.inl (SqL.of kh),rfl,bd,bs,many,drs,R,rfl,i1,i2,rt,λlf fv qs H7 ql ld fn s7 kf alf=>?_⟩;cases LdB.uniq z86 ld ob (ql.trans ol.symm);have fvl:fv.length=many:=by rw[z0c alf,y04,ql]
 refine⟨fun σ' H'=>Same H7 H'/\σ' = [some (.ref a),some (.ref aw),some (.ref ad),some (.int (many:Int)),some (.ref as),some (.ref lo),some (.ref lh),some (.ref lf),none,none],?_,?_⟩
 ·walk_at "run";rw[kf];walk_at "run";refine⟨by decide,z7t ⟨z1v oq,z1v oq,is_list.mpr ⟨lf,fv,rfl,kf,alf⟩,Is.same s7 _ _ iL,z4s (n:=58) _,z4s (n:=58) _,?_⟩⟩
  rw[z58 (z4s (n:=58) _)];refine z7t (.inl ⟨⟨_,SqL.of kf⟩,?_⟩);refine cgo (σ':=[none]) rfl ?_;refine z1c (xs:=fv) (λj ys H'=>H'=H7/\ys = []) ⟨rfl,rfl⟩ (z0h (by omega)) ?_ ?_ ?_
  ·rintro j ys H' _ ⟨rfl,rfl⟩;exact⟨SqL.of kf,y2d _⟩
  ·rintro j x ys H' hx ⟨rfl,rfl⟩;have hj:=(y00.mp hx).1;obtain⟨p,pa,hp,rfl,hpa⟩:=z4q alf hx;have lp:=(ld j p hp).1
   walk_at "run";refine⟨_,p.1,p.2,rfl,is_frac.mpr ⟨pa,rfl,hpa⟩,lp.1,lp.2,?_⟩;walk_at "run";exact z7t (CNx.mk ⟨rfl,rfl⟩ hj)
  rintro ys H' ⟨rfl,rfl⟩ l1 hl1;have f1:=z06 hl1 (.lst []);refine⟨sz (by show 0≤1000;decide),λl2 hl2=>?_⟩
  have f2:=z06 hl2 (.lst []);refine⟨_,_,is_list.mpr ⟨l1,[],rfl,f2 _ _ z01,z0p⟩,is_list.mpr ⟨l2,[],rfl,z01,z0p⟩,z3j (n:=59) λd hd=>(by cases hd),z3j (n:=59) λd hd=>(by cases hd),?_⟩
  rw[z9x];exact z7t ⟨f1.trans f2,rfl⟩
 rintro σ' H8 ⟨s8,rfl⟩;have s68:=s7.trans s8;walk_at "run";refine⟨ad,as,lo,many,drs,R,oq,rfl,Is.same s68 _ _ iD,Is.same s68 _ _ iS,Is.same s68 _ _ iL,rt,ql,ld,λvd H9 s9 isd=>?_⟩;walk_at "run";have kh9:=(s68.trans s9) _ _ kh
 refine⟨_,_,.inl (SqL.of kh9),rfl,_,_,.inl (SqL.of kh9),rfl,bd,bs,many,drs,R,rfl,Is.same (s68.trans s9) _ _ i1,Is.same (s68.trans s9) _ _ i2,rt,h0,λqs' ql' ld' vt H10 s10 ist=>?_⟩;cases LdB.uniq z86 ld' ob (ql'.trans ol.symm);have kf10:=(s8.trans (s9.trans s10)) _ _ kf;have s610:=s68.trans (s9.trans s10)
 replace isd:=Is.same s10 _ _ isd;generalize hu:unC (ltQ oq) 0 (drs.zip R)=un at isd ist;refine⟨fun σ' H'=>Same H10 H'/\σ' = [some (.ref a),some (.ref aw),some (.ref ad),some (.int (many:Int)),some (.ref as),some (.ref lo),some (.ref lh),some (.ref lf),some vd,some vt],?_,?_⟩
 ·cases un with
  | none =>
   have e1:vd = .non:=by simpa only[unV,Is] using isd
   have e2:vt = .non:=by simpa only[unV,Is] using ist
   subst e1 e2;walk_at "run";exact z6m (z7t ⟨Same.refl _,rfl⟩)
  | some x =>
   obtain⟨x1,x2,x3⟩:=x;have shT:Sh 60 (unV (some (x1,x2,x3))):=zdh (n:=59) λd hd=>by
    rcases y0m.mp hd with rfl | hd
    ·exact z6l _
    rcases y0m.mp hd with rfl | hd
    ·exact z6l _
    rw[y0e.mp hd];exact z6l _
   obtain⟨td,xd,rfl,htd,hxd⟩:=is_tuple.mp isd;obtain⟨tt,xt,rfl,htt,hxt⟩:=is_tuple.mp ist;walk_at "run";refine z7t ?_;rw[htt];walk_at "run";refine⟨by decide,z7t ⟨_,_,ist,isd,shT,shT,?_⟩⟩
   rw[z58 shT];refine z7t (.inr ⟨⟨_,SqT.of htt⟩,?_⟩);refine cgo (σ':=[none]) rfl ?_;have xtl:xt.length=3:=z0c hxt;refine zkl (xs:=xt) (λj ys H'=>H'=H10/\ys = []) ⟨rfl,rfl⟩ (z0h (by omega)) ?_ ?_ ?_
   ·rintro j ys H' _ ⟨rfl,rfl⟩;exact⟨SqT.of htt,y2d _⟩
   ·rintro j x ys H' hx ⟨rfl,rfl⟩;have hj:=(y00.mp hx).1;have xi:∃i:Int,x = .int i:=by
     have dj:∃y:Int,[PyData.int (x1:Int),.int (x2:Int),.int (x3:Int)][j]?=some (.int y):=by
      rcases j with _ | _ | _ | j
      ·exact⟨_,rfl⟩
      ·exact⟨_,rfl⟩
      ·exact⟨_,rfl⟩
      ·omega
     obtain⟨y,hy⟩:=dj;obtain⟨x',hx',ix⟩:=z0z hxt hy;rw[hx] at hx';cases hx';exact⟨y,by simpa only[Is] using ix⟩
    obtain⟨i,rfl⟩:=xi;walk_at "run";exact z7t (CNx.mk ⟨rfl,rfl⟩ hj)
   rintro ys H' ⟨rfl,rfl⟩ l1 hl1;have f1:=z06 hl1 (.lst []);refine⟨sz (by show 0≤1000;decide),λl2 hl2=>?_⟩
   have f2:=z06 hl2 (.lst []);refine⟨_,_,is_list.mpr ⟨l1,[],rfl,f2 _ _ z01,z0p⟩,is_list.mpr ⟨l2,[],rfl,z01,z0p⟩,z3j (n:=59) λd hd=>(by cases hd),z3j (n:=59) λd hd=>(by cases hd),?_⟩
   rw[z9x];exact z7t ⟨f1.trans f2,rfl⟩
 rintro σ' H11 ⟨s11,rfl⟩;walk_at "run";refine⟨_,s11 _ _ kf10,?_⟩;have sC:Same H6 (upd H11 lf (.lst [])):=λb o hb=>by
  rw[z0a (z08 hb fn)];exact(s610.trans s11) _ _ hb
 generalize upd H11 lf (.lst [])=H12 at sC ⊢
 walk_at "run";refine⟨sz (by show 2≤1000;decide),λle hle=>?_⟩
 have f13:=z06 hle (.lst [.ref ad,.ref as]);have k13:=z01 (H:=H12) (a:=le) (o:=.lst [.ref ad,.ref as])
 replace sC:=sC.trans f13;generalize upd H12 le (.lst [.ref ad,.ref as])=H13 at sC k13 ⊢
 refine⟨.list [z3z drs,.list (R.map z1v)],.list [z3z drs,.list (R.map z1v)],is_list.mpr ⟨lh,_,rfl,sC _ _ kh,z1o (Is.same sC _ _ i1) (z50 (Is.same sC _ _ i2))⟩,is_list.mpr ⟨le,_,rfl,k13,z1o (Is.same sC _ _ iD) (z50 (Is.same sC _ _ iS))⟩,ziy (n:=56) _ _,ziy (n:=56) _ _,?_⟩;rw[z58 (ziy (n:=56) _ _)];have kh13:=sC _ _ kh;refine z6m ⟨_,_,.inl (SqL.of kh13),rfl,_,_,.inl (SqL.of kh13),rfl,bd,bs,many,drs,R,rfl,Is.same sC _ _ i1,Is.same sC _ _ i2,rt,λlg gv gs H14 gl lg2 _ s14 kg alg=>?_⟩;cases LdB.uniq z86 lg2 ob (gl.trans ol.symm);refine⟨z1v oq,z1v oq,is_list.mpr ⟨lg,gv,rfl,kg,alg⟩,Is.same (sC.trans s14) _ _ iL,z4s (n:=58) _,z4s (n:=58) _,?_⟩;rw[z58 (z4s (n:=58) _)];exact q _
end
theorem ln1 {α:Type}:∀{us:List α},us.length=1->∃x0,us = [x0]
 | [x0],_=>⟨x0,rfl⟩
theorem ln2 {α:Type}:∀{us:List α},us.length=2->∃x0 x1,us = [x0,x1]
 | [x0,x1],_=>⟨x0,x1,rfl⟩
theorem ln3 {α:Type}:∀{us:List α},us.length=3->∃x0 x1 x2,us = [x0,x1,x2]
 | [x0,x1,x2],_=>⟨x0,x1,x2,rfl⟩
theorem ln4 {α:Type}:∀{us:List α},us.length=4->∃x0 x1 x2 x3,us = [x0,x1,x2,x3]
 | [x0,x1,x2,x3],_=>⟨x0,x1,x2,x3,rfl⟩
theorem ln5 {α:Type}:∀{us:List α},us.length=5->∃x0 x1 x2 x3 x4,us = [x0,x1,x2,x3,x4]
 | [x0,x1,x2,x3,x4],_=>⟨x0,x1,x2,x3,x4,rfl⟩
theorem all_mk {l:y4u}{w:World}{K:y03}{h:Heap}{mg:Str->Option Value}{fa f1 f2 f3 f4 f5 f6 f7 f8 f9 f10 f11 f12 f13 f14 f15 f16 f17 f18 f19 f20 f21 f22 f23 f24 f25 f26 f27 f28 f29 f30 f31 f32 f33 f34 f35 f36 f37 f38 f39 f40 f41 f42 f43 f44 f45 f46 f47 f48 f49 aj:Addr}(X:K.In h)(G:h.Ns mainGlobals mg)(hfa:mg "law"=some (.ref fa))
  {od1 an1 od2 an2 od3 an3 od4 an4 od5 an5 od6 an6 od7 an7 od8 an8 od9 an9 od10 an10 od11 an11 od12 an12 od13 an13 od14 an14 od15 an15 od16 an16 od17 an17 od18 an18 od19 an19 od20 an20 od21 an21 od22 an22 od23 an23 od24 an24 od25 an25 od26 an26 od27 an27 od28 an28 od29 an29 od30 an30 od31 an31 od32 an32 od33 an33 od34 an34 od35 an35 od36 an36 od37 an37 od38 an38 od39 an39 od40 an40 od41 an41 od42 an42 od43 an43 od44 an44 od45 an45 od46 an46 od47 an47 od48 an48 od49 an49:Option Addr} {sl1 sl2 sl3 sl4 sl5 sl6 sl7 sl8 sl9 sl10 sl11 sl12 sl13 sl14 sl15 sl16 sl17 sl18 sl19 sl20 sl21 sl22 sl23 sl24 sl25 sl26 sl27 sl28 sl29 sl30 sl31 sl32 sl33 sl34 sl35 sl36 sl37 sl38 sl39 sl40 sl41 sl42 sl43 sl44 sl45 sl46 sl47 sl48 sl49:Array (Option Value)} {oc1 kV1 dc1 pm1 cd1 ct1 oc2 kV2 dc2 pm2 cd2 ct2 oc3 kV3 dc3 pm3 cd3 ct3 oc4 kV4 dc4 pm4 cd4 ct4 oc5 kV5 dc5 pm5 cd5 ct5 oc6 kV6 dc6 pm6 cd6 ct6 oc7 kV7 dc7 pm7 cd7 ct7 oc8 kV8 dc8 pm8 cd8 ct8 oc9 kV9 dc9 pm9 cd9 ct9 oc10 kV10 dc10 pm10 cd10 ct10 oc11 kV11 dc11 pm11 cd11 ct11 oc12 kV12 dc12 pm12 cd12 ct12 oc13 kV13 dc13 pm13 cd13 ct13 oc14 kV14 dc14 pm14 cd14 ct14 oc15 kV15 dc15 pm15 cd15 ct15 oc16 kV16 dc16 pm16 cd16 ct16 oc17 kV17 dc17 pm17 cd17 ct17 oc18 kV18 dc18 pm18 cd18 ct18 oc19 kV19 dc19 pm19 cd19 ct19 oc20 kV20 dc20 pm20 cd20 ct20 oc21 kV21 dc21 pm21 cd21 ct21 oc22 kV22 dc22 pm22 cd22 ct22 oc23 kV23 dc23 pm23 cd23 ct23 oc24 kV24 dc24 pm24 cd24 ct24 oc25 kV25 dc25 pm25 cd25 ct25 oc26 kV26 dc26 pm26 cd26 ct26 oc27 kV27 dc27 pm27 cd27 ct27 oc28 kV28 dc28 pm28 cd28 ct28 oc29 kV29 dc29 pm29 cd29 ct29 oc30 kV30 dc30 pm30 cd30 ct30 oc31 kV31 dc31 pm31 cd31 ct31 oc32 kV32 dc32 pm32 cd32 ct32 oc33 kV33 dc33 pm33 cd33 ct33 oc34 kV34 dc34 pm34 cd34 ct34 oc35 kV35 dc35 pm35 cd35 ct35 oc36 kV36 dc36 pm36 cd36 ct36 oc37 kV37 dc37 pm37 cd37 ct37 oc38 kV38 dc38 pm38 cd38 ct38 oc39 kV39 dc39 pm39 cd39 ct39 oc40 kV40 dc40 pm40 cd40 ct40 oc41 kV41 dc41 pm41 cd41 ct41 oc42 kV42 dc42 pm42 cd42 ct42 oc43 kV43 dc43 pm43 cd43 ct43 oc44 kV44 dc44 pm44 cd44 ct44 oc45 kV45 dc45 pm45 cd45 ct45 oc46 kV46 dc46 pm46 cd46 ct46 oc47 kV47 dc47 pm47 cd47 ct47 oc48 kV48 dc48 pm48 cd48 ct48 oc49 kV49 dc49 pm49 cd49 ct49:Value}
  (a1:y0k K mainGlobals "_law_mixed"=some (some (.ref f1))) (l1:K.lookup f1=some ⟨oc1,od1,.func (y0j "_law_mixed" "_law_mixed" (z0g z5d) (z0e z5d) (z04 z5d) .none kV1 dc1 pm1 an1 cd1 ct1),sl1⟩) (c1:y0i K cd1 "_law_mixed"=true) (k1:y0g K (.ref f1)=true)
  (a2:y0k K mainGlobals "_law_cell_at"=some (some (.ref f2))) (l2:K.lookup f2=some ⟨oc2,od2,.func (y0j "_law_cell_at" "_law_cell_at" (z0g z3r) (z0e z3r) (z04 z3r) .none kV2 dc2 pm2 an2 cd2 ct2),sl2⟩) (c2:y0i K cd2 "_law_cell_at"=true) (k2:y0g K (.ref f2)=true)
  (a3:y0k K mainGlobals "_law_row"=some (some (.ref f3))) (l3:K.lookup f3=some ⟨oc3,od3,.func (y0j "_law_row" "_law_row" (z0g z9g) (z0e z9g) (z04 z9g) .none kV3 dc3 pm3 an3 cd3 ct3),sl3⟩) (c3:y0i K cd3 "_law_row"=true) (k3:y0g K (.ref f3)=true)
  (a4:y0k K mainGlobals "_law_work"=some (some (.ref f4))) (l4:K.lookup f4=some ⟨oc4,od4,.func (y0j "_law_work" "_law_work" (z0g z6r) (z0e z6r) (z04 z6r) .none kV4 dc4 pm4 an4 cd4 ct4),sl4⟩) (c4:y0i K cd4 "_law_work"=true) (k4:y0g K (.ref f4)=true)
  (a5:y0k K mainGlobals "_law_crowd"=some (some (.ref f5))) (l5:K.lookup f5=some ⟨oc5,od5,.func (y0j "_law_crowd" "_law_crowd" (z0g z5c) (z0e z5c) (z04 z5c) .none kV5 dc5 pm5 an5 cd5 ct5),sl5⟩) (c5:y0i K cd5 "_law_crowd"=true) (k5:y0g K (.ref f5)=true)
  (a6:y0k K mainGlobals "_law_divisor"=some (some (.ref f6))) (l6:K.lookup f6=some ⟨oc6,od6,.func (y0j "_law_divisor" "_law_divisor" (z0g z3s) (z0e z3s) (z04 z3s) .none kV6 dc6 pm6 an6 cd6 ct6),sl6⟩) (c6:y0i K cd6 "_law_divisor"=true) (k6:y0g K (.ref f6)=true)
  (a7:y0k K mainGlobals "_law_lowest"=some (some (.ref f7))) (l7:K.lookup f7=some ⟨oc7,od7,.func (y0j "_law_lowest" "_law_lowest" (z0g z4f) (z0e z4f) (z04 z4f) .none kV7 dc7 pm7 an7 cd7 ct7),sl7⟩) (c7:y0i K cd7 "_law_lowest"=true) (k7:y0g K (.ref f7)=true)
  (a8:y0k K mainGlobals "_law_small"=some (some (.ref f8))) (l8:K.lookup f8=some ⟨oc8,od8,.func (y0j "_law_small" "_law_small" (z0g z5a) (z0e z5a) (z04 z5a) .none kV8 dc8 pm8 an8 cd8 ct8),sl8⟩) (c8:y0i K cd8 "_law_small"=true) (k8:y0g K (.ref f8)=true)
  (a9:y0k K mainGlobals "_law_far"=some (some (.ref f9))) (l9:K.lookup f9=some ⟨oc9,od9,.func (y0j "_law_far" "_law_far" (z0g z9f) (z0e z9f) (z04 z9f) .none kV9 dc9 pm9 an9 cd9 ct9),sl9⟩) (c9:y0i K cd9 "_law_far"=true) (k9:y0g K (.ref f9)=true)
  (a10:y0k K mainGlobals "_law_drawn"=some (some (.ref f10))) (l10:K.lookup f10=some ⟨oc10,od10,.func (y0j "_law_drawn" "_law_drawn" (z0g z5f) (z0e z5f) (z04 z5f) .none kV10 dc10 pm10 an10 cd10 ct10),sl10⟩) (c10:y0i K cd10 "_law_drawn"=true) (k10:y0g K (.ref f10)=true)
  (a11:y0k K mainGlobals "pour_more"=some (some (.ref f11))) (l11:K.lookup f11=some ⟨oc11,od11,.func (y0j "pour_more" "pour_more" (z0g z2z) (z0e z2z) (z04 z2z) .none kV11 dc11 pm11 an11 cd11 ct11),sl11⟩) (c11:y0i K cd11 "pour_more"=true) (k11:y0g K (.ref f11)=true)
  (a12:y0k K mainGlobals "pour_all"=some (some (.ref f12))) (l12:K.lookup f12=some ⟨oc12,od12,.func (y0j "pour_all" "pour_all" (z0g z3p) (z0e z3p) (z04 z3p) .none kV12 dc12 pm12 an12 cd12 ct12),sl12⟩) (c12:y0i K cd12 "pour_all"=true) (k12:y0g K (.ref f12)=true)
  (a13:y0k K mainGlobals "ties_in"=some (some (.ref f13))) (l13:K.lookup f13=some ⟨oc13,od13,.func (y0j "ties_in" "ties_in" (z0g z4d) (z0e z4d) (z04 z4d) .none kV13 dc13 pm13 an13 cd13 ct13),sl13⟩) (c13:y0i K cd13 "ties_in"=true) (k13:y0g K (.ref f13)=true)
  (a14:y0k K mainGlobals "work_in"=some (some (.ref f14))) (l14:K.lookup f14=some ⟨oc14,od14,.func (y0j "work_in" "work_in" (z0g z4h) (z0e z4h) (z04 z4h) .none kV14 dc14 pm14 an14 cd14 ct14),sl14⟩) (c14:y0i K cd14 "work_in"=true) (k14:y0g K (.ref f14)=true)
  (a15:y0k K mainGlobals "pour_in"=some (some (.ref f15))) (l15:K.lookup f15=some ⟨oc15,od15,.func (y0j "pour_in" "pour_in" (z0g z48) (z0e z48) (z04 z48) .none kV15 dc15 pm15 an15 cd15 ct15),sl15⟩) (c15:y0i K cd15 "pour_in"=true) (k15:y0g K (.ref f15)=true)
  (a16:y0k K mainGlobals "chosen"=some (some (.ref f16))) (l16:K.lookup f16=some ⟨oc16,od16,.func (y0j "chosen" "chosen" (z0g z5h) (z0e z5h) (z04 z5h) .none kV16 dc16 pm16 an16 cd16 ct16),sl16⟩) (c16:y0i K cd16 "chosen"=true) (k16:y0g K (.ref f16)=true)
  (a17:y0k K mainGlobals "crowds_by"=some (some (.ref f17))) (l17:K.lookup f17=some ⟨oc17,od17,.func (y0j "crowds_by" "crowds_by" (z0g z34) (z0e z34) (z04 z34) .none kV17 dc17 pm17 an17 cd17 ct17),sl17⟩) (c17:y0i K cd17 "crowds_by"=true) (k17:y0g K (.ref f17)=true)
  (a18:y0k K mainGlobals "is_whole"=some (some (.ref f18))) (l18:K.lookup f18=some ⟨oc18,od18,.func (y0j "is_whole" "is_whole" (z0g z3q) (z0e z3q) (z04 z3q) .none kV18 dc18 pm18 an18 cd18 ct18),sl18⟩) (c18:y0i K cd18 "is_whole"=true) (k18:y0g K (.ref f18)=true)
  (a19:y0k K mainGlobals "divisor_of"=some (some (.ref f19))) (l19:K.lookup f19=some ⟨oc19,od19,.func (y0j "divisor_of" "divisor_of" (z0g z2n) (z0e z2n) (z04 z2n) .none kV19 dc19 pm19 an19 cd19 ct19),sl19⟩) (c19:y0i K cd19 "divisor_of"=true) (k19:y0g K (.ref f19)=true)
  (a20:y0k K mainGlobals "part_of"=some (some (.ref f20))) (l20:K.lookup f20=some ⟨oc20,od20,.func (y0j "part_of" "part_of" (z0g z4b) (z0e z4b) (z04 z4b) .none kV20 dc20 pm20 an20 cd20 ct20),sl20⟩) (c20:y0i K cd20 "part_of"=true) (k20:y0g K (.ref f20)=true)
  (a21:y0k K mainGlobals "shares_in"=some (some (.ref f21))) (l21:K.lookup f21=some ⟨oc21,od21,.func (y0j "shares_in" "shares_in" (z0g z35) (z0e z35) (z04 z35) .none kV21 dc21 pm21 an21 cd21 ct21),sl21⟩) (c21:y0i K cd21 "shares_in"=true) (k21:y0g K (.ref f21)=true)
  (a22:y0k K mainGlobals "rows_from"=some (some (.ref f22))) (l22:K.lookup f22=some ⟨oc22,od22,.func (y0j "rows_from" "rows_from" (z0g z33) (z0e z33) (z04 z33) .none kV22 dc22 pm22 an22 cd22 ct22),sl22⟩) (c22:y0i K cd22 "rows_from"=true) (k22:y0g K (.ref f22)=true)
  (a23:y0k K mainGlobals "deal_evenly"=some (some (.ref f23))) (l23:K.lookup f23=some ⟨oc23,od23,.func (y0j "deal_evenly" "deal_evenly" (z0g z2h) (z0e z2h) (z04 z2h) .none kV23 dc23 pm23 an23 cd23 ct23),sl23⟩) (c23:y0i K cd23 "deal_evenly"=true) (k23:y0g K (.ref f23)=true)
  (a24:y0k K mainGlobals "_law_plus"=some (some (.ref f24))) (l24:K.lookup f24=some ⟨oc24,od24,.func (y0j "_law_plus" "_law_plus" (z0g z73) (z0e z73) (z04 z73) .none kV24 dc24 pm24 an24 cd24 ct24),sl24⟩) (c24:y0i K cd24 "_law_plus"=true) (k24:y0g K (.ref f24)=true)
  (a25:y0k K mainGlobals "_law_shares"=some (some (.ref f25))) (l25:K.lookup f25=some ⟨oc25,od25,.func (y0j "_law_shares" "_law_shares" (z0g z4c) (z0e z4c) (z04 z4c) .none kV25 dc25 pm25 an25 cd25 ct25),sl25⟩) (c25:y0i K cd25 "_law_shares"=true) (k25:y0g K (.ref f25)=true)
  (a26:y0k K mainGlobals "_law_bear"=some (some (.ref f26))) (l26:K.lookup f26=some ⟨oc26,od26,.func (y0j "_law_bear" "_law_bear" (z0g z72) (z0e z72) (z04 z72) .none kV26 dc26 pm26 an26 cd26 ct26),sl26⟩) (c26:y0i K cd26 "_law_bear"=true) (k26:y0g K (.ref f26)=true)
  (a27:y0k K mainGlobals "plus_in_lowest"=some (some (.ref f27))) (l27:K.lookup f27=some ⟨oc27,od27,.func (y0j "plus_in_lowest" "plus_in_lowest" (z0g z1q) (z0e z1q) (z04 z1q) .none kV27 dc27 pm27 an27 cd27 ct27),sl27⟩) (c27:y0i K cd27 "plus_in_lowest"=true) (k27:y0g K (.ref f27)=true)
  (a28:y0k K mainGlobals "sum_of_parts"=some (some (.ref f28))) (l28:K.lookup f28=some ⟨oc28,od28,.func (y0j "sum_of_parts" "sum_of_parts" (z0g z25) (z0e z25) (z04 z25) .none kV28 dc28 pm28 an28 cd28 ct28),sl28⟩) (c28:y0i K cd28 "sum_of_parts"=true) (k28:y0g K (.ref f28)=true)
  (a29:y0k K mainGlobals "loads_of_shares"=some (some (.ref f29))) (l29:K.lookup f29=some ⟨oc29,od29,.func (y0j "loads_of_shares" "loads_of_shares" (z0g z1m) (z0e z1m) (z04 z1m) .none kV29 dc29 pm29 an29 cd29 ct29),sl29⟩) (c29:y0i K cd29 "loads_of_shares"=true) (k29:y0g K (.ref f29)=true)
  (a30:y0k K mainGlobals "_law_whole"=some (some (.ref f30))) (l30:K.lookup f30=some ⟨oc30,od30,.func (y0j "_law_whole" "_law_whole" (z0g z59) (z0e z59) (z04 z59) .none kV30 dc30 pm30 an30 cd30 ct30),sl30⟩) (c30:y0i K cd30 "_law_whole"=true) (k30:y0g K (.ref f30)=true)
  (a31:y0k K mainGlobals "_law_is_fraction"=some (some (.ref f31))) (l31:K.lookup f31=some ⟨oc31,od31,.func (y0j "_law_is_fraction" "_law_is_fraction" (z0g z28) (z0e z28) (z04 z28) .none kV31 dc31 pm31 an31 cd31 ct31),sl31⟩) (c31:y0i K cd31 "_law_is_fraction"=true) (k31:y0g K (.ref f31)=true)
  (a32:y0k K mainGlobals "_law_below"=some (some (.ref f32))) (l32:K.lookup f32=some ⟨oc32,od32,.func (y0j "_law_below" "_law_below" (z0g z5e) (z0e z5e) (z04 z5e) .none kV32 dc32 pm32 an32 cd32 ct32),sl32⟩) (c32:y0i K cd32 "_law_below"=true) (k32:y0g K (.ref f32)=true)
  (a33:y0k K mainGlobals "_law_unrest"=some (some (.ref f33))) (l33:K.lookup f33=some ⟨oc33,od33,.func (y0j "_law_unrest" "_law_unrest" (z0g z4m) (z0e z4m) (z04 z4m) .none kV33 dc33 pm33 an33 cd33 ct33),sl33⟩) (c33:y0i K cd33 "_law_unrest"=true) (k33:y0g K (.ref f33)=true)
  (a34:y0k K mainGlobals "in_whole_numbers"=some (some (.ref f34))) (l34:K.lookup f34=some ⟨oc34,od34,.func (y0j "in_whole_numbers" "in_whole_numbers" (z0g z1g) (z0e z1g) (z04 z1g) .none kV34 dc34 pm34 an34 cd34 ct34),sl34⟩) (c34:y0i K cd34 "in_whole_numbers"=true) (k34:y0g K (.ref f34)=true)
  (a35:y0k K mainGlobals "unrest_of"=some (some (.ref f35))) (l35:K.lookup f35=some ⟨oc35,od35,.func (y0j "unrest_of" "unrest_of" (z0g z39) (z0e z39) (z04 z39) .none kV35 dc35 pm35 an35 cd35 ct35),sl35⟩) (c35:y0i K cd35 "unrest_of"=true) (k35:y0g K (.ref f35)=true)
  (a36:y0k K mainGlobals "law"=some (some (.ref f36))) (l36:K.lookup f36=some ⟨oc36,od36,.func (y0j "law" "law" (z0g zgh) (z0e zgh) (z04 zgh) .none kV36 dc36 pm36 an36 cd36 ct36),sl36⟩) (c36:y0i K cd36 "law"=true) (k36:y0g K (.ref f36)=true)
  (uPour:y0k K mainGlobals "Pour"=some (some (.ref aj))) (p1Pour:y3v K aj Str.empty=true) (p2Pour:y49 K aj=true) (p3Pour:y5d K aj=true) (p4Pour:y0y K (.ref aj) "__setattr__"=some (some (.builtin "object.__setattr__"))) (p5Pour:y4t K aj=true) (p6Pour:y0g K (.ref aj)=true)
  (bA:y0y K (.ref aj) "many_gives"=some none)
  (n_sent:y0y K (.ref aj) "sent"=some none)
  (n_spare:y0y K (.ref aj) "spare"=some none)
  (bL:y0y K (.ref aj) "tie_ends"=some none)
  (bT:y0y K (.ref aj) "ties_at"=some none)
  (a37:y0y K (.ref aj) "__init__"=some (some (.ref f37))) (l37:K.lookup f37=some ⟨oc37,od37,.func (y0j "__init__" "Pour.__init__" (z0g z37) (z0e z37) (z04 z37) .none kV37 dc37 pm37 an37 cd37 ct37),sl37⟩) (c37:y0i K cd37 "Pour.__init__"=true) (k37:y0g K (.ref f37)=true) (i37:y22 K (.ref f37)=true)
  (a38:y0y K (.ref aj) "gives_with_rest"=some (some (.ref f38))) (l38:K.lookup f38=some ⟨oc38,od38,.func (y0j "gives_with_rest" "Pour.gives_with_rest" (z0g z0w) (z0e z0w) (z04 z0w) .none kV38 dc38 pm38 an38 cd38 ct38),sl38⟩) (c38:y0i K cd38 "Pour.gives_with_rest"=true) (k38:y0g K (.ref f38)=true) (i38:y22 K (.ref f38)=true)
  (a39:y0y K (.ref aj) "has_room"=some (some (.ref f39))) (l39:K.lookup f39=some ⟨oc39,od39,.func (y0j "has_room" "Pour.has_room" (z0g z1w) (z0e z1w) (z04 z1w) .none kV39 dc39 pm39 an39 cd39 ct39),sl39⟩) (c39:y0i K cd39 "Pour.has_room"=true) (k39:y0g K (.ref f39)=true) (i39:y22 K (.ref f39)=true)
  (a40:y0y K (.ref aj) "far_end"=some (some (.ref f40))) (l40:K.lookup f40=some ⟨oc40,od40,.func (y0j "far_end" "Pour.far_end" (z0g z27) (z0e z27) (z04 z27) .none kV40 dc40 pm40 an40 cd40 ct40),sl40⟩) (c40:y0i K cd40 "Pour.far_end"=true) (k40:y0g K (.ref f40)=true) (i40:y22 K (.ref f40)=true)
  (a41:y0y K (.ref aj) "may_go"=some (some (.ref f41))) (l41:K.lookup f41=some ⟨oc41,od41,.func (y0j "may_go" "Pour.may_go" (z0g z2g) (z0e z2g) (z04 z2g) .none kV41 dc41 pm41 an41 cd41 ct41),sl41⟩) (c41:y0i K cd41 "Pour.may_go"=true) (k41:y0g K (.ref f41)=true) (i41:y22 K (.ref f41)=true)
  (a42:y0y K (.ref aj) "row_behind"=some (some (.ref f42))) (l42:K.lookup f42=some ⟨oc42,od42,.func (y0j "row_behind" "Pour.row_behind" (z0g z1k) (z0e z1k) (z04 z1k) .none kV42 dc42 pm42 an42 cd42 ct42),sl42⟩) (c42:y0i K cd42 "Pour.row_behind"=true) (k42:y0g K (.ref f42)=true) (i42:y22 K (.ref f42)=true)
  (a43:y0y K (.ref aj) "steps_to_room"=some (some (.ref f43))) (l43:K.lookup f43=some ⟨oc43,od43,.func (y0j "steps_to_room" "Pour.steps_to_room" (z0g z19) (z0e z19) (z04 z19) .none kV43 dc43 pm43 an43 cd43 ct43),sl43⟩) (c43:y0i K cd43 "Pour.steps_to_room"=true) (k43:y0g K (.ref f43)=true) (i43:y22 K (.ref f43)=true)
  (a44:y0y K (.ref aj) "leads_on"=some (some (.ref f44))) (l44:K.lookup f44=some ⟨oc44,od44,.func (y0j "leads_on" "Pour.leads_on" (z0g z1y) (z0e z1y) (z04 z1y) .none kV44 dc44 pm44 an44 cd44 ct44),sl44⟩) (c44:y0i K cd44 "Pour.leads_on"=true) (k44:y0g K (.ref f44)=true) (i44:y22 K (.ref f44)=true)
  (a45:y0y K (.ref aj) "skip_dead_ties"=some (some (.ref f45))) (l45:K.lookup f45=some ⟨oc45,od45,.func (y0j "skip_dead_ties" "Pour.skip_dead_ties" (z0g z0y) (z0e z0y) (z04 z0y) .none kV45 dc45 pm45 an45 cd45 ct45),sl45⟩) (c45:y0i K cd45 "Pour.skip_dead_ties"=true) (k45:y0g K (.ref f45)=true) (i45:y22 K (.ref f45)=true)
  (a46:y0y K (.ref aj) "way_from"=some (some (.ref f46))) (l46:K.lookup f46=some ⟨oc46,od46,.func (y0j "way_from" "Pour.way_from" (z0g z1x) (z0e z1x) (z04 z1x) .none kV46 dc46 pm46 an46 cd46 ct46),sl46⟩) (c46:y0i K cd46 "Pour.way_from"=true) (k46:y0g K (.ref f46)=true) (i46:y22 K (.ref f46)=true)
  (a47:y0y K (.ref aj) "send_along"=some (some (.ref f47))) (l47:K.lookup f47=some ⟨oc47,od47,.func (y0j "send_along" "Pour.send_along" (z0g z1n) (z0e z1n) (z04 z1n) .none kV47 dc47 pm47 an47 cd47 ct47),sl47⟩) (c47:y0i K cd47 "Pour.send_along"=true) (k47:y0g K (.ref f47)=true) (i47:y22 K (.ref f47)=true)
  (a48:y0y K (.ref aj) "send_by_steps"=some (some (.ref f48))) (l48:K.lookup f48=some ⟨oc48,od48,.func (y0j "send_by_steps" "Pour.send_by_steps" (z0g z1a) (z0e z1a) (z04 z1a) .none kV48 dc48 pm48 an48 cd48 ct48),sl48⟩) (c48:y0i K cd48 "Pour.send_by_steps"=true) (k48:y0g K (.ref f48)=true) (i48:y22 K (.ref f48)=true)
  (a49:y0y K (.ref aj) "fill"=some (some (.ref f49))) (l49:K.lookup f49=some ⟨oc49,od49,.func (y0j "fill" "Pour.fill" (z0g z38) (z0e z38) (z04 z38) .none kV49 dc49 pm49 an49 cd49 ct49),sl49⟩) (c49:y0i K cd49 "Pour.fill"=true) (k49:y0g K (.ref f49)=true) (i49:y22 K (.ref f49)=true)
  (z1:y0k K mainGlobals "abs"=some none) (z2:y0k K mainGlobals "any"=some none) (z3:y0k K mainGlobals "bool"=some none) (z4:y0k K mainGlobals "dict"=some none) (z5:y0k K mainGlobals "enumerate"=some none) (z6:y0k K mainGlobals "int"=some none) (z7:y0k K mainGlobals "isinstance"=some none) (z8:y0k K mainGlobals "len"=some none) (z9:y0k K mainGlobals "list"=some none) (z10:y0k K mainGlobals "max"=some none) (z11:y0k K mainGlobals "min"=some none) (z12:y0k K mainGlobals "range"=some none) (z13:y0k K mainGlobals "reversed"=some none) (z14:y0k K mainGlobals "sorted"=some none) (z15:y0k K mainGlobals "str"=some none) (z16:y0k K mainGlobals "sum"=some none) (z17:y0k K mainGlobals "tuple"=some none) (z18:y0k K mainGlobals "zip"=some none) :
  ∃fd:FuncData,(∀(s:Shared) (v:Value),BindsTo s fd ⟨[v],[]⟩ [("_law_script",v)])/\∀base:Heap,K.In base->base.Ns mainGlobals mg->FnOk l.prog w K mg base CX0 13 fa fd ["_law_script"] (zf0 K):=by
 have T_Lmixed:=z1f (st:=z5d) (ps:=["_law_cell","_law_k"]) X G a1 l1 c1 k1 λ_ _ _ _ _ _ us hl=>by obtain⟨_,_,rfl⟩:=ln2 hl;rfl
 have T_Lcell_at:=z1f (st:=z3r) (ps:=["_law_script","_law_k"]) X G a2 l2 c2 k2 λ_ _ _ _ _ _ us hl=>by obtain⟨_,_,rfl⟩:=ln2 hl;rfl
 have T_Lrow:=z1f (st:=z9g) (ps:=["_law_cell","_law_many","_law_thin"]) X G a3 l3 c3 k3 λ_ _ _ _ _ _ us hl=>by obtain⟨_,_,_,rfl⟩:=ln3 hl;rfl
 have T_Lwork:=z1f (st:=z6r) (ps:=["_law_cell"]) X G a4 l4 c4 k4 λ_ _ _ _ _ _ us hl=>by obtain⟨_,rfl⟩:=ln1 hl;rfl
 have T_Lcrowd:=z1f (st:=z5c) (ps:=["_law_script"]) X G a5 l5 c5 k5 λ_ _ _ _ _ _ us hl=>by obtain⟨_,rfl⟩:=ln1 hl;rfl
 have T_Ldivisor:=z1f (st:=z3s) (ps:=["_law_one","_law_other"]) X G a6 l6 c6 k6 λ_ _ _ _ _ _ us hl=>by obtain⟨_,_,rfl⟩:=ln2 hl;rfl
 have T_Llowest:=z1f (st:=z4f) (ps:=["_law_top","_law_bottom"]) X G a7 l7 c7 k7 λ_ _ _ _ _ _ us hl=>by obtain⟨_,_,rfl⟩:=ln2 hl;rfl
 have T_Lsmall:=z1f (st:=z5a) (ps:=["_law_number"]) X G a8 l8 c8 k8 λ_ _ _ _ _ _ us hl=>by obtain⟨_,rfl⟩:=ln1 hl;rfl
 have T_Lfar:=z1f (st:=z9f) (ps:=["_law_script","_law_at","_law_k"]) X G a9 l9 c9 k9 λ_ _ _ _ _ _ us hl=>by obtain⟨_,_,_,rfl⟩:=ln3 hl;rfl
 have T_Ldrawn:=z1f (st:=z5f) (ps:=["_law_script","_law_doers"]) X G a10 l10 c10 k10 λ_ _ _ _ _ _ us hl=>by obtain⟨_,_,rfl⟩:=ln2 hl;rfl
 have T_pour_more:=z1f (st:=z2z) (ps:=["gives","takes","ties","sent"]) X G a11 l11 c11 k11 λ_ _ _ _ _ _ us hl=>by obtain⟨_,_,_,_,rfl⟩:=ln4 hl;rfl
 have T_pour_all:=z1f (st:=z3p) (ps:=["gives","takes","ties"]) X G a12 l12 c12 k12 λ_ _ _ _ _ _ us hl=>by obtain⟨_,_,_,rfl⟩:=ln3 hl;rfl
 have T_ties_in:=z1f (st:=z4d) (ps:=["doers","crowd"]) X G a13 l13 c13 k13 λ_ _ _ _ _ _ us hl=>by obtain⟨_,_,rfl⟩:=ln2 hl;rfl
 have T_work_in:=z1f (st:=z4h) (ps:=["works","crowd"]) X G a14 l14 c14 k14 λ_ _ _ _ _ _ us hl=>by obtain⟨_,_,rfl⟩:=ln2 hl;rfl
 have T_pour_in:=z1f (st:=z48) (ps:=["works","doers","crowd"]) X G a15 l15 c15 k15 λ_ _ _ _ _ _ us hl=>by obtain⟨_,_,_,rfl⟩:=ln3 hl;rfl
 have T_chosen:=z1f (st:=z5h) (ps:=["things","marks","wanted"]) X G a16 l16 c16 k16 λ_ _ _ _ _ _ us hl=>by obtain⟨_,_,_,rfl⟩:=ln3 hl;rfl
 have T_crowds_by:=z1f (st:=z34) (ps:=["works","doers","many"]) X G a17 l17 c17 k17 λ_ _ _ _ _ _ us hl=>by obtain⟨_,_,_,rfl⟩:=ln3 hl;rfl
 have T_is_whole:=z1f (st:=z3q) (ps:=["thing"]) X G a18 l18 c18 k18 λ_ _ _ _ _ _ us hl=>by obtain⟨_,rfl⟩:=ln1 hl;rfl
 have T_divisor_of:=z1f (st:=z2n) (ps:=["one","other"]) X G a19 l19 c19 k19 λ_ _ _ _ _ _ us hl=>by obtain⟨_,_,rfl⟩:=ln2 hl;rfl
 have T_part_of:=z1f (st:=z4b) (ps:=["top","bottom"]) X G a20 l20 c20 k20 λ_ _ _ _ _ _ us hl=>by obtain⟨_,_,rfl⟩:=ln2 hl;rfl
 have T_shares_in:=z1f (st:=z35) (ps:=["works","doers","crowd"]) X G a21 l21 c21 k21 λ_ _ _ _ _ _ us hl=>by obtain⟨_,_,_,rfl⟩:=ln3 hl;rfl
 have T_rows_from:=z1f (st:=z33) (ps:=["doers","crowds","sents","nothing"]) X G a22 l22 c22 k22 λ_ _ _ _ _ _ us hl=>by obtain⟨_,_,_,_,rfl⟩:=ln4 hl;rfl
 have T_deal_evenly:=z1f (st:=z2h) (ps:=["works","doers","many"]) X G a23 l23 c23 k23 λ_ _ _ _ _ _ us hl=>by obtain⟨_,_,_,rfl⟩:=ln3 hl;rfl
 have T_Lplus:=z1f (st:=z73) (ps:=["_law_one","_law_other"]) X G a24 l24 c24 k24 λ_ _ _ _ _ _ us hl=>by obtain⟨_,_,rfl⟩:=ln2 hl;rfl
 have T_Lshares:=z1f (st:=z4c) (ps:=["_law_script","_law_works","_law_doers","_law_many"]) X G a25 l25 c25 k25 λ_ _ _ _ _ _ us hl=>by obtain⟨_,_,_,_,rfl⟩:=ln4 hl;rfl
 have T_Lbear:=z1f (st:=z72) (ps:=["_law_doers","_law_many","_law_shares_here"]) X G a26 l26 c26 k26 λ_ _ _ _ _ _ us hl=>by obtain⟨_,_,_,rfl⟩:=ln3 hl;rfl
 have T_plus_in_lowest:=z1f (st:=z1q) (ps:=["one","other"]) X G a27 l27 c27 k27 λ_ _ _ _ _ _ us hl=>by obtain⟨_,_,rfl⟩:=ln2 hl;rfl
 have T_sum_of_parts:=z1f (st:=z25) (ps:=["parts"]) X G a28 l28 c28 k28 λ_ _ _ _ _ _ us hl=>by obtain⟨_,rfl⟩:=ln1 hl;rfl
 have T_loads_of_shares:=z1f (st:=z1m) (ps:=["doers","many","shares"]) X G a29 l29 c29 k29 λ_ _ _ _ _ _ us hl=>by obtain⟨_,_,_,rfl⟩:=ln3 hl;rfl
 have T_Lwhole:=z1f (st:=z59) (ps:=["_law_found"]) X G a30 l30 c30 k30 λ_ _ _ _ _ _ us hl=>by obtain⟨_,rfl⟩:=ln1 hl;rfl
 have T_Lis_fraction:=z1f (st:=z28) (ps:=["_law_found"]) X G a31 l31 c31 k31 λ_ _ _ _ _ _ us hl=>by obtain⟨_,rfl⟩:=ln1 hl;rfl
 have T_Lbelow:=z1f (st:=z5e) (ps:=["_law_one","_law_other"]) X G a32 l32 c32 k32 λ_ _ _ _ _ _ us hl=>by obtain⟨_,_,rfl⟩:=ln2 hl;rfl
 have T_Lunrest:=z1f (st:=z4m) (ps:=["_law_doers","_law_shares_here","_law_loads"]) X G a33 l33 c33 k33 λ_ _ _ _ _ _ us hl=>by obtain⟨_,_,_,rfl⟩:=ln3 hl;rfl
 have T_in_whole_numbers:=z1f (st:=z1g) (ps:=["parts"]) X G a34 l34 c34 k34 λ_ _ _ _ _ _ us hl=>by obtain⟨_,rfl⟩:=ln1 hl;rfl
 have T_unrest_of:=z1f (st:=z39) (ps:=["doers","many","shares"]) X G a35 l35 c35 k35 λ_ _ _ _ _ _ us hl=>by obtain⟨_,_,_,rfl⟩:=ln3 hl;rfl
 have clPour:Cls K aj:=⟨p1Pour,p2Pour,p3Pour,p4Pour⟩;have F:FldsPour K aj:=⟨⟨clPour,bA⟩,⟨clPour,n_sent⟩,⟨clPour,n_spare⟩,⟨clPour,bL⟩,⟨clPour,bT⟩⟩
 have T_Pour_init:MTop K aj "__init__" "Pour.__init__" z37 ["self","gives","takes","ties","sent"]:=⟨⟨f37,_,z1r l37 c37 k37,(z1r l37 c37 k37).binds λ_ _ _ _ _ _ us hl=>(by obtain⟨_,_,_,_,_,rfl⟩:=ln5 hl;rfl),⟨a37,i37,k37⟩⟩,clPour⟩
 have T_Pour_gives_with_rest:MTop K aj "gives_with_rest" "Pour.gives_with_rest" z0w ["self"]:=⟨⟨f38,_,z1r l38 c38 k38,(z1r l38 c38 k38).binds λ_ _ _ _ _ _ us hl=>(by obtain⟨_,rfl⟩:=ln1 hl;rfl),⟨a38,i38,k38⟩⟩,clPour⟩
 have T_Pour_has_room:MTop K aj "has_room" "Pour.has_room" z1w ["self","ends"]:=⟨⟨f39,_,z1r l39 c39 k39,(z1r l39 c39 k39).binds λ_ _ _ _ _ _ us hl=>(by obtain⟨_,_,rfl⟩:=ln2 hl;rfl),⟨a39,i39,k39⟩⟩,clPour⟩
 have T_Pour_far_end:MTop K aj "far_end" "Pour.far_end" z27 ["self","end","tie"]:=⟨⟨f40,_,z1r l40 c40 k40,(z1r l40 c40 k40).binds λ_ _ _ _ _ _ us hl=>(by obtain⟨_,_,_,rfl⟩:=ln3 hl;rfl),⟨a40,i40,k40⟩⟩,clPour⟩
 have T_Pour_may_go:MTop K aj "may_go" "Pour.may_go" z2g ["self","end","tie"]:=⟨⟨f41,_,z1r l41 c41 k41,(z1r l41 c41 k41).binds λ_ _ _ _ _ _ us hl=>(by obtain⟨_,_,_,rfl⟩:=ln3 hl;rfl),⟨a41,i41,k41⟩⟩,clPour⟩
 have T_Pour_row_behind:MTop K aj "row_behind" "Pour.row_behind" z1k ["self","row","steps"]:=⟨⟨f42,_,z1r l42 c42 k42,(z1r l42 c42 k42).binds λ_ _ _ _ _ _ us hl=>(by obtain⟨_,_,_,rfl⟩:=ln3 hl;rfl),⟨a42,i42,k42⟩⟩,clPour⟩
 have T_Pour_steps_to_room:MTop K aj "steps_to_room" "Pour.steps_to_room" z19 ["self"]:=⟨⟨f43,_,z1r l43 c43 k43,(z1r l43 c43 k43).binds λ_ _ _ _ _ _ us hl=>(by obtain⟨_,rfl⟩:=ln1 hl;rfl),⟨a43,i43,k43⟩⟩,clPour⟩
 have T_Pour_leads_on:MTop K aj "leads_on" "Pour.leads_on" z1y ["self","end","tie","steps"]:=⟨⟨f44,_,z1r l44 c44 k44,(z1r l44 c44 k44).binds λ_ _ _ _ _ _ us hl=>(by obtain⟨_,_,_,_,rfl⟩:=ln4 hl;rfl),⟨a44,i44,k44⟩⟩,clPour⟩
 have T_Pour_skip_dead_ties:MTop K aj "skip_dead_ties" "Pour.skip_dead_ties" z0y ["self","end","steps","tried"]:=⟨⟨f45,_,z1r l45 c45 k45,(z1r l45 c45 k45).binds λ_ _ _ _ _ _ us hl=>(by obtain⟨_,_,_,_,rfl⟩:=ln4 hl;rfl),⟨a45,i45,k45⟩⟩,clPour⟩
 have T_Pour_way_from:MTop K aj "way_from" "Pour.way_from" z1x ["self","give","steps","tried"]:=⟨⟨f46,_,z1r l46 c46 k46,(z1r l46 c46 k46).binds λ_ _ _ _ _ _ us hl=>(by obtain⟨_,_,_,_,rfl⟩:=ln4 hl;rfl),⟨a46,i46,k46⟩⟩,clPour⟩
 have T_Pour_send_along:MTop K aj "send_along" "Pour.send_along" z1n ["self","give","way"]:=⟨⟨f47,_,z1r l47 c47 k47,(z1r l47 c47 k47).binds λ_ _ _ _ _ _ us hl=>(by obtain⟨_,_,_,rfl⟩:=ln3 hl;rfl),⟨a47,i47,k47⟩⟩,clPour⟩
 have T_Pour_send_by_steps:MTop K aj "send_by_steps" "Pour.send_by_steps" z1a ["self","steps"]:=⟨⟨f48,_,z1r l48 c48 k48,(z1r l48 c48 k48).binds λ_ _ _ _ _ _ us hl=>(by obtain⟨_,_,rfl⟩:=ln2 hl;rfl),⟨a48,i48,k48⟩⟩,clPour⟩
 have T_Pour_fill:MTop K aj "fill" "Pour.fill" z38 ["self"]:=⟨⟨f49,_,z1r l49 c49 k49,(z1r l49 c49 k49).binds λ_ _ _ _ _ _ us hl=>(by obtain⟨_,rfl⟩:=ln1 hl;rfl),⟨a49,i49,k49⟩⟩,clPour⟩
 have B:Blt mg:=⟨y18 X G z1,y18 X G z2,y18 X G z3,y18 X G z4,y18 X G z5,y18 X G z6,y18 X G z7,y18 X G z8,y18 X G z9,y18 X G z10,y18 X G z11,y18 X G z12,y18 X G z13,y18 X G z14,y18 X G z15,y18 X G z16,y18 X G z17,y18 X G z18⟩;refine zpl X G hfa a36 l36 c36 k36 (λs v=>.of_eq rfl) λf fd U base=>?_;have aD:=zil (P:=l.prog) (w:=w) (base:=base) T_Lmixed B
 have aI:=zck (P:=l.prog) (w:=w) (base:=base) T_Lcell_at B;have D_Lrow:=zls (P:=l.prog) (w:=w) (base:=base) T_Lrow B aD
 have D_Lwork:=zjm (P:=l.prog) (w:=w) (base:=base) T_Lwork B aD;have b9:=zii (P:=l.prog) (w:=w) (base:=base) T_Lcrowd B aD aI D_Lrow D_Lwork
 have aX:=zd4 (P:=l.prog) (w:=w) (base:=base) T_Ldivisor B;have bh:=zf5 (P:=l.prog) (w:=w) (base:=base) T_Llowest B aX
 have bx:=zgv (P:=l.prog) (w:=w) (base:=base) T_Lsmall B bh;have bW:=zmk (P:=l.prog) (w:=w) (base:=base) T_Lfar B aD aI
 have b7:=zia (P:=l.prog) (w:=w) (base:=base) T_Ldrawn B bx bW;have be:=zay (P:=l.prog) (w:=w) (base:=base) (mg:=mg) T_Pour_init B F
 have be:CDef l.prog w K mg base "Pour" aj 1 ["self","gives","takes","ties","sent"] (zh3 K aj):=zma be p5Pour p6Pour (y6g X G uPour);have ay:=z4p (P:=l.prog) (w:=w) (base:=base) (mg:=mg) T_Pour_gives_with_rest B F
 have az:=z7m (P:=l.prog) (w:=w) (base:=base) (mg:=mg) T_Pour_has_room B F;have aB:=z7x (P:=l.prog) (w:=w) (base:=base) (mg:=mg) T_Pour_far_end B F
 have aL:=z97 (P:=l.prog) (w:=w) (base:=base) (mg:=mg) T_Pour_may_go B F;have aV:=z62 (P:=l.prog) (w:=w) (base:=base) (mg:=mg) T_Pour_row_behind B F aB aL
 have aF:=z52 (P:=l.prog) (w:=w) (base:=base) (mg:=mg) T_Pour_steps_to_room B F ay az aV;have bf:=z7l (P:=l.prog) (w:=w) (base:=base) (mg:=mg) T_Pour_leads_on B aL aB
 have aM:=z4u (P:=l.prog) (w:=w) (base:=base) (mg:=mg) T_Pour_skip_dead_ties B F bf;have aO:=z7n (P:=l.prog) (w:=w) (base:=base) (mg:=mg) T_Pour_way_from B F az aM aB
 have aU:=z6j (P:=l.prog) (w:=w) (base:=base) (mg:=mg) T_Pour_send_along B F;have aN:=z54 (P:=l.prog) (w:=w) (base:=base) (mg:=mg) T_Pour_send_by_steps B F ay aO aU
 have bJ:=zb5 (P:=l.prog) (w:=w) (base:=base) (mg:=mg) T_Pour_fill B aF az aN;have bF:=zb7 (P:=l.prog) (w:=w) (base:=base) T_pour_more B F be bJ
 have bN:=zcy (P:=l.prog) (w:=w) (base:=base) T_pour_all B bF;have bj:=zfm (P:=l.prog) (w:=w) (base:=base) T_ties_in B
 have bV:=zf4 (P:=l.prog) (w:=w) (base:=base) T_work_in B;have bm:=zfd (P:=l.prog) (w:=w) (base:=base) T_pour_in B bN bj bV
 have bQ:=zg2 (P:=l.prog) (w:=w) (base:=base) T_chosen B;have bH:=zbk (P:=l.prog) (w:=w) (base:=base) T_crowds_by B bm bQ
 have bB:=zd1 (P:=l.prog) (w:=w) (base:=base) T_is_whole B;have aH:=z9w (P:=l.prog) (w:=w) (base:=base) T_divisor_of B
 have bR:=zfq (P:=l.prog) (w:=w) (base:=base) T_part_of B bB aH;have bI:=zat (P:=l.prog) (w:=w) (base:=base) T_shares_in B bm bR
 have bD:=zc3 (P:=l.prog) (w:=w) (base:=base) T_rows_from B bj;have bv:=z96 (P:=l.prog) (w:=w) (base:=base) T_deal_evenly B bH bI bD
 have bK:=zjr (P:=l.prog) (w:=w) (base:=base) T_Lplus B bh;have bY:=zeu (P:=l.prog) (w:=w) (base:=base) T_Lshares B aD aI b7 bv bK bx bW
 have D_Lbear:=zka (P:=l.prog) (w:=w) (base:=base) T_Lbear B bK;have aY:=z6z (P:=l.prog) (w:=w) (base:=base) T_plus_in_lowest B aH
 have bo:=z93 (P:=l.prog) (w:=w) (base:=base) T_sum_of_parts B aY;have aC:=z61 (P:=l.prog) (w:=w) (base:=base) T_loads_of_shares B bo
 have bq:=zi2 (P:=l.prog) (w:=w) (base:=base) T_Lwhole B;have bn:=z87 (P:=l.prog) (w:=w) (base:=base) T_Lis_fraction B bq aX
 have b8:=zi6 (P:=l.prog) (w:=w) (base:=base) T_Lbelow B;have bZ:=zf6 (P:=l.prog) (w:=w) (base:=base) T_Lunrest B b8
 have aQ:=z5x (P:=l.prog) (w:=w) (base:=base) T_in_whole_numbers B;have bE:=zak (P:=l.prog) (w:=w) (base:=base) T_unrest_of B aQ aC
 exact zox U B b9 bY D_Lbear aC bn bZ bE bq
end My
namespace PySem.W.Fast
def tw4326360125358126021:=0
def tw2959324087193057053:=0
def tw6161925242256957248:=0
def tw1214042531639879998:=0
def tw2871657771890069393:=0
def tw14571208788759018308:=0
def tw11938527276457328117:=0
def tw12125811885182968548:=0
def tw12055790047005868266:=0
def tw10499012044753122724:=0
def tw2245867748345345192:=0
def tw8633892111135763074:=0
def tw14720457599769582133:=0
def tw7262256241696714318:=0
def tw4774998606871141506:=0
def tw5104967059336700057:=0
def tw15726037041923901617:=0
def tw15954707861849795605:=0
def tw129126811358309109:=0
def tw6821939981419558594:=0
def tw4228504494708271728:=0
def tw917204368223211034:=0
def tw11896396790052884408:=0
def tw308388716702194778:=0
def tw7195230571756141656:=0
def tw3620726904821590613:=0
def tw14145834624044442281:=0
def tw6866549875839141749:=0
def tw5379236520938967666:=0
def tw10048464814399609809:=0
def tw6086338217417744302:=0
def tw2123518487871815364:=0
def tw6477645890738108207:=0
def tw17660721614543966089:=0
def tw17218363828210664973:=0
def tw14531622146168744517:=0
def tw15103375805401136388:=0
def tw11952325646382281281:=0
def tw6843338901727804766:=0
def tw16198510466065524323:=0
def tw13882354200111465908:=0
def tw10471902469561485777:=0
def tw348074914324264058:=0
def tw4586788874844438619:=0
def tw572850243205765381:=0
def tw13225550265563708560:=0
def tw4868594305570853408:=0
def tw5191765237358861851:=0
def tw8132113633576343787:=0
def tw6691562750165115423:=0
def tw14983784719340169685:=0
def tw17450618198052949220:=0
def tw15960687828932490657:=0
def tw509397784767098760:=0
def tw11893323254181748285:=0
def tw1769669200422745255:=0
def tw8733527282533574571:=0
def tw1619309388491285927:=0
def tw1961528887584556117:=0
def tw4806250860597737825:=0
def tw6265803961164794656:=0
def tw9488234922086101752:=0
def tw13759880584303183262:=0
def tw17244316907597791632:=0
def tw15767138940639035996:=0
def tw9575003778016355669:=0
def tw8961033645208402985:=0
def tw1165431933279054079:=0
def tw50166322689649168:=0
def tw1733082556684769270:=0
def tw9952819204163493385:=0
def tw8957233721656076797:=0
def tw16295116349743560375:=0
def tw10489047448346570048:=0
def tw588322004334412880:=0
def tw5518399389913485982:=0
def tw13667705905946192485:=0
def tw15776569951928181014:=0
def tw8982782216059170103:=0
def tw8819556361074161203:=0
def tw16090346870444342726:=0
def tw6971496382450972053:=0
def tw615031737671015413:=0
def tw7134653564536488466:=0
def tw9845389507875850498:=0
def tw9015544748269479812:=0
def tw15045430160131610371:=0
def tw16450994406626421702:=0
def tw4786616262001824328:=0
def tw10449563176657531763:=0
def tw3282510556150155213:=0
def tw18124434632360106307:=0
def tw9870151625100224188:=0
def tw8970579862005207863:=0
def tw4104309208080422913:=0
def tw2391772361034238119:=0
def tw8774576329903483527:=0
def tw1889419910456267006:=0
def tw1827718407076365860:=0
def tw10606829854142154367:=0
def tw12091106913424906395:=0
def tw9264029813340639976:=0
def tw10374220105163750658:=0
def tw14523305944881467455:=0
def tw13484092496330282264:=0
def tw14369720122216103981:=0
def tw9290135896647755332:=0
def tw12639626780879441206:=0
def tw11448970048429036771:=0
def tw15248249191444568838:=0
def tw13144200232113827920:=0
def tw15652488845594862400:=0
def tw16067552288584942823:=0
def tw2617968687903915742:=0
def tw15348227384568198408:=0
def tw12472549032021411615:=0
def tw10895234062603096649:=0
def tw10435835526192971060:=0
def tw8565058350955967754:=0
def tw16505156617120250361:=0
def tw16094218932562614129:=0
def tw12726299775353333569:=0
def tw5142619887388231505:=0
def tw15312344769634608926:=0
def tw5262856323631434937:=0
def tw12747970648570847280:=0
def tw15118984949437959462:=0
def tw14295642648705423043:=0
def tw14307130068023655351:=0
def tw9284345778674002858:=0
def tw14934438524382624328:=0
def tw724405070670125081:=0
def tw15056164966253494733:=0
def tw8368690194527326706:=0
def tw15448829129703314740:=0
def tw16240666515577213923:=0
def tw10488519283563118072:=0
def tw5651675691410869299:=0
def tw16574719023905110103:=0
def tw18306327786308602875:=0
def tw18094835164556666659:=0
def tw14398587117595837082:=0
def tw1380571482122346684:=0
def tw12332986212066347923:=0
def tw7379516345716479901:=0
def tw10216586975835540753:=0
def tw6659838679844519273:=0
def tw17610764872368702744:=0
def tw11098653220478934425:=0
def tw6452461084402688603:=0
def tw12632618009987550268:=0
def tw17358861006760030125:=0
def tw10310850740376567797:=0
def tw12381309210579009298:=0
def tw7932795854580487:=0
def tw14614946927003488378:=0
def tw5210902783527035702:=0
def tw13745289116274527262:=0
def tw915777019818622559:=0
def tw15868096259659319260:=0
def tw5835735103046508768:=0
def tw6896596126944831540:=0
def tw3967036190021230446:=0
def tw6475237138250377264:=0
def tw3493707434387676453:=0
def tw13105448254140673778:=0
def tw604912046710107366:=0
def tw13694293835898617987:=0
def tw13365312246895638041:=0
def tw9404805823330621744:=0
def tw6035126365542010205:=0
def tw17240043495582324946:=0
def tw12349742297675604526:=0
def tw18261697100799930244:=0
def tw8485955266085290499:=0
def tw865689412675563917:=0
def tw12590309401521291372:=0
def tw17990150822480825050:=0
def tw16452848029051278245:=0
def tw435560316848781822:=0
def tw1961013955527340277:=0
def tw10211024566863088849:=0
def tw14766606477811653496:=0
def tw6725870568698978115:=0
def tw14817241692825805314:=0
def tw15849755662059110049:=0
def tw1658939057806426156:=0
def tw3203343913259317379:=0
def tw6149196789547690480:=0
def tw4902764136826786539:=0
def tw5159905572785083189:=0
def tw6293519291519727869:=0
def tw9479101939258982274:=0
def tw2860544325978980238:=0
def tw15110698034284751998:=0
def tw4243939844420101449:=0
def tw8703761326434505079:=0
def tw17933460799934830207:=0
def tw6706645934260618040:=0
def tw7898977533892735756:=0
def tw7561850886569142980:=0
def tw3162665149397552606:=0
def tw1326112840175345153:=0
def tw6096513888582767254:=0
def tw5182065596424024521:=0
def tw10996572948724455024:=0
def tw18113139254951221421:=0
def tw1655416522397681326:=0
def tw14655905426467855965:=0
def tw14365389376934333466:=0
def tw14908312470709225317:=0
def tw14411341527741219519:=0
def tw3507161851070630512:=0
def tw11388747965351158240:=0
def tw1085539939369188945:=0
def tw967497306922300294:=0
def tw4862669742672261552:=0
def tw8756417187248931360:=0
def tw17973193556538717934:=0
def tw1942907567033414457:=0
def tw17513695718538468289:=0
def tw12153664696624952926:=0
def tw1280788276472521037:=0
def tw17566609658892244027:=0
def tw7878904645567326377:=0
def tw1279117941691101989:=0
def tw4525136943429576760:=0
def tw7212689935686846936:=0
def tw15626374653915595165:=0
def tw7037179643275080009:=0
def tw11138603626047545251:=0
def tw10240768596330925497:=0
def tw7458228557387796712:=0
def tw2265761552921488129:=0
def tw17778433205630838930:=0
def tw4302331494327476964:=0
def tw1133627894127164562:=0
def tw1615832556944120152:=0
def tw17155453086926229894:=0
def tw2773662484942652066:=0
def tw8891145888895098638:=0
def tw6565695986986609667:=0
def tw5871688505033496650:=0
def tw12386977469011185337:=0
def tw427479128360678071:=0
def tw1378222276832284770:=0
def tw16144519320807543972:=0
def tw2706844336228124543:=0
end PySem.W.Fast
open PySem PySem.W PyProof.Rows
set_option maxRecDepth 100000 in
set_option maxHeartbeats 0 in
theorem PySem.Challenge.cw_evenyoke_k32_loads_and_unrest_holds : PySem.Challenge.rw_evenyoke_k32_loads_and_unrest.Holds := by
 w_on; o_law; k_head; (case hw=>w_witness2)
 k_fill
 refine L2.EX.walk (l:=PySem.Challenge.rw_evenyoke_k32_loads_and_unrest) 13 rfl rfl ⟨rfl,by decide,by decide⟩ (fun w h Y=>PySem.W.kIn_of Y) ?F
 case F =>
  intro w mg fa h KX G hmg
  refine' My.all_mk KX G hmg ?a1 ?l1 ?c1 ?k1 ?a2 ?l2 ?c2 ?k2 ?a3 ?l3 ?c3 ?k3 ?a4 ?l4 ?c4 ?k4 ?a5 ?l5 ?c5 ?k5 ?a6 ?l6 ?c6 ?k6 ?a7 ?l7 ?c7 ?k7 ?a8 ?l8 ?c8 ?k8 ?a9 ?l9 ?c9 ?k9 ?a10 ?l10 ?c10 ?k10 ?a11 ?l11 ?c11 ?k11 ?a12 ?l12 ?c12 ?k12 ?a13 ?l13 ?c13 ?k13 ?a14 ?l14 ?c14 ?k14 ?a15 ?l15 ?c15 ?k15 ?a16 ?l16 ?c16 ?k16 ?a17 ?l17 ?c17 ?k17 ?a18 ?l18 ?c18 ?k18 ?a19 ?l19 ?c19 ?k19 ?a20 ?l20 ?c20 ?k20 ?a21 ?l21 ?c21 ?k21 ?a22 ?l22 ?c22 ?k22 ?a23 ?l23 ?c23 ?k23 ?a24 ?l24 ?c24 ?k24 ?a25 ?l25 ?c25 ?k25 ?a26 ?l26 ?c26 ?k26 ?a27 ?l27 ?c27 ?k27 ?a28 ?l28 ?c28 ?k28 ?a29 ?l29 ?c29 ?k29 ?a30 ?l30 ?c30 ?k30 ?a31 ?l31 ?c31 ?k31 ?a32 ?l32 ?c32 ?k32 ?a33 ?l33 ?c33 ?k33 ?a34 ?l34 ?c34 ?k34 ?a35 ?l35 ?c35 ?k35 ?a36 ?l36 ?c36 ?k36 ?uPour ?p1Pour ?p2Pour ?p3Pour ?p4Pour ?p5Pour ?p6Pour ?n_many_gives ?n_sent ?n_spare ?n_tie_ends ?n_ties_at ?a37 ?l37 ?c37 ?k37 ?i37 ?a38 ?l38 ?c38 ?k38 ?i38 ?a39 ?l39 ?c39 ?k39 ?i39 ?a40 ?l40 ?c40 ?k40 ?i40 ?a41 ?l41 ?c41 ?k41 ?i41 ?a42 ?l42 ?c42 ?k42 ?i42 ?a43 ?l43 ?c43 ?k43 ?i43 ?a44 ?l44 ?c44 ?k44 ?i44 ?a45 ?l45 ?c45 ?k45 ?i45 ?a46 ?l46 ?c46 ?k46 ?i46 ?a47 ?l47 ?c47 ?k47 ?i47 ?a48 ?l48 ?c48 ?k48 ?i48 ?a49 ?l49 ?c49 ?k49 ?i49 ?z1 ?z2 ?z3 ?z4 ?z5 ?z6 ?z7 ?z8 ?z9 ?z10 ?z11 ?z12 ?z13 ?z14 ?z15 ?z16 ?z17 ?z18
  (case a1=>k_is)
  (case l1=>k_is)
  (case c1=>k_is)
  (case k1=>k_is)
  (case a2=>k_is)
  (case l2=>k_is)
  (case c2=>k_is)
  (case k2=>k_is)
  (case a3=>k_is)
  (case l3=>k_is)
  (case c3=>k_is)
  (case k3=>k_is)
  (case a4=>k_is)
  (case l4=>k_is)
  (case c4=>k_is)
  (case k4=>k_is)
  (case a5=>k_is)
  (case l5=>k_is)
  (case c5=>k_is)
  (case k5=>k_is)
  (case a6=>k_is)
  (case l6=>k_is)
  (case c6=>k_is)
  (case k6=>k_is)
  (case a7=>k_is)
  (case l7=>k_is)
  (case c7=>k_is)
  (case k7=>k_is)
  (case a8=>k_is)
  (case l8=>k_is)
  (case c8=>k_is)
  (case k8=>k_is)
  (case a9=>k_is)
  (case l9=>k_is)
  (case c9=>k_is)
  (case k9=>k_is)
  (case a10=>k_is)
  (case l10=>k_is)
  (case c10=>k_is)
  (case k10=>k_is)
  (case a11=>k_is)
  (case l11=>k_is)
  (case c11=>k_is)
  (case k11=>k_is)
  (case a12=>k_is)
  (case l12=>k_is)
  (case c12=>k_is)
  (case k12=>k_is)
  (case a13=>k_is)
  (case l13=>k_is)
  (case c13=>k_is)
  (case k13=>k_is)
  (case a14=>k_is)
  (case l14=>k_is)
  (case c14=>k_is)
  (case k14=>k_is)
  (case a15=>k_is)
  (case l15=>k_is)
  (case c15=>k_is)
  (case k15=>k_is)
  (case a16=>k_is)
  (case l16=>k_is)
  (case c16=>k_is)
  (case k16=>k_is)
  (case a17=>k_is)
  (case l17=>k_is)
  (case c17=>k_is)
  (case k17=>k_is)
  (case a18=>k_is)
  (case l18=>k_is)
  (case c18=>k_is)
  (case k18=>k_is)
  (case a19=>k_is)
  (case l19=>k_is)
  (case c19=>k_is)
  (case k19=>k_is)
  (case a20=>k_is)
  (case l20=>k_is)
  (case c20=>k_is)
  (case k20=>k_is)
  (case a21=>k_is)
  (case l21=>k_is)
  (case c21=>k_is)
  (case k21=>k_is)
  (case a22=>k_is)
  (case l22=>k_is)
  (case c22=>k_is)
  (case k22=>k_is)
  (case a23=>k_is)
  (case l23=>k_is)
  (case c23=>k_is)
  (case k23=>k_is)
  (case a24=>k_is)
  (case l24=>k_is)
  (case c24=>k_is)
  (case k24=>k_is)
  (case a25=>k_is)
  (case l25=>k_is)
  (case c25=>k_is)
  (case k25=>k_is)
  (case a26=>k_is)
  (case l26=>k_is)
  (case c26=>k_is)
  (case k26=>k_is)
  (case a27=>k_is)
  (case l27=>k_is)
  (case c27=>k_is)
  (case k27=>k_is)
  (case a28=>k_is)
  (case l28=>k_is)
  (case c28=>k_is)
  (case k28=>k_is)
  (case a29=>k_is)
  (case l29=>k_is)
  (case c29=>k_is)
  (case k29=>k_is)
  (case a30=>k_is)
  (case l30=>k_is)
  (case c30=>k_is)
  (case k30=>k_is)
  (case a31=>k_is)
  (case l31=>k_is)
  (case c31=>k_is)
  (case k31=>k_is)
  (case a32=>k_is)
  (case l32=>k_is)
  (case c32=>k_is)
  (case k32=>k_is)
  (case a33=>k_is)
  (case l33=>k_is)
  (case c33=>k_is)
  (case k33=>k_is)
  (case a34=>k_is)
  (case l34=>k_is)
  (case c34=>k_is)
  (case k34=>k_is)
  (case a35=>k_is)
  (case l35=>k_is)
  (case c35=>k_is)
  (case k35=>k_is)
  (case a36=>k_is)
  (case l36=>k_is)
  (case c36=>k_is)
  (case k36=>k_is)
  (case uPour=>k_is)
  (case p1Pour=>k_is)
  (case p2Pour=>k_is)
  (case p3Pour=>k_is)
  (case p4Pour=>k_is)
  (case p5Pour=>k_is)
  (case p6Pour=>k_is)
  (case n_many_gives=>k_is)
  (case n_sent=>k_is)
  (case n_spare=>k_is)
  (case n_tie_ends=>k_is)
  (case n_ties_at=>k_is)
  (case a37=>k_is)
  (case l37=>k_is)
  (case c37=>k_is)
  (case k37=>k_is)
  (case i37=>k_is)
  (case a38=>k_is)
  (case l38=>k_is)
  (case c38=>k_is)
  (case k38=>k_is)
  (case i38=>k_is)
  (case a39=>k_is)
  (case l39=>k_is)
  (case c39=>k_is)
  (case k39=>k_is)
  (case i39=>k_is)
  (case a40=>k_is)
  (case l40=>k_is)
  (case c40=>k_is)
  (case k40=>k_is)
  (case i40=>k_is)
  (case a41=>k_is)
  (case l41=>k_is)
  (case c41=>k_is)
  (case k41=>k_is)
  (case i41=>k_is)
  (case a42=>k_is)
  (case l42=>k_is)
  (case c42=>k_is)
  (case k42=>k_is)
  (case i42=>k_is)
  (case a43=>k_is)
  (case l43=>k_is)
  (case c43=>k_is)
  (case k43=>k_is)
  (case i43=>k_is)
  (case a44=>k_is)
  (case l44=>k_is)
  (case c44=>k_is)
  (case k44=>k_is)
  (case i44=>k_is)
  (case a45=>k_is)
  (case l45=>k_is)
  (case c45=>k_is)
  (case k45=>k_is)
  (case i45=>k_is)
  (case a46=>k_is)
  (case l46=>k_is)
  (case c46=>k_is)
  (case k46=>k_is)
  (case i46=>k_is)
  (case a47=>k_is)
  (case l47=>k_is)
  (case c47=>k_is)
  (case k47=>k_is)
  (case i47=>k_is)
  (case a48=>k_is)
  (case l48=>k_is)
  (case c48=>k_is)
  (case k48=>k_is)
  (case i48=>k_is)
  (case a49=>k_is)
  (case l49=>k_is)
  (case c49=>k_is)
  (case k49=>k_is)
  (case i49=>k_is)
  (case z1=>k_is)
  (case z2=>k_is)
  (case z3=>k_is)
  (case z4=>k_is)
  (case z5=>k_is)
  (case z6=>k_is)
  (case z7=>k_is)
  (case z8=>k_is)
  (case z9=>k_is)
  (case z10=>k_is)
  (case z11=>k_is)
  (case z12=>k_is)
  (case z13=>k_is)
  (case z14=>k_is)
  (case z15=>k_is)
  (case z16=>k_is)
  (case z17=>k_is)
  (case z18=>k_is)
