import PyProof.Rows.All
import Wide.All
import OpenK.AllK
import Wide.FinOn
import Lean
import PyProof.EqAt
import PyProof.EqKinds
import PyProof.TupleCall
import KE.KRevIter
import PyProof.AutoListH
import KE.KDictOf
import PyProof.AttrMissHeap
import PyProof.ListRange
import PyProof.Rows.SortWalk
import PyProof.Rows.SetFrom
import PyProof.CollectWalk
import PyProof.SetRoads
import PyProof.MinMaxWalk
import PyProof.Rows.CallKwBuiltin
import PySem.Challenge.RW_evenyoke_k31_dealt_evenly
open And renaming intro→y5z
open Array renaming getElem?_toList→y37,length_toList→y3g,getElem?_eq_none→y5t
open Bool renaming false_ne_true→y0z,and_eq_true→y1b,eq_false_or_eq_true→y1o,false_eq_true→y27,eq_iff_iff→y2h,not_true→y4q,not_eq_true'→y5e,or_eq_true→y5x,false_and→y68,and_false→y69,true_and→y6k,eq_false_iff→y6w,not_false→y7m
open Int renaming eq_of_mul_eq_mul_right→y1h,eq_ofNat_of_zero_le→y1p,mul_right_comm→y1q,emod_nonneg→y1r,emod_lt_of_pos→y1u,le_refl→y20,gcd→y22,mul_le_mul_of_nonneg_right→y26,mul_comm→y28,mul_le_mul_of_nonneg_left→y2c,le_of_lt→y2e,mul_nonneg→y2g,mul_assoc→y2r,lt_or_le→y2t,natAbs_dvd_natAbs→y2u,dvd_trans→y30,toNat_natCast→y3c,mul_fdiv_cancel_left→y3d,le_trans→y3e,zero_add→y3f,le_of_eq→y3m,mul_lt_mul_of_pos_right→y3n,toNat→y3o,le_of_mul_le_mul_right→y3s,zero_mul→y3y,lt_of_lt_of_le→y42,natAbs_mul→y4e,mul_one→y4s,mul_pos→y4w,lt_of_mul_lt_mul_right→y50,fdiv_eq_ediv_of_nonneg→y51,natAbs_add_le→y5f,dvd_mul_right→y5i,mul_add→y5m,dvd_mul_left→y5q,ediv_nonneg→y5w,add_zero→y60,mul_ne_zero→y65,ediv_mul_cancel→y6d,natCast_nonneg→y6i,le_of_dvd→y6o,mul_left_comm→y6x,gcd_comm→y73,ediv_le_self→y76,neg_mul→y7e,neg_mul_neg→y7f,add_mul→y7j
open List renaming getElem?_eq_some_iff→y00,getElem?_eq_getElem→y01,mem_of_getElem?→y02,length_map→y04,getD_eq_getElem?_getD→y05,getElem?_map→y06,replicate→y07,getElem?_of_mem→y08,mem_singleton→y09,mem_cons_of_mem→y0a,take_of_length_le→y0c,mem_cons_self→y0d,length_append→y0e,range→y0f,map_append→y0g,size_toArray→y0h,mem_cons→y0k,map_cons→y0l,map_congr_left→y0m,sum_cons→y0q,getElem?_append_left→y0s,length_take→y0t,getElem?_eq_none→y0u,getElem?_set_self→y0v,getElem?_zip_eq_some→y0w,length_pos_iff→y0x,mem_append→y0y,getElem?_append_right→y10,getElem?_set_ne→y13,mem_append_right→y14,not_mem_nil→y15,mem_filter→y18,length_cons→y1a,of_mem_zip→y1c,mem_range→y1d,getLast?_eq_getElem?→y1e,getElem?_replicate→y1f,idxOf_lt_length_of_mem→y1g,mem_map→y1i,length_eq_zero_iff→y1j,length_replicate→y1k,getD→y1l,lookup_cons→y1m,replicate_succ→y1s,any_eq_true→y1t,contains_iff_mem→y1v,getElem?_range→y1w,sum_append→y1x,getLast?_eq_some_getLast→y1y,map_map→y1z,length_set→y2a,pairwise_iff_getElem→y2b,ext_getElem?→y2f,getElem_mem→y2i,all_eq_true→y2j,mem_flatMap→y2k,map_set→y2l,exists_cons_of_ne_nil→y2m,getElem?_dropLast→y2n,filterMap_cons→y2o,length_range→y2q,append_nil→y2s,count_pos_iff→y2w,append_assoc→y32,find?_cons→y35,map_replicate→y38,getElem?_eq_none_iff→y39,mem_append_left→y3a,mem_of_mem_take→y3b,filter_cons→y3h,filter_append→y3i,nodup_cons→y3j,foldl_cons→y3k,map_nil→y3l,length_filter_le→y3p,range_succ→y3q,flatten_cons→y3r,eq_of_mem_replicate→y3z,set_cons_zero→y40,set_cons_succ→y41,pairwise_cons→y44,length_zip→y45,drop_of_length_le→y47,pairwise_lt_range→y48,lookup→y4a,nodup_append→y4c,foldl_append→y4d,length_singleton→y4g,pairwise_flatMap→y4h,length_drop→y4j,countP_cons→y4l,nodup_range→y4m,count_range→y4n,nodup_iff_count→y4p,countP_eq_length_filter→y4r,range'→y4x,zip_append→y4y,flatMap_append→y4z,mem_filterMap→y52,getElem?_drop→y54,zip_cons_cons→y55,count_flatMap→y56,getElem_idxOf→y57,mem_or_eq_of_mem_set→y59,getElem?_take_of_lt→y5c,take_append_getElem→y5d,filter_congr→y5g,flatMap_cons→y5h,pairwise_map→y5j,eraseIdx_cons_succ→y5l,pairwise_singleton→y5o,isEmpty_nil→y5p,range_succ_eq_map→y5s,forIn_cons→y5y,count_cons→y61,length_nil→y63,getElem?_toArray→y64,take_append_drop→y66,length_dropLast→y67,length→y6a,filter_eq_self→y6b,perm_iff_count→y6c,reverse_append→y6f,count_eq_zero→y6j,filterMap_map→y6l,any_cons→y6m,getElem?_take→y6n,map_take→y6p,any_eq_false→y6q,zip_map_left→y6z,cons_append→y7a,filter_nil→y7i,foldl→y7n,map_drop→y7t
open List.Pairwise renaming imp_of_mem→y5k,nil→y6u
open Nat renaming le_refl→y0b,ne_of_lt→y0p,lt_of_lt_of_le→y0r,le_trans→y17,eq_zero_or_pos→y21,zero_le→y25,lt_succ_of_lt→y2p,lt_of_le_of_lt→y2v,lt_succ_self→y2x,lt_irrefl→y2y,lt_trichotomy→y33,ne_of_gt→y36,mul_le_mul_right→y3t,le_of_lt→y3w,lt_or_ge→y3x,not_lt_zero→y43,le_succ→y4b,min_self→y4i,le_add_right→y4k,pow_le_pow_right→y4o,le_mul_of_pos_right→y5n,lt_trans→y62,pow_pos→y6e,lt_succ_of_le→y6v,mod_lt→y6y,le_of_eq→y71,gcd_comm→y72,succ_ne_self→y77,lt_of_not_ge→y78,min_eq_right→y79,mod_eq_of_lt→y7b,pow_add→y7g,min_eq_left→y7h,add_mul→y7k,not_lt→y7q,le_of_dvd→y7s
open Option renaming map_eq_some_iff→y46,getD_none→y75,map_some→y7d
open Option.some renaming inj→y12
open Or renaming inr→y7c,inl→y7p
open PyProof.Rows renaming callWith_type1→y1n,callWith_builtin1→y4f
open PyProof.Rows.F renaming plain_set_update_loop→y31,entry_set_update_loop→y3u
open PySem renaming boot_len→y19,mem_of_lookup→y24,Within→y70,call→y7o
open PySem.F renaming plainAttrs_list→y2z
open PySem.SeqAt renaming shaped→y6h
open PySem.W renaming Frag→y03,keepIn→y0i,codeIn→y0j,fnOf→y0n,nsIn→y0o,findIn→y11,mg_none_of→y16,isFn→y23,kia_one→y29,emptyDict→y2d,instObj→y34,plainGet→y3v,hasDictIn→y49,plainGet_of→y4t,makesIn→y4u,OpenLaw→y4v,callWith_K→y53,lookIn→y58,methodObj→y5a,plainOver→y5b,cellsFrom_some→y5r,takerIn→y5u,methodCall_KW→y5v,mg_of→y6g,specialIn→y6r,kitx_list→y6s,kitx_dict→y6t,handedIn→y74,kitOne→y7l,WalkO→y7r
set_option compiler.extract_closed false
set_option Elab.async false
set_option linter.all false
set_option maxRecDepth 100000
namespace L2
open PySem PySem.Spec PyProof.Rows
abbrev Key:=Sum Int Str
def zdd:Key->Value->Bool
 | .inl k,v=>Value.isInt k v
 | .inr x,v=>Value.isStrOf x v
def zs6 (w:World):Key->Int
 | .inl k=>hashInt k
 | .inr x=>hashStr w x
theorem z1x:∀{k:Key} {v:Value},zdd k v=true->(∃i t,k=Sum.inl i/\v=Value.int i t)∨(∃x t,k=Sum.inr x/\v=Value.str x t)
 | .inl i,v,h=>by
  obtain⟨t,e⟩:=Value.isInt_shape (k:=i) (v:=v) h;exact .inl ⟨i,t,rfl,e⟩
 | .inr x,v,h=>by
  obtain⟨t,e⟩:=Value.isStrOf_shape (x:=x) (v:=v) h;exact .inr ⟨x,t,rfl,e⟩
theorem zic (i:Int)(t:Tok):zdd (.inl i) (.int i t)=true:=by simp[zdd,Value.isInt]
theorem zgr (x:Str)(t:Tok):zdd (.inr x) (.str x t)=true:=by simp[zdd,Value.isStrOf]
theorem zp3 (a b:Int):decide ((Sum.inl a:Key)=Sum.inl b)=(a==b):=by
 by_cases e:a=b
 ·subst e;simp
 ·have h:¬(Sum.inl a:Key)=Sum.inl b:=λq=>e (Sum.inl.inj q);rw[decide_eq_false h];exact(beq_eq_false_iff_ne.mpr e).symm
theorem zpl (a b:Str):decide ((Sum.inr a:Key)=Sum.inr b)=decide (a=b):=by
 by_cases e:a=b
 ·subst e;simp
 ·have h:¬(Sum.inr a:Key)=Sum.inr b:=λq=>e (Sum.inr.inj q);rw[decide_eq_false h,decide_eq_false e]
theorem zph (a:Int)(b:Str):decide ((Sum.inl a:Key)=Sum.inr b)=false:=decide_eq_false (λq=>nomatch q)
theorem zo4 (a:Str)(b:Int):decide ((Sum.inr a:Key)=Sum.inl b)=false:=decide_eq_false (λq=>nomatch q)
def z3f (prog:Program)(w:World):PySem.KeyKind prog w Key where
 is:=zdd
 hash:=zs6 w
 inj:=λv a b ha hb=>by
  rcases z1x ha with ⟨i,t,rfl,rfl⟩ | ⟨x,t,rfl,rfl⟩
  ·rcases z1x hb with ⟨j,u,rfl,e⟩ | ⟨y,u,rfl,e⟩
   ·injection e with e1 _;rw[e1]
   ·exact nomatch e
  ·rcases z1x hb with ⟨j,u,rfl,e⟩ | ⟨y,u,rfl,e⟩
   ·exact nomatch e
   ·injection e with e1 _;rw[e1]
 byValue:=λk v h=>by
  rcases z1x h with ⟨i,t,rfl,rfl⟩ | ⟨x,t,rfl,rfl⟩<;>rfl
 pyHash:=λhv h=>by
  rcases z1x hv with ⟨i,t,rfl,rfl⟩ | ⟨x,t,rfl,rfl⟩
  ·exact wpAny_pyHash_int h
  ·exact wpAny_pyHash_str h
 eqBool:=λhu hv h=>by
  rcases z1x hu with ⟨i,t,rfl,rfl⟩ | ⟨x,t,rfl,rfl⟩
  ·rcases z1x hv with ⟨j,u,rfl,rfl⟩ | ⟨y,u,rfl,rfl⟩
   ·rw[zp3] at h;exact wpAny_eqBool_int h
   ·rw[zph] at h;exact SeqAt.EqAt.int_str i t y u _ _ _ _ h
  ·rcases z1x hv with ⟨j,u,rfl,rfl⟩ | ⟨y,u,rfl,rfl⟩
   ·rw[zo4] at h;exact SeqAt.EqAt.str_int x t j u _ _ _ _ h
   ·rw[zpl] at h;exact wpAny_eqBool_str h
 «strs»:=λk x t v h=>by
  rcases z1x h with ⟨i,u,rfl,e⟩ | ⟨y,u,rfl,e⟩
  ·exact nomatch e
  ·injection e with e1 _
   subst e1;cases v<;>rfl
theorem zd7 (prog:Program)(w:World)(i:Int)(t:Tok):(z3f prog w).is (.inl i) (.int i t)=true:=zic i t
theorem zcp (prog:Program)(w:World)(x:Str)(t:Tok):(z3f prog w).is (.inr x) (.str x t)=true:=zgr x t
end L2
namespace L2
open PySem PySem.Spec PyProof.Rows
inductive V where
 | non | bl (b:Bool) | int (i:Int) | str (x:Str) | byt (b:Array UInt8) | flt (b:UInt64) | ref (a:Addr) | ty (n:String)
 deriving DecidableEq
def RelV:V->Value->Prop
 | .non,u=>u=Value.none
 | .bl b,u=>u=Value.bool b
 | .int i,u=>∃t,u=Value.int i t
 | .str x,u=>∃t,u=Value.str x t
 | .byt b,u=>∃t,u=Value.bytes b t
 | .flt b,u=>∃t,u=Value.float b t
 | .ref a,u=>u=Value.ref a
 | .ty n,u=>u=Value.type n
abbrev Vals:List V->List Value->Prop:=Paired RelV
theorem Vals.length {xs:List V}{us:List Value}(r:Vals xs us):xs.length=us.length:=Paired.length r
theorem Vals.get:∀{xs:List V} {us:List Value} {i:Nat} {x:V},Vals xs us->xs[i]?=some x->∃u,us[i]?=some u/\RelV x u
 | _,_,_,_,.nil,e=>by simp at e
 | _,_,0,_,.cons r _,e=>by simp at e;subst e;exact⟨_,rfl,r⟩
 | _,_,i+1,x,.cons _ t,e=>by
  obtain⟨u,h1,h2⟩:=Vals.get (i:=i) (x:=x) t (by simpa using e)
  exact⟨u,by simpa using h1,h2⟩
theorem Vals.set {x:V}{u:Value}(r:RelV x u):∀{xs:List V} {us:List Value} (i:Nat),Vals xs us->Vals (xs.set i x) (us.set i u)
 | _,_,_,.nil=>.nil
 | _,_,0,.cons _ t=>.cons r t
 | _,_,i+1,.cons q t=>.cons q (Vals.set r i t)
theorem Vals.append:∀{xs ys:List V} {us ws:List Value},Vals xs us->Vals ys ws->Vals (xs++ys) (us++ws)
 | _,_,_,_,.nil,s=>s
 | _,_,_,_,.cons r t,s=>.cons r (Vals.append t s)
theorem Vals.take:∀{xs:List V} {us:List Value} (n:Nat),Vals xs us->Vals (xs.take n) (us.take n)
 | _,_,0,_=>.nil
 | _,_,_+1,.nil=>.nil
 | _,_,n+1,.cons r t=>.cons r (Vals.take n t)
theorem Vals.drop:∀{xs:List V} {us:List Value} (n:Nat),Vals xs us->Vals (xs.drop n) (us.drop n)
 | _,_,0,r=>r
 | _,_,_+1,.nil=>.nil
 | _,_,n+1,.cons _ t=>Vals.drop n t
theorem Vals.none_of:∀{xs:List V} {us:List Value} {i:Nat},Vals xs us->xs[i]?=none->us[i]?=none:=λ{xs us i} r e=>by
 have h1:=r.length;have h2:xs.length≤i:=y39.mp e
 exact y39.mpr (by lia)
def RelO:Option V->Option Value->Prop
 | some v,some u=>RelV v u
 | none,none=>True
 | _,_=>False
def KV {κ:Type}:List (κ×V)->List (κ×Value)->Prop:=Paired λ(p:κ×V) (q:κ×Value)=>p.1=q.1/\RelV p.2 q.2
def kV:Key->V
 | .inl i=>.int i
 | .inr x=>.str x
inductive HO where
 /-- a list -/
 | lst (xs:List V)
 /-- a tuple (never changes) -/
 | tup (xs:List V)
 /-- a dict whose keys are ints and texts;one whose keys are tuples of ints and texts (the empty one is both) -/
 | dK (kvs:List (Key×V)) | dT (kvs:List (List Key×V))
 /-- a set of ints: its members,its size -/
 | set (S:Int->Bool) (n:Nat)
 /-- an instance of the class at C,its dict at dx,its attributes -/
 | ins (C dx:Addr) (fs:List (Str×V))
 /-- the dict of the instance at x -/
 | own (x:Addr)
 /-- the dict of an exception -/
 | xd (fs:List (Str×V))
 /-- a bound method,f of x -/
 | met (f x:Addr)
 /-- a range object lo,lo+1,.. below hi -/
 | rng (lo hi:Int)
 /-- a thing that is known to the object (the script;a dict while a loop walks it): read,never written while it is so -/
 | frz (o:Obj) (u:HO)
 /-- a code object's table -/
 | tbl (ps:Array Value)
 /-- any other thing,by what is true of its one object (a def of one's own: SetO a S n:=HO.ext λh=>..) -/
 | ext (φ:Heap->Prop)
abbrev Hp:=Addr->Option HO
def upd (H:Hp)(a:Addr)(o:HO):Hp:=λb=>if b=a then some o else H b
theorem z01 {H:Hp}{a:Addr}{o:HO}:upd H a o a=some o:=by unfold upd;rw[if_pos rfl]
theorem z0a {H:Hp}{a b:Addr}{o:HO}(h:b≠a):upd H a o b=H b:=by unfold upd;rw[if_neg h]
theorem z6q {H:Hp}{a b:Addr}{o u:HO}(h:H a=some o)(h':H b=some u)(d:o≠u):a≠b:=by
 intro e;subst e;rw[h] at h';exact d (y12 h')
theorem z08 {H:Hp}{a b:Addr}{o:HO}(h:H a=some o)(h':H b=none):a≠b:=by
 intro e;subst e;rw[h] at h';cases h'
section
variable (P:Program)(w:World)
def ObjOk (H:Hp)(h:Heap)(a:Addr):HO->Prop
 | .lst xs=>xs.length≤sizeLine/\∃(its:List Value) (n:Nat),Vals xs its/\h.get? a=some { cls:=.type "list",data:=.seq its.toArray n }
 | .tup xs=>xs.length≤sizeLine/\∃its:List Value,Vals xs its/\IsTup h a its.toArray
 | .dK kvs=>kvs.length≤sizeLine/\(a==sysModules)=false/\∃vs,KV kvs vs/\h.DictOf (z3f P w) a vs
 | .dT kvs=>kvs.length≤sizeLine/\(a==sysModules)=false/\∃xs:List (List Key×Addr×Value),
   Paired (λ(p:List Key×V) (q:List Key×Addr×Value)=>p.1=q.1/\H q.2.1=some (.tup (p.1.map kV))/\RelV p.2 q.2.2) kvs xs /\
   ∃o es ep,h.get? a=some o/\o.ExactDict/\o.data = .dict es ep/\es.toList=xs.map (entryOfKey (tupleKind (z3f P w)))/\(xs.map (·.1)).Nodup
 | .set S n=>h.SetOf (intKind P w) a S n
 | .ins C dx fs=>H dx=some (.own a)/\fs.length≤1000/\dx≠a/\h.get? a=some (y34 C dx) /\
   ∃mA,h.Ns1 dx mA/\(∀f,RelO (fs.lookup f) (mA f))/\y70 mA (fs.map (·.1))
 | .own _=>∃o,h.get? a=some o
 | .xd fs=>∃mA,h.Ns1 a mA/\∀f,RelO (fs.lookup f) (mA f)
 | .rng lo hi=>∃t u v,h.get? a=some { cls:=.type "range",data:=.fields #[.int lo t,.int hi u,.int 1 v] }
 | .frz o u=>h.get? a=some o/\ObjOk H h a u
 | .tbl ps=>h.get? a=some { cls:=.none,data:=.fields ps }
 | .met f x=>h.get? a=some (y5a (.ref f) (.ref x))
 | .ext φ=>φ h/\(∃o,h.get? a=some o)/\∀h1 h2:Heap,φ h1->(∀o,h1.get? a=some o->h2.get? a=some o)->φ h2
def HOk (H:Hp)(h:Heap):Prop:=∀a o,H a=some o->ObjOk P w H h a o
end
section
variable {P:Program}{w:World}{H H':Hp}{h h':Heap}{a:Addr}{o:HO}
theorem ObjOk.lt (x:ObjOk P w H h a o):a<h.objs.size:=by
 cases o with
 | lst xs=>obtain⟨_,_,_,_,e⟩:=x;exact Heap.lt_size e
 | tup xs=>obtain⟨_,_,_,p⟩:=x;exact p.lt
 | dK kvs=>obtain⟨_,_,_,_,o,_,_,e,_⟩:=x;exact Heap.lt_size e
 | dT kvs=>obtain⟨_,_,_,_,o,_,_,e,_⟩:=x;exact Heap.lt_size e
 | set S n=>obtain⟨o,_,_,_,e,_⟩:=x;exact Heap.lt_size e
 | ins C dx fs=>obtain⟨_,_,_,e,_⟩:=x;exact Heap.lt_size e
 | own y=>obtain⟨_,e⟩:=x;exact Heap.lt_size e
 | xd fs=>obtain⟨_,⟨_,_,_,e,_⟩,_⟩:=x;exact Heap.lt_size e
 | rng lo hi=>obtain⟨_,_,_,e⟩:=x;exact Heap.lt_size e
 | frz ob u=>obtain⟨e,_⟩:=x;exact Heap.lt_size e
 | tbl ps=>exact Heap.lt_size (show h.get? a=some _ from x)
 | met f y=>exact Heap.lt_size (show h.get? a=some _ from x)
 | ext φ=>obtain⟨_,⟨_,e⟩,_⟩:=x;exact Heap.lt_size e
theorem Paired.mapP {α β:Type}{F G:α->β->Prop}:∀{l₁:List α} {l₂:List β},Paired F l₁ l₂->(∀a b,F a b->G a b)->Paired G l₁ l₂
 | _,_,.nil,_=>.nil
 | _,_,.cons r t,f=>.cons (f _ _ r) (Paired.mapP t f)
theorem ObjOk.stay (x:ObjOk P w H h a o)(k:∀b u,(b=a∨H b=some (.own a))->h.get? b=some u->h'.get? b=some u)
  (ho:∀b,H b=some (.own a)->H' b=some (.own a)) (ht:∀b xs,H b=some (.tup xs)->H' b=some (.tup xs)):ObjOk P w H' h' a o:=by
 induction o with
 | lst xs=>obtain⟨z,its,n,r,e⟩:=x;exact⟨z,its,n,r,k _ _ (.inl rfl) e⟩
 | tup xs=>obtain⟨z,its,r,ob,e,c⟩:=x;exact⟨z,its,r,ob,k _ _ (.inl rfl) e,c⟩
 | dK kvs=>obtain⟨z,y,vs,r,ob,es,ep,e,c⟩:=x;exact⟨z,y,vs,r,ob,es,ep,k _ _ (.inl rfl) e,c⟩
 | dT kvs =>
  obtain⟨z,y,xs,r,ob,es,ep,e,c⟩:=x;exact⟨z,y,xs,Paired.mapP r λp q z=>⟨z.1,ht _ _ z.2.1,z.2.2⟩,ob,es,ep,k _ _ (.inl rfl) e,c⟩
 | set S n=>obtain⟨ob,es,ep,t,e,c⟩:=x;exact⟨ob,es,ep,t,k _ _ (.inl rfl) e,c⟩
 | ins C dx fs =>
  obtain⟨d,z,ne,e,mA,⟨od,es,ep,e2,c⟩,r⟩:=x;exact⟨ho _ d,z,ne,k _ _ (.inl rfl) e,mA,⟨od,es,ep,k _ _ (.inr d) e2,c⟩,r⟩
 | own y=>obtain⟨ob,e⟩:=x;exact⟨ob,k _ _ (.inl rfl) e⟩
 | xd fs=>obtain⟨mA,⟨od,es,ep,e,c⟩,r⟩:=x;exact⟨mA,⟨od,es,ep,k _ _ (.inl rfl) e,c⟩,r⟩
 | rng lo hi=>obtain⟨t,u,v,e⟩:=x;exact⟨t,u,v,k _ _ (.inl rfl) e⟩
 | frz ob u ih=>obtain⟨e,q⟩:=x;exact⟨k _ _ (.inl rfl) e,ih q⟩
 | tbl ps =>
  have e:h.get? a=some { cls:=.none,data:=.fields ps }:=x;show h'.get? a=some { cls:=.none,data:=.fields ps };exact k a _ (.inl rfl) e
 | met f y =>
  have e:h.get? a=some (y5a (.ref f) (.ref y)):=x;show h'.get? a=some (y5a (.ref f) (.ref y));exact k a _ (.inl rfl) e
 | ext φ=>obtain⟨p,⟨o,e⟩,st⟩:=x;exact⟨st _ _ p λo q=>k _ _ (.inl rfl) q,⟨o,k _ _ (.inl rfl) e⟩,st⟩
theorem HOk.lt (x:HOk P w H h)(e:H a=some o):a<h.objs.size:=(x a o e).lt
theorem HOk.fresh (x:HOk P w H h)(e:h.objs.size≤a):H a=none:=by
 cases q:H a with
 | none=>rfl
 | some u=>exact absurd (y0r (x.lt q) e) (y2y _)
theorem HOk.kept (x:HOk P w H h)(k:∀b u,h.get? b=some u->h'.get? b=some u):HOk P w H h':=λa o e =>
 (x a o e).stay (λb u _ q=>k b u q) (λ_ q=>q) λ_ _ q=>q
theorem HOk.laid (x:HOk P w H h)(k:∀b u,h.get? b=some u->h'.get? b=some u)(hp:h.objs.size≤a)(new:ObjOk P w (upd H a o) h' a o):HOk P w (upd H a o) h':=λb u e=>by
 have hn:=x.fresh hp
 by_cases hb:b=a
 ·subst hb;rw[z01] at e;cases e;exact new
 ·rw[z0a hb] at e;exact(x b u e).stay (λc v _ q=>k c v q) (λc q=>by rw[z0a (z08 q hn)];exact q) λc xs q=>by rw[z0a (z08 q hn)];exact q
end
def Rd (H:Hp)(a:Addr)(u:HO):Prop:=H a=some u∨∃o,H a=some (.frz o u)
theorem Rd.ok {P:Program}{w:World}{H:Hp}{h:Heap}{a:Addr}{u:HO}(r:Rd H a u)(x:HOk P w H h):ObjOk P w H h a u:=by
 rcases r with r | ⟨o,r⟩
 ·exact x a u r
 ·obtain⟨_,q⟩:=x a _ r;exact q
def Mut:Option HO->Prop
 | some (.lst _)=>True
 | some (.dK _)=>True
 | some (.dT _)=>True
 | some (.set _ _)=>True
 | some (.ins _ _ _)=>True
 | some (.ext _)=>True
 | _=>False
section
variable {P:Program}{w:World}{H:Hp}{h h':Heap}{x e:Addr}{o':HO}
theorem HOk.write (ok:HOk P w H h)(mu:Mut (H x))(he:e=x∨H e=some (.own x))(k:∀b u,b≠e->h.get? b=some u->h'.get? b=some u)(heo:∃u,h'.get? e=some u)
  (new:ObjOk P w (upd H x o') h' x o'):HOk P w (upd H x o') h':=λb u q=>by
 have nown:∀c y,H c=some (.own y)->c≠x:=λc y r z=>by subst z;rw[r] at mu;exact mu
 have ntup:∀c xs,H c=some (.tup xs)->c≠x:=λc xs r z=>by subst z;rw[r] at mu;exact mu
 by_cases hb:b=x
 ·subst hb;rw[z01] at q;cases q;exact new
 ·rw[z0a hb] at q
  by_cases hbe:b=e
  ·have q':H b=some (.own x):=by
    rcases he with z | z
    ·exact absurd (hbe.trans z) hb
    ·rw[hbe];exact z
   rw[q] at q';cases q';obtain⟨v,hv⟩:=heo;exact⟨v,by rw[hbe];exact hv⟩
  ·refine(ok b u q).stay (λc v hc r=>k c v ?_ r) (λc r=>by rw[z0a (nown c b r)];exact r) λc xs r=>by rw[z0a (ntup c xs r)];exact r
   rcases hc with rfl | hc
   ·exact hbe
   ·rintro rfl;rcases he with z | z
    ·exact nown c b hc z
    ·rw[hc] at z;cases z;exact hb rfl
end
structure Un (fs ex:List Addr)(H H':Hp)(h h':Heap):Prop where
 keep:∀b o,h.get? b=some o->H b=none->b ∉ fs->b ∉ ex->h'.get? b=some o
 slot:∀b o,h.get? b=some o->H b=none->b∈fs->b ∉ ex->∃sl,h'.get? b=some { o with slots:=sl }
 free:∀b o,h.get? b=some o->H b=none->b ∉ ex->H' b=none
 there:∀b o,h.get? b=some o->b ∉ ex->∃o',h'.get? b=some o'
 tups:∀b xs,H b=some (.tup xs)->H' b=some (.tup xs)
 frzs:∀b o u,H b=some (.frz o u)->H' b=some (.frz o u)
 tbls:∀b ps,H b=some (.tbl ps)->∃more,H' b=some (.tbl (ps++more))
section
variable {fs fs' ex ex':List Addr}{H H1 H2:Hp}{h h1 h2 h':Heap}{a x e:Addr}{o:HO}
theorem Un.any (u:Un fs ex H H1 h h1){b:Addr}{ob:Obj}(q:h.get? b=some ob)(n:H b=none)(hx:b ∉ ex):∃sl,h1.get? b=some { ob with slots:=sl }:=by
 by_cases hb:b∈fs
 ·exact u.slot b ob q n hb hx
 ·exact⟨ob.slots,u.keep b ob q n hb hx⟩
theorem Un.kept (k:∀b u,h.get? b=some u->h'.get? b=some u):Un fs ex H H h h' :=
 ⟨λb ob q _ _ _=>k b ob q,λb ob q _ _ _=>⟨ob.slots,k b ob q⟩,λ_ _ _ n _=>n,λb ob q _=>⟨ob,k b ob q⟩,λ_ _ q=>q,λ_ _ _ q=>q,λ_ ps q=>⟨#[],by rw[q];simp⟩⟩
theorem Un.refl:Un fs ex H H h h:=Un.kept λ_ _ q=>q
theorem Un.laid (k:∀b u,h.get? b=some u->h'.get? b=some u)(hp:h.objs.size≤a)(hn:H a=none):Un fs ex H (upd H a o) h h' where
 keep:=λb u q _ _ _=>k b u q
 slot:=λb u q _ _ _=>⟨u.slots,k b u q⟩
 free:=λb u q n _=>by rw[z0a (y0p (y0r (Heap.lt_size q) hp))];exact n
 there:=λb u q _=>⟨u,k b u q⟩
 tups:=λb xs q=>by rw[z0a (z08 q hn)];exact q
 frzs:=λb u xs q=>by rw[z0a (z08 q hn)];exact q
 tbls:=λb ps q=>⟨#[],by rw[z0a (z08 q hn),q];simp⟩
theorem Un.write (mu:Mut (H x))(he:e=x∨H e=some (.own x))(k:∀b u,b≠e->h.get? b=some u->h'.get? b=some u)(heo:∃u,h'.get? e=some u):Un fs ex H (upd H x o) h h':=by
 have hx:∀b,H b=none->b≠x:=λb n z=>by subst z;rw[n] at mu;exact mu
 have hb:∀b,H b=none->b≠e:=λb n z=>by
  subst z;rcases he with r | r
  ·exact hx b n r
  ·rw[n] at r;cases r
 have hm:∀b u,H b=some u->¬Mut (some u)->b≠x:=λb u q nm z=>by subst z;rw[q] at mu;exact nm mu
 refine⟨λb u q n _ _=>k b u (hb b n) q,λb u q n _ _=>⟨u.slots,k b u (hb b n) q⟩,λb u q n _=>by rw[z0a (hx b n)];exact n,λb u q _=>?_,
  λb xs q=>by rw[z0a (hm b _ q λz=>z)];exact q,λb u xs q=>by rw[z0a (hm b _ q λz=>z)];exact q,λb ps q=>⟨#[],by rw[z0a (hm b _ q λz=>z),q];simp⟩⟩
 by_cases hbe:b=e
 ·subst hbe;exact heo
 ·exact⟨u,k b u hbe q⟩
end
def trk (h:Heap)(H:Hp):List Addr:=(y0f h.objs.size).filter λa=>(H a).isSome
def zki (h:Heap)(H:Hp):Heap:=PySem.W.hideAll h (trk h H)
theorem zgp (h:Heap)(H:Hp):(zki h H).objs.size=h.objs.size:=PySem.W.hideAll_size _ _
theorem zkb {h:Heap}{H:Hp}{b:Addr}{o:Obj}(e:h.get? b=some o)(n:H b=none):(zki h H).get? b=some o :=
 PySem.W.hideAll_get _ e λhm=>by
  have q:(H b).isSome=true:=(y18.mp hm).2;rw[n] at q;simp at q
theorem zm9 {h:Heap}{H:Hp}{b:Addr}{o:Obj}(e:(zki h H).get? b=some o):h.get? b=some o/\H b=none:=by
 have e':h.get? b=some o:=PySem.W.of_hideAll (trk h H) e;refine⟨e',?_⟩;cases q:H b with
 | none=>rfl
 | some x =>
  have hm:b∈trk h H:=y18.mpr ⟨y1d.mpr (Heap.lt_size e'),by simp[q]⟩
  have z:(zki h H).get? b=none:=PySem.W.hideAll_none (trk h H) hm;rw[z] at e;cases e
def zni (g h:Heap)(L:Addr):List (Addr×Obj):=(y0f h.objs.size).filterMap λa=>if a=L∨(g.get? a).isSome=true then none else (h.get? a).map λo=>(a,o)
def rest (g h:Heap)(L d:Addr):List (Addr×Obj):=(zni g h L).filter λp=>decide (p.1≠d)
end L2
namespace L2
open PySem PySem.Spec PyProof.Rows
structure Mod (K:y03)(mg:Str->Option Value)(base:Heap):Prop where
 kin:K.In base
 glob:base.Ns mainGlobals mg
 blt:∃mb,base.Ns builtinsNs mb/\∀x:Str,x ≠ "__name__"->mb x=bootBuiltins x
 nolimit:base.NoLimit
structure Cx where
 prog:Program
 w:World
 K:y03
 mg:Str->Option Value
 base:Heap
 A:Around
 N:List Str
 s₀:Shared
 H₀:Hp
 env:Env
 outer:List Env
 stack:List Env
 ex:List Addr
 fn:Str->Bool
 calm:Bool
 pn:List (Addr×Obj)
 xe:Value->Shared->Prop
def frs (l:List Env):List Addr:=l.filterMap (·.frame)
abbrev Cx.fs (X:Cx):List Addr:=frs X.outer
def Vis (sc:Scope)(x:Str):Prop:=sc.names.lookup x=some .local∨sc.names.lookup x=some .cell∨sc.names.lookup x=some .free
def Loc (sc:Scope)(x:Str):Prop:=sc.names.lookup x=some .local∨sc.names.lookup x=some .cell
def zsd (env:Env)(h:Heap)(m:Str->Option Value)(x:Str)(u:Value):Prop :=
 (env.kindOf x=some .local/\m x=some u)∨((env.kindOf x=some .cell∨env.kindOf x=some .free)/\∃c,env.cells.lookup x=some c/\h.IsCell c (some u))
structure Cx.Ok (X:Cx):Prop where
 mod:Mod X.K X.mg X.base
 kind:X.env.scope.kind = .function
 glob:X.env.globals=mainGlobals
 blt:X.env.builtins=builtinsNs
 above:X.s₀.heap.objs.size≤X.env.locals
 inj:∀x y c,X.env.cells.lookup x=some c->X.env.cells.lookup y=some c->x=y
 has:∀x,(X.env.kindOf x=some .cell∨X.env.kindOf x=some .free)->∃c,X.env.cells.lookup x=some c
 cab:∀x c,X.fn x=true->X.env.cells.lookup x=some c->X.s₀.heap.objs.size≤c
 hd:X.calm=true->X.A.handled=none
 frames:X.A.frames=some X.stack
 stk:X.stack=X.outer∨(X.stack=X.env::X.outer/\X.env.frame=some X.env.locals)
 exf:∀b∈X.ex,b≠X.env.locals/\∀x c,X.env.cells.lookup x=some c->c≠b
 bs:∀b o,X.base.get? b=some o->X.s₀.heap.get? b=some o/\X.H₀ b=none
 bsz:X.base.objs.size≤X.s₀.heap.objs.size
 noex:∀b o,X.base.get? b=some o->b ∉ X.ex
 exfs:∀b∈X.ex,b ∉ X.fs
 funs:X.s₀.heap.FunFrames X.base X.outer
 frf:∀b∈X.fs,X.H₀ b=none
structure Inv (X:Cx)(ao:List (Addr×Obj))(σ:List (Option V))(H:Hp)(s:Shared):Prop where
 ok:X.Ok
 os:s.os=X.s₀.os
 bare:AllBare s.gens
 base:Un X.fs X.ex X.H₀ H X.s₀.heap s.heap
 loc:∃m,s.heap.Ns X.env.locals m/\∀(i:Nat) (x:Str) (v:V),X.N[i]?=some x->σ[i]?=some (some v)->Vis X.env.scope x->∃u,RelV v u/\zsd X.env s.heap m x u
 cell:∀x c,X.env.cells.lookup x=some c->∃v,s.heap.IsCell c v
 free:H X.env.locals=none
 freeC:∀x c,X.env.cells.lookup x=some c->H c=none
 pin:∀p∈X.pn++ao,s.heap.get? p.1=some p.2/\H p.1=none/\p.1≠X.env.locals/\p.1 ∉ X.fs/\∀v,p.2.data ≠ .cell v
 hok:HOk X.prog X.w H s.heap
 len:σ.length=X.N.length
section
variable {X:Cx}{ao:List (Addr×Obj)}{σ:List (Option V)}{H H':Hp}{s:Shared}{h':Heap}
theorem Cx.Ok.nofr (ok:X.Ok){b:Addr}{o:Obj}(e:X.base.get? b=some o):b ∉ X.fs:=λhb=>by
 have:=(ok.funs.mem hb).1;rw[e] at this;cases this
theorem Inv.bs (I:Inv X ao σ H s):∀b o,X.base.get? b=some o->s.heap.get? b=some o/\H b=none:=λb o e =>
 ⟨I.base.keep b o (I.ok.bs b o e).1 (I.ok.bs b o e).2 (I.ok.nofr e) (I.ok.noex b o e),I.base.free b o (I.ok.bs b o e).1 (I.ok.bs b o e).2 (I.ok.noex b o e)⟩
theorem Inv.bk (I:Inv X ao σ H s):∀b o,X.base.get? b=some o->s.heap.get? b=some o:=λb o e=>(I.bs b o e).1
theorem Inv.mod (I:Inv X ao σ H s):Mod X.K X.mg X.base:=I.ok.mod
theorem Inv.kIn (I:Inv X ao σ H s):X.K.In s.heap:=I.ok.mod.kin.keeps I.bk
theorem Inv.lt (I:Inv X ao σ H s):X.env.locals<s.heap.objs.size:=let ⟨_,hn,_⟩:=I.loc;hn.lt
theorem Inv.sz (I:Inv X ao σ H s):X.s₀.heap.objs.size≤s.heap.objs.size:=y17 I.ok.above (y3w I.lt)
theorem Inv.nofs (I:Inv X ao σ H s){a:Addr}(h:s.heap.objs.size≤a):a ∉ X.fs:=λhb=>by
 obtain⟨_,o,ho,_⟩:=I.ok.funs.mem hb;exact absurd (y0r (Heap.lt_size ho) (y17 I.sz h)) (y2y _)
theorem Inv.cne (I:Inv X ao σ H s):∀x c,X.env.cells.lookup x=some c->c≠X.env.locals:=λx c e z=>by
 obtain⟨v,o,ho,hd⟩:=I.cell x c e;obtain⟨m,⟨o',es,ep,ho',hd',_⟩,_⟩:=I.loc;rw[z,ho'] at ho;cases ho;rw[hd'] at hd;cases hd
theorem Inv.funs (I:Inv X ao σ H s):s.heap.FunFrames X.base X.outer:=by
 have all:∀(l:List Env),(∀b∈frs l,b∈X.fs)->X.s₀.heap.FunFrames X.base l->s.heap.FunFrames X.base l:=by
  intro l
  induction l with
  | nil=>intro _ _;trivial
  | cons env r ih =>
   intro hs hl;obtain⟨hk,⟨L,o,hf,hn,ho,hd⟩,hr⟩:=hl;have hL:L∈X.fs:=hs L (by unfold frs;rw[y2o,hf];exact y0d)
   obtain⟨sl,e⟩:=I.base.slot L o ho (I.ok.frf L hL) hL λz=>I.ok.exfs L z hL;exact⟨hk,⟨L,_,hf,hn,e,hd⟩,ih (λb hb=>hs b (by unfold frs;rw[y2o,hf];exact y0a _ hb)) hr⟩
 exact all X.outer (λ_ hb=>hb) I.ok.funs
theorem Inv.stack (I:Inv X ao σ H s):s.heap.FunFrames X.base X.stack:=by
 rcases I.ok.stk with e | ⟨e,hf⟩
 ·rw[e];exact I.funs
 ·rw[e];obtain⟨m,hn,_⟩:=I.loc;refine .cons (by rw[I.ok.kind];decide) hf hn ?_ I.funs
  exact Heap.get?_none_of_le (y17 I.ok.bsz I.ok.above)
theorem Inv.stkSub (I:Inv X ao σ H s):∀b∈frs X.stack,b∈X.env.locals::X.fs:=λb hb=>by
 rcases I.ok.stk with e | ⟨e,hf⟩
 ·rw[e] at hb;exact y0a _ hb
 ·rw[e] at hb;unfold frs at hb;rw[y2o,hf] at hb;exact hb
theorem Inv.stkFree (I:Inv X ao σ H s):∀b∈frs X.stack,H b=none:=λb hb=>by
 rcases y0k.mp (I.stkSub b hb) with e | hb
 ·rw[e];exact I.free
 ·obtain⟨_,o,ho,_⟩:=I.ok.funs.mem hb;exact I.base.free b o ho (I.ok.frf b hb) λz=>I.ok.exfs b z hb
theorem Inv.step {g':Array GenState}{t':Nat}{d':Drawn}{ch:List Addr}(I:Inv X ao σ H s)
  (hch:∀b∈ch,(b∈X.ex∨X.s₀.heap.objs.size≤b)/\b≠X.env.locals/\(∀x c,X.env.cells.lookup x=some c->c≠b)/\∀p∈X.pn++ao,p.1≠b)
  (keep:∀b o,b≠X.env.locals->b ∉ X.fs->b ∉ ch->s.heap.get? b=some o->H b=none->h'.get? b=some o)
  (slot:∀b o,b≠X.env.locals->b∈X.fs->b ∉ ch->s.heap.get? b=some o->H b=none->∃sl,h'.get? b=some { o with slots:=sl }) (free:∀b o,b ∉ ch->s.heap.get? b=some o->H b=none->H' b=none)
  (there:∀b o,b ∉ ch->s.heap.get? b=some o->∃o',h'.get? b=some o')
  (tups:∀b xs,H b=some (.tup xs)->H' b=some (.tup xs)) (frzs:∀b o u,H b=some (.frz o u)->H' b=some (.frz o u)) (tbls:∀b ps,H b=some (.tbl ps)->∃more,H' b=some (.tbl (ps++more)))
  (ns:∀m,s.heap.Ns X.env.locals m->h'.Ns X.env.locals m) (hok:HOk X.prog X.w H' h') (hg:AllBare g') :
  Inv X ao σ H' { s with heap:=h',gens:=g',drawn:=d',toks:=t' }:=by
 have neL:∀b o,X.s₀.heap.get? b=some o->b≠X.env.locals:=λb o e=>y0p (y0r (Heap.lt_size e) I.ok.above);have neC:∀b o,X.s₀.heap.get? b=some o->b ∉ X.ex->b ∉ ch:=λb o e hx hb=>by
  rcases (hch b hb).1 with z | z
  ·exact hx z
  ·exact absurd (y0r (Heap.lt_size e) z) (y2y _)
 have cellK:∀x c,X.env.cells.lookup x=some c->∀v,s.heap.IsCell c v->h'.IsCell c v:=λx c e v ⟨o,ho,hd⟩=>by
  have nch:c ∉ ch:=λz=>(hch c z).2.2.1 x c e rfl
  by_cases hc:c∈X.fs
  ·obtain⟨sl,q⟩:=slot c o (I.cne x c e) hc nch ho (I.freeC x c e);exact⟨_,q,hd⟩
  ·exact⟨o,keep c o (I.cne x c e) hc nch ho (I.freeC x c e),hd⟩
 refine⟨I.ok,I.os,hg,⟨λb o e n hb hx=>?_,λb o e n hb hx=>?_,λb o e n hx=>?_,λb o e hx=>?_,λb xs e=>tups b xs (I.base.tups b xs e),λb o xs e=>frzs b o xs (I.base.frzs b o xs e),λb ps e=>?_⟩,?_,λx c e=>?_,?_,λx c e=>?_,λp hp=>?_,hok,I.len⟩
 ·exact keep b o (neL b o e) hb (neC b o e hx) (I.base.keep b o e n hb hx) (I.base.free b o e n hx)
 ·obtain⟨sl,e1⟩:=I.base.slot b o e n hb hx;obtain⟨sl',e2⟩:=slot b _ (neL b o e) hb (neC b o e hx) e1 (I.base.free b o e n hx);exact⟨sl',e2⟩
 ·obtain⟨o',e1⟩:=I.base.there b o e hx;exact free b o' (neC b o e hx) e1 (I.base.free b o e n hx)
 ·obtain⟨o',e1⟩:=I.base.there b o e hx;exact there b o' (neC b o e hx) e1
 ·obtain⟨m1,e1⟩:=I.base.tbls b ps e;obtain⟨m2,e2⟩:=tbls b _ e1;exact⟨m1++m2,by rw[e2,Array.append_assoc]⟩
 ·obtain⟨m,hn,hl⟩:=I.loc;refine⟨m,ns m hn,λi x v e1 e2 e3=>?_⟩;obtain⟨u,r,l⟩:=hl i x v e1 e2 e3;refine⟨u,r,?_⟩;rcases l with l | ⟨k,c,e,z⟩
  ·exact .inl l
  ·exact .inr ⟨k,c,e,cellK x c e _ z⟩
 ·obtain⟨v,z⟩:=I.cell x c e;exact⟨v,cellK x c e v z⟩
 ·obtain⟨m,⟨o,_,_,ho,_⟩,_⟩:=I.loc;exact free _ o (λz=>(hch _ z).2.1 rfl) ho I.free
 ·obtain⟨v,o,ho,hd⟩:=I.cell x c e;exact free c o (λz=>(hch c z).2.2.1 x c e rfl) ho (I.freeC x c e)
 ·obtain⟨e,n,ne,nf,d⟩:=I.pin p hp;have nch:p.1 ∉ ch:=λz=>(hch p.1 z).2.2.2 p hp rfl;exact⟨keep p.1 p.2 ne nf nch e n,free p.1 p.2 nch e n,ne,nf,d⟩
theorem Inv.un {t':Nat}(I:Inv X ao σ H s)(u:Un X.fs [] H H' s.heap h')(hok:HOk X.prog X.w H' h'):Inv X ao σ H' { s with heap:=h',toks:=t' }:=by
 obtain⟨m,⟨o,es,ep,ho,r⟩,_⟩:=id I.loc;obtain⟨sl,hL⟩:=u.any ho I.free (by simp)
 exact I.step (g':=s.gens) (d':=s.drawn) (ch:=[]) (λ_ z=>nomatch z) (λb o _ hb _ e n=>u.keep b o e n hb (by simp)) (λb o _ hb _ e n=>u.slot b o e n hb (by simp)) (λb o _ e n=>u.free b o e n (by simp)) (λb o _ e=>u.there b o e (by simp)) u.tups u.frzs u.tbls (λm' hm=>by
  obtain⟨o',es',ep',ho',r'⟩:=hm;rw[ho] at ho';cases ho';exact⟨_,es',ep',hL,r'⟩) hok I.bare
theorem Inv.call {g':Array GenState}{t':Nat}{d':Drawn}{ch:List Addr}(I:Inv X ao σ H s)(u:Un (frs X.stack) ch H H' s.heap h')(hok:HOk X.prog X.w H' h')(hg:AllBare g')
  (hch:∀b∈ch,(b∈X.ex∨X.s₀.heap.objs.size≤b)/\b≠X.env.locals/\(∀x c,X.env.cells.lookup x=some c->c≠b)/\∀p∈X.pn++ao,p.1≠b) :
  Inv X ao σ H' { s with heap:=h',gens:=g',drawn:=d',toks:=t' }:=by
 obtain⟨m,⟨o,es,ep,ho,r⟩,_⟩:=id I.loc;obtain⟨sl,hL⟩:=u.any ho I.free λz=>(hch _ z).2.1 rfl;exact I.step (ch:=ch) hch (λb o hL hb hc e n=>u.keep b o e n (λz=>(y0k.mp (I.stkSub b z)).elim hL hb) hc) (λb o _ _ hc e n=>u.any e n hc) (λb o hc e n=>u.free b o e n hc) (λb o hc e=>u.there b o e hc) u.tups u.frzs u.tbls (λm' hm=>by
  obtain⟨o',es',ep',ho',r'⟩:=hm;rw[ho] at ho';cases ho';exact⟨_,es',ep',hL,r'⟩) hok hg
theorem Inv.turned {t':Nat}{it:Addr}(I:Inv X ao σ H s)(k:∀b o,b≠it->s.heap.get? b=some o->h'.get? b=some o)(hn:H it=none)(hL:it≠X.env.locals)
  (h1:it∈X.ex∨X.s₀.heap.objs.size≤it) (h2:∀x c,X.env.cells.lookup x=some c->c≠it) (h3:∀p∈X.pn++ao,p.1≠it):Inv X ao σ H { s with heap:=h',toks:=t' }:=by
 have nit:∀b u,H b=some u->b≠it:=λb u e z=>by rw[z,hn] at e;cases e
 refine I.step (g':=s.gens) (d':=s.drawn) (ch:=[it]) (λb hb=>?_) (λb o _ _ hc e _=>k b o (λz=>hc (by simp[z])) e) (λb o _ _ hc e _=>⟨o.slots,k b o (λz=>hc (by simp[z])) e⟩) (λ_ _ _ _ n=>n)
  (λb o hc e=>⟨o,k b o (λz=>hc (by simp[z])) e⟩) (λ_ _ e=>e) (λ_ _ _ e=>e) (λb ps e=>⟨#[],by rw[e];simp⟩) (λm hm=>?_) (λb u e=>?_) I.bare
 ·have e:b=it:=by simpa using hb
  subst e;exact⟨h1,hL,h2,h3⟩
 ·obtain⟨o,es,ep,ho,r⟩:=hm;exact⟨o,es,ep,k _ o (Ne.symm hL) ho,r⟩
 ·refine(I.hok b u e).stay (λc v hc q=>k c v ?_ q) (λ_ q=>q) λ_ _ q=>q;rcases hc with z | z
  ·rw[z];exact nit b u e
  ·exact nit c _ z
theorem Inv.tok (I:Inv X ao σ H s)(t:Nat):Inv X ao σ H { s with toks:=t }:=I.un (h':=s.heap) (t':=t) Un.refl I.hok
theorem Inv.kept {t':Nat}(I:Inv X ao σ H s)(k:∀b u,s.heap.get? b=some u->h'.get? b=some u):Inv X ao σ H { s with heap:=h',toks:=t' }:=I.un (Un.kept k) (I.hok.kept k)
theorem Inv.laid {a:Addr}{o:HO}{t':Nat}(I:Inv X ao σ H s)(k:∀b u,s.heap.get? b=some u->h'.get? b=some u)(hp:s.heap.objs.size≤a)(new:ObjOk X.prog X.w (upd H a o) h' a o) :
  Inv X ao σ (upd H a o) { s with heap:=h',toks:=t' }:=I.un (Un.laid k hp (I.hok.fresh hp)) (I.hok.laid k hp new)
theorem Inv.write {x e:Addr}{o:HO}{t':Nat}(I:Inv X ao σ H s)(mu:Mut (H x))(he:e=x∨H e=some (.own x))(k:∀b u,b≠e->s.heap.get? b=some u->h'.get? b=some u)(heo:∃u,h'.get? e=some u)
  (new:ObjOk X.prog X.w (upd H x o) h' x o):Inv X ao σ (upd H x o) { s with heap:=h',toks:=t' }:=I.un (Un.write mu he k heo) (I.hok.write mu he k heo new)
theorem Inv.weak {σ':List (Option V)}(I:Inv X ao σ H s)(hl:σ'.length = σ.length)(w:∀(i:Nat) v,σ'[i]?=some (some v)->σ[i]?=some (some v)):Inv X ao σ' H s :=
 ⟨I.ok,I.os,I.bare,I.base,let ⟨m,hn,hl'⟩:=I.loc;⟨m,hn,λi x v e1 e2 e3=>hl' i x v e1 (w i v e2) e3⟩,I.cell,I.free,I.freeC,I.pin,I.hok,hl.trans I.len⟩
theorem Inv.pins_of {pins':List (Addr×Obj)}(I:Inv X ao σ H s)(h:∀p∈pins',s.heap.get? p.1=some p.2/\H p.1=none/\p.1≠X.env.locals/\p.1 ∉ X.fs/\∀v,p.2.data ≠ .cell v):Inv X pins' σ H s :=
 ⟨I.ok,I.os,I.bare,I.base,I.loc,I.cell,I.free,I.freeC,λp hp=>(y0y.mp hp).elim (λz=>I.pin p (y3a _ z)) (h p),I.hok,I.len⟩
theorem ze2 {N:List Str}(hN:N.Nodup){i j:Nat}{x:Str}(a:N[i]?=some x)(b:N[j]?=some x):i=j:=by
 obtain⟨h1,e1⟩:=y00.mp a;obtain⟨h2,e2⟩:=y00.mp b;exact(List.getElem_inj hN).mp (e1.trans e2.symm)
theorem zi6 {M:Model}{A:Around}{E:Value->Shared->Prop}{i:Nat}{x:Str}{v:V}{u:Value}{Q:Unit->Shared->Prop}(I:Inv X ao σ H s)(hN:X.N.Nodup)(hi:X.N[i]?=some x)(hx:Loc X.env.scope x)(r:RelV v u)
  (h:∀s',Inv X ao (σ.set i (some v)) H s'->(∃a,Heap.SameBut a s.heap s'.heap/\(a=X.env.locals∨X.env.cells.lookup x=some a))->Q () s') (hf:X.fn x=true∨X.env.scope.names.lookup x=some .local:=by first | exact .inl rfl | exact .inr rfl | assumption):wpAny M A (storeName X.env x u) Q E s:=by
 obtain⟨m,hn,hl⟩:=id I.loc;have hcls:(X.env.scope.kind == .class||(X.env.scope.kind == .module&&X.env.locals != X.env.globals))=false:=by rw[I.ok.kind];rfl
 have hiσ:i < σ.length:=by rw[I.len];exact(y00.mp hi).1
 have cne:=I.cne;have tracked:∀{a:Addr} {h':Heap},(∃o,s.heap.get? a=some o/\H a=none)->Heap.SameBut a s.heap h'->HOk X.prog X.w H h':=λ{a h'} ha hs b ob e=>by
  obtain⟨_,_,hfree⟩:=ha;refine(I.hok b ob e).stay (λc w' hc q=>(hs.2 c ?_).trans q) (λ_ q=>q) λ_ _ q=>q;rintro rfl;rcases hc with rfl | hc
  ·rw[hfree] at e;cases e
  ·rw[hfree] at hc;cases hc
 rcases hx with hk | hk
 ·refine wpAny_storeName_local hk hn (λh' hn' hs=>?_) hcls;obtain⟨oL,_,_,hoL,_⟩:=id hn;refine h _ ⟨I.ok,I.os,I.bare,⟨λb o e n hb hx=>?_,λb o e n hb hx=>?_,I.base.free,λb o e hx=>?_,I.base.tups,I.base.frzs,I.base.tbls⟩,⟨_,hn',λj y v' e1 e2 e3=>?_⟩,λy c e=>?_,I.free,I.freeC,λp hp=>?_,tracked ⟨oL,hoL,I.free⟩ hs,by simpa using I.len⟩ ⟨_,hs,.inl rfl⟩
  ·exact(hs.2 b (y0p (y0r (Heap.lt_size e) I.ok.above))).trans (I.base.keep b o e n hb hx)
  ·obtain⟨sl,e1⟩:=I.base.slot b o e n hb hx;exact⟨sl,(hs.2 b (y0p (y0r (Heap.lt_size e) I.ok.above))).trans e1⟩
  ·obtain⟨o',e1⟩:=I.base.there b o e hx;exact⟨o',(hs.2 b (y0p (y0r (Heap.lt_size e) I.ok.above))).trans e1⟩
  ·by_cases hj:j=i
   ·subst hj;rw[hi] at e1;cases e1;rw[y0v hiσ] at e2;cases e2;exact⟨u,r,.inl ⟨hk,by simp⟩⟩
   ·rw[y13 (Ne.symm hj)] at e2;obtain⟨u',r',q⟩:=hl j y v' e1 e2 e3;refine⟨u',r',?_⟩;rcases q with ⟨k,e⟩ | ⟨k,c,e,z⟩
    ·refine .inl ⟨k,?_⟩;have:y≠x:=λe=>hj (ze2 hN e1 (e▸hi));simp[this,e]
    ·exact .inr ⟨k,c,e,z.sameBut hs (cne y c e)⟩
  ·obtain⟨w',z⟩:=I.cell y c e;exact⟨w',z.sameBut hs (cne y c e)⟩
  ·obtain⟨e,n,ne,nf,d⟩:=I.pin p hp;exact⟨(hs.2 p.1 ne).trans e,n,ne,nf,d⟩
 ·have hfn:X.fn x=true:=by
   rcases hf with z | z
   ·exact z
   ·rw[z] at hk;cases hk
  obtain⟨c,hc⟩:=I.ok.has x (.inl hk);obtain⟨w',z⟩:=I.cell x c hc;refine wpAny_storeName_cell I.ok.kind hk hc z (λh' hc' hs=>?_);obtain⟨oc,hoc,hocd⟩:=id z;refine h { s with heap:=h' } ⟨I.ok,I.os,I.bare,⟨λb o e n hb hx=>?_,λb o e n hb hx=>?_,I.base.free,λb o e hx=>?_,I.base.tups,I.base.frzs,I.base.tbls⟩,⟨m,hn.sameBut hs (Ne.symm (cne x c hc)),λj y v' e1 e2 e3=>?_⟩,λy c' e=>?_,I.free,I.freeC,λp hp=>?_,tracked ⟨oc,hoc,I.freeC x c hc⟩ hs,by simpa using I.len⟩ ⟨c,hs,.inr hc⟩
  ·exact(hs.2 b (y0p (y0r (Heap.lt_size e) (I.ok.cab x c hfn hc)))).trans (I.base.keep b o e n hb hx)
  ·obtain⟨sl,e1⟩:=I.base.slot b o e n hb hx;exact⟨sl,(hs.2 b (y0p (y0r (Heap.lt_size e) (I.ok.cab x c hfn hc)))).trans e1⟩
  ·obtain⟨o',e1⟩:=I.base.there b o e hx;exact⟨o',(hs.2 b (y0p (y0r (Heap.lt_size e) (I.ok.cab x c hfn hc)))).trans e1⟩
  ·by_cases hj:j=i
   ·subst hj;rw[hi] at e1;cases e1;rw[y0v hiσ] at e2;cases e2;exact⟨u,r,.inr ⟨.inl hk,c,hc,hc'⟩⟩
   ·rw[y13 (Ne.symm hj)] at e2;obtain⟨u',r',q⟩:=hl j y v' e1 e2 e3;refine⟨u',r',?_⟩;rcases q with q | ⟨k,c',e,z'⟩
    ·exact .inl q
    ·refine .inr ⟨k,c',e,z'.sameBut hs ?_⟩;rintro rfl;exact hj (ze2 hN e1 (I.ok.inj _ _ _ e hc▸hi))
  ·by_cases hcc:c'=c
   ·subst hcc;exact⟨_,hc'⟩
   ·obtain⟨w2,z2⟩:=I.cell y c' e;exact⟨w2,z2.sameBut hs hcc⟩
  ·obtain⟨e,n,ne,nf,d⟩:=I.pin p hp;refine⟨(hs.2 p.1 ?_).trans e,n,ne,nf,d⟩;intro q;rw[q,hoc] at e;have q':oc=p.2:=y12 e;exact d w' (by rw[←q'];exact hocd)
theorem z62 {M:Model}{A:Around}{E:Value->Shared->Prop}{i:Nat}{x:Str}{v:V}{u:Value}{Q:Unit->Shared->Prop}(I:Inv X ao σ H s)(hN:X.N.Nodup)(hi:X.N[i]?=some x)(hx:Loc X.env.scope x)(r:RelV v u)
  (h:∀s',Inv X ao (σ.set i (some v)) H s'->Q () s') (hf:X.fn x=true∨X.env.scope.names.lookup x=some .local:=by first | exact .inl rfl | exact .inr rfl | assumption):wpAny M A (storeName X.env x u) Q E s :=
 zi6 I hN hi hx r (λs' I' _=>h s' I') hf
theorem Inv.call' {s':Shared}{ch:List Addr}(I:Inv X ao σ H s)(ho:s'.os=s.os)(u:Un (frs X.stack) ch H H' s.heap s'.heap)(hok:HOk X.prog X.w H' s'.heap)(hg:AllBare s'.gens)
  (hch:∀b∈ch,(b∈X.ex∨X.s₀.heap.objs.size≤b)/\b≠X.env.locals/\(∀x c,X.env.cells.lookup x=some c->c≠b)/\∀p∈X.pn++ao,p.1≠b):Inv X ao σ H' s':=by
 obtain⟨h',g',d',t',o'⟩:=s';have e:o'=s.os:=ho;subst e;exact I.call (g':=g') (t':=t') (d':=d') u hok hg hch
end
abbrev XK:=Value->Option Addr->Hp->Prop
abbrev St:=List (Option V)
abbrev VK:=V->Hp->Prop
abbrev TE:=St->Hp->VK->Prop
abbrev TT:=St->Hp->(Bool->Hp->Prop)->Prop
abbrev TA:=St->Hp->(List V->Hp->Prop)->Prop
structure Ends where
 nx:St->Hp->Prop
 rt:VK
 bk:St->Hp->Prop:=λ_ _=>False
 ct:St->Hp->Prop:=λ_ _=>False
abbrev TS:=Ends->St->Hp->Prop
def EP (X:Cx)(ao:List (Addr×Obj))(σ:St)(Q:VK)(u:Value)(s':Shared):Prop:=∃v H',Inv X ao σ H' s'/\RelV v u/\Q v H'
def TP (X:Cx)(ao:List (Addr×Obj))(σ:St)(Q:Bool->Hp->Prop)(b:Bool)(s':Shared):Prop:=∃H',Inv X ao σ H' s'/\Q b H'
def AP (X:Cx)(ao:List (Addr×Obj))(σ:St)(Q:List V->Hp->Prop)(us:List Value)(s':Shared):Prop:=∃vs H',Inv X ao σ H' s'/\Vals vs us/\Q vs H'
def SP (X:Cx)(ao:List (Addr×Obj))(D:Ends)(f:Flow)(s':Shared):Prop :=
 match f with
 | .next=>∃ σ' H',Inv X ao σ' H' s'/\D.nx σ' H'
 | .brk=>∃ σ' H',Inv X ao σ' H' s'/\D.bk σ' H'
 | .cont=>∃ σ' H',Inv X ao σ' H' s'/\D.ct σ' H'
 | .ret u=>∃v σ' H',Inv X ao σ' H' s'/\RelV v u/\D.rt v H'
def PE (X:Cx)(e:Expr)(t:TE):Prop :=
 ∀(ao:List (Addr×Obj)) (s:Shared) (σ:St) (H:Hp) (Q:VK),Inv X ao σ H s->t σ H Q->wpAny (model X.prog X.w) X.A (eval e X.env) (EP X ao σ Q) X.xe s
def PT (X:Cx)(e:Expr)(t:TT):Prop :=
 ∀(ao:List (Addr×Obj)) (s:Shared) (σ:St) (H:Hp) (Q:Bool->Hp->Prop),Inv X ao σ H s->t σ H Q->wpAny (model X.prog X.w) X.A (isTrue e X.env (eval e X.env)) (TP X ao σ Q) X.xe s
def PW (X:Cx)(e:Expr)(t:TT):Prop :=
 ∀(whole:Sem Value) (ao:List (Addr×Obj)) (s:Shared) (σ:St) (H:Hp) (Q:Bool->Hp->Prop),Inv X ao σ H s->t σ H Q->wpAny (model X.prog X.w) X.A (isTrue e X.env whole) (TP X ao σ Q) X.xe s
theorem PW.pt {X:Cx}{e:Expr}{t:TT}(h:PW X e t):PT X e t:=h _
def PA (X:Cx)(es:List Expr)(t:TA):Prop :=
 ∀(pos:Pos) (ao:List (Addr×Obj)) (s:Shared) (σ:St) (H:Hp) (Q:List V->Hp->Prop),Inv X ao σ H s->t σ H Q->wpAny (model X.prog X.w) X.A (spliced (backTo pos (starEach es X.env))) (AP X ao σ Q) X.xe s
def PS (X:Cx)(st:Stmt)(t:TS):Prop :=
 ∀(ao:List (Addr×Obj)) (s:Shared) (σ:St) (H:Hp) (D:Ends),Inv X ao σ H s->t D σ H->wpAny (model X.prog X.w) X.A (exec st X.env) (SP X ao D) X.xe s
def PSs (X:Cx)(st:List Stmt)(t:TS):Prop :=
 ∀(ao:List (Addr×Obj)) (s:Shared) (σ:St) (H:Hp) (D:Ends),Inv X ao σ H s->t D σ H->wpAny (model X.prog X.w) X.A (execs st X.env) (SP X ao D) X.xe s
theorem thn {α:Type}{t:Sem α}{Q Q':α->Shared->Prop}{M:Model}{A:Around}{E:Value->Shared->Prop}{s:Shared}(h:wpAny M A t Q E s)(hQ:∀a s,Q a s->Q' a s):wpAny M A t Q' E s:=wpAny_mono h hQ λ_ _ x=>x
end L2
namespace L2
open PySem PySem.Spec PyProof.Rows
section
variable {X:Cx}
def zsa (i:Nat):TE:=fun σ H Q=>∃v,σ[i]?=some (some v)/\Q v H
def tC (v:V):TE:=λ_ H Q=>Q v H
theorem znz {i:Nat}{x:Str}{pos:Pos}(hN:X.N[i]?=some x)(hv:Vis X.env.scope x)(hd:(x==("__debug__":Str))=false:=by decide)(hcd:(x==("__classdict__":Str))=false:=by decide):PE X (.Name x pos) (zsa i):=by
 intro ao s σ H Q I h;obtain⟨v,e,h⟩:=h;obtain⟨m,hn,hl⟩:=I.loc;obtain⟨u,r,l⟩:=hl i x v hN e hv;have fin:EP X ao σ Q u s:=⟨v,H,I,r,h⟩;rcases l with ⟨hk,hm⟩ | ⟨hk,c,hc,bo⟩
 ·exact wpAny_Name (wpAny_loadName_local I.ok.kind hk hn hm fin) hd
 ·rcases hk with hk | hk
  ·exact wpAny_Name (wpAny_loadName_cell I.ok.kind hk hc bo fin) hd
  ·exact wpAny_Name (wpAny_loadName_free I.ok.kind hk hc bo fin hcd) hd
theorem z06 {i j pos}:PE X (.Constant (.int i) j pos) (tC (.int i)):=λ_ _ _ H _ I h=>wpAny_Constant_int ⟨.int i,H,I.tok _,⟨_,rfl⟩,h⟩
theorem z79 {b j pos}:PE X (.Constant (.bool b) j pos) (tC (.bl b)):=λ_ _ _ H _ I h=>Constant_bool ⟨.bl b,H,I,rfl,h⟩
def Gl (X:Cx)(x:Str):Prop:=X.env.kindOf x=some .globalImplicit
theorem zg0 {E:Value->Shared->Prop}{ao:List (Addr×Obj)}{s:Shared}{σ:St}{H:Hp}{x:Str}{u:Value}{pos:Pos}{Q:Value->Shared->Prop}(I:Inv X ao σ H s)(hg:Gl X x)(hm:X.mg x=some u)(h:Q u s)
  (hd:(x==("__debug__":Str))=false:=by decide):wpAny (model X.prog X.w) X.A (eval (.Name x pos) X.env) Q E s :=
 Calls.Name_function_global I.ok.kind hg (Calls.loadGlobal_global (by rw[I.ok.glob];exact I.mod.glob.keeps I.bk) hm h) hd
theorem z51 {E:Value->Shared->Prop}{ao:List (Addr×Obj)}{s:Shared}{σ:St}{H:Hp}{x:Str}{u:Value}{pos:Pos}{Q:Value->Shared->Prop}(I:Inv X ao σ H s)(hg:Gl X x)(hm:X.mg x=none)(hv:bootBuiltins x=some u)(h:Q u s)
  (hn:x ≠ "__name__":=by decide) (hd:(x==("__debug__":Str))=false:=by decide):wpAny (model X.prog X.w) X.A (eval (.Name x pos) X.env) Q E s:=by
 obtain⟨mb,h1,h2⟩:=I.mod.blt;exact Calls.Name_function_global I.ok.kind hg (Calls.loadGlobal_builtin (by rw[I.ok.glob];exact I.mod.glob.keeps I.bk) hm (by rw[I.ok.blt];exact h1.keeps I.bk) ((h2 x hn).trans hv) h) hd
theorem zno {x:Str}{v:V}{u:Value}{pos:Pos}(hg:Gl X x)(hm:X.mg x=none)(hv:bootBuiltins x=some u)(r:RelV v u)(hn:x ≠ "__name__":=by decide)(hd:(x==("__debug__":Str))=false:=by decide):PE X (.Name x pos) (tC v) :=
 λ_ _ _ H _ I h=>z51 I hg hm hv ⟨v,H,I,r,h⟩ hn hd
variable {a b:Expr}{ta tb:TE}{pos:Pos}
variable {tA tB':TT}{rest:List Expr}
def zqy (t u:TT):TT:=fun σ H Q=>t σ H λc H1=>if c=true then u σ H1 Q else Q false H1
def tOr (t u:TT):TT:=fun σ H Q=>t σ H λc H1=>if c=true then Q true H1 else u σ H1 Q
def zqg (t:TT):TT:=fun σ H Q=>t σ H λc H1=>Q (!c) H1
theorem z6u (ha:PT X a tA):PW X (.BoolOp .And [a] pos) tA:=by
 intro wh ao s σ H Q I h;refine isTrue_and (thn (ha ao s σ H Q I h) λc s1 e=>?_);cases c with
 | true=>exact isTrue_and_nil e
 | false=>exact e
theorem z7h (ha:PT X a tA):PW X (.BoolOp .Or [a] pos) tA:=by
 intro wh ao s σ H Q I h;refine isTrue_or (thn (ha ao s σ H Q I h) λc s1 e=>?_);cases c with
 | false=>exact isTrue_or_nil e
 | true=>exact e
theorem z9m (ha:PT X a tA)(hb:PW X (.BoolOp .And (b::rest) pos) tB'):PW X (.BoolOp .And (a::b::rest) pos) (zqy tA tB'):=by
 intro wh ao s σ H Q I h;refine isTrue_and (thn (ha ao s σ H _ I h) λc s1 ⟨H1,I1,q1⟩=>?_);cases c with
 | true=>exact hb wh ao s1 σ H1 Q I1 q1
 | false=>exact⟨H1,I1,q1⟩
theorem z9b (ha:PT X a tA)(hb:PW X (.BoolOp .Or (b::rest) pos) tB'):PW X (.BoolOp .Or (a::b::rest) pos) (tOr tA tB'):=by
 intro wh ao s σ H Q I h;refine isTrue_or (thn (ha ao s σ H _ I h) λc s1 ⟨H1,I1,q1⟩=>?_);cases c with
 | true=>exact⟨H1,I1,q1⟩
 | false=>exact hb wh ao s1 σ H1 Q I1 q1
theorem z3x (ha:PT X a tA):PT X (.UnaryOp .Not a pos) (zqg tA):=by
 intro ao s σ H Q I h;exact isTrue_not (ha ao s σ H (λc H1=>Q (!c) H1) I h)
theorem z7g {op}{t:TE}(h:PE X a t):PE X (.BoolOp op [a] pos) t:=λao s σ H Q I hw=>BoolOp_one (h ao s σ H Q I hw)
def tIf (t:TT)(ta tb:TE):TE:=fun σ H Q=>t σ H λc H1=>if c=true then ta σ H1 Q else tb σ H1 Q
theorem zak {c:Expr}(hc:PT X c tA)(ha:PE X a ta)(hb:PE X b tb):PE X (.IfExp c a b pos) (tIf tA ta tb):=by
 intro ao s σ H Q I h;refine wpAny_IfExp (thn (hc ao s σ H _ I h) λd s1 ⟨H1,I1,q1⟩=>?_);cases d with
 | true=>exact ha ao s1 σ H1 Q I1 q1
 | false=>exact hb ao s1 σ H1 Q I1 q1
end
end L2
namespace L2
open PySem PySem.Spec PyProof.Rows
def SqL (K:y03)(H:Hp)(a:Addr)(xs:List V):Prop :=
 Rd H a (.lst xs) ∨
  ∃(o:Obj) (its:Array Value) (n:Nat),K.lookup a=some o/\o.cls = .type "list"/\o.dict=none/\o.data = .seq its n/\its.size≤sizeLine/\Vals xs its.toList
def SqT (K:y03)(H:Hp)(a:Addr)(xs:List V):Prop :=
 Rd H a (.tup xs) ∨
  ∃(o:Obj) (its:Array Value) (n:Nat),K.lookup a=some o/\o.cls = .type "tuple"/\o.data = .seq its n/\its.size≤sizeLine/\Vals xs its.toList
def zsg:Value->Option V
 | .none=>some .non
 | .bool b=>some (.bl b)
 | .int i _=>some (.int i)
 | .str x _=>some (.str x)
 | .bytes b _=>some (.byt b)
 | .float b _=>some (.flt b)
 | .ref a=>some (.ref a)
 | .type n=>some (.ty n)
 | _=>none
theorem RelV.abs {x:V}{u:Value}(r:RelV x u):zsg u=some x:=by
 cases x with
 | non=>cases r;rfl
 | bl _=>cases r;rfl
 | int _=>obtain⟨t,rfl⟩:=r;rfl
 | str _=>obtain⟨t,rfl⟩:=r;rfl
 | byt _=>obtain⟨t,rfl⟩:=r;rfl
 | flt _=>obtain⟨t,rfl⟩:=r;rfl
 | ref _=>cases r;rfl
 | ty _=>cases r;rfl
theorem RelV.inj {x y:V}{u:Value}(r:RelV x u)(q:RelV y u):x=y:=y12 (r.abs.symm.trans q.abs)
theorem Vals.inj:∀{xs ys:List V} {us:List Value},Vals xs us->Vals ys us->xs=ys
 | _,_,_,.nil,.nil=>rfl
 | _,_,_,.cons r t,.cons r' t'=>by rw[r.inj r',Vals.inj t t']
section
variable {X:Cx}{ao:List (Addr×Obj)}{σ:St}{H:Hp}{s:Shared}{a:Addr}{xs ys:List V}
theorem SqL.of {K:y03}(h:H a=some (.lst xs)):SqL K H a xs:=.inl (.inl h)
theorem SqT.of {K:y03}(h:H a=some (.tup xs)):SqT K H a xs:=.inl (.inl h)
theorem Inv.list (I:Inv X ao σ H s)(h:SqL X.K H a xs):∃its:List Value,Vals xs its/\PlainL s.heap a its.toArray/\xs.length≤sizeLine:=by
 rcases h with h | ⟨o,its,n,hk,hc,hd,hs,hz,r⟩
 ·obtain⟨z,its,n,r,e⟩:=h.ok I.hok;exact⟨its,r,⟨_,n,e,rfl,rfl,rfl⟩,z⟩
 ·refine⟨its.toList,r,⟨o,n,I.kIn a o hk,hc,hd,by simpa using hs⟩,?_⟩
  have e:=r.length;simp only[y3g] at e;lia
theorem Inv.tuple (I:Inv X ao σ H s)(h:SqT X.K H a xs):∃its:List Value,Vals xs its/\IsTup s.heap a its.toArray/\xs.length≤sizeLine:=by
 rcases h with h | ⟨o,its,n,hk,hc,hs,hz,r⟩
 ·obtain⟨z,its,r,p⟩:=h.ok I.hok;exact⟨its,r,p,z⟩
 ·refine⟨its.toList,r,⟨o,I.kIn a o hk,hc,n,by simpa using hs⟩,?_⟩
  have e:=r.length;simp only[y3g] at e;lia
theorem Inv.list_inj (I:Inv X ao σ H s)(h:SqL X.K H a xs)(h':SqL X.K H a ys):xs=ys:=by
 obtain⟨its,r,⟨o,n,e,_,_,d⟩,_⟩:=I.list h;obtain⟨its',r',⟨o',n',e',_,_,d'⟩,_⟩:=I.list h';rw[e] at e';cases e';rw[d] at d';injection d' with d1 _
 have:its=its':=by simpa using congrArg Array.toList d1
 subst this;exact r.inj r'
theorem Inv.tuple_inj (I:Inv X ao σ H s)(h:SqT X.K H a xs)(h':SqT X.K H a ys):xs=ys:=by
 obtain⟨its,r,⟨o,e,_,n,d⟩,_⟩:=I.tuple h;obtain⟨its',r',⟨o',e',_,n',d'⟩,_⟩:=I.tuple h';rw[e] at e';cases e';rw[d] at d';injection d' with d1 _
 have:its=its':=by simpa using congrArg Array.toList d1
 subst this;exact r.inj r'
end
abbrev Cx.wish (X:Cx)(E:Value->Shared->Prop):Cx:={ X with xe:=E }
abbrev Cx.nox (X:Cx):Cx:=X.wish λ_ _=>False
theorem Cx.Ok.wish {X:Cx}(ok:X.Ok)(E:Value->Shared->Prop):(X.wish E).Ok :=
 ⟨ok.mod,ok.kind,ok.glob,ok.blt,ok.above,ok.inj,ok.has,ok.cab,ok.hd,ok.frames,ok.stk,ok.exf,ok.bs,ok.bsz,ok.noex,ok.exfs,ok.funs,ok.frf⟩
theorem Cx.Ok.unwish {X:Cx}{E:Value->Shared->Prop}(ok:(X.wish E).Ok):X.Ok :=
 ⟨ok.mod,ok.kind,ok.glob,ok.blt,ok.above,ok.inj,ok.has,ok.cab,ok.hd,ok.frames,ok.stk,ok.exf,ok.bs,ok.bsz,ok.noex,ok.exfs,ok.funs,ok.frf⟩
section
variable {X:Cx}{ao:List (Addr×Obj)}{σ:St}{H:Hp}{s:Shared}{E:Value->Shared->Prop}
theorem Inv.wish (I:Inv X ao σ H s)(E:Value->Shared->Prop):Inv (X.wish E) ao σ H s:=⟨I.ok.wish E,I.os,I.bare,I.base,I.loc,I.cell,I.free,I.freeC,I.pin,I.hok,I.len⟩
theorem Inv.unwish (I:Inv (X.wish E) ao σ H s):Inv X ao σ H s:=⟨I.ok.unwish,I.os,I.bare,I.base,I.loc,I.cell,I.free,I.freeC,I.pin,I.hok,I.len⟩
theorem SP.unwish {D:Ends}{f:Flow}{s':Shared}(h:SP (X.wish E) ao D f s'):SP X ao D f s':=by
 cases f with
 | next=>obtain⟨σ',H',I,q⟩:=h;exact⟨σ',H',I.unwish,q⟩
 | brk=>obtain⟨σ',H',I,q⟩:=h;exact⟨σ',H',I.unwish,q⟩
 | cont=>obtain⟨σ',H',I,q⟩:=h;exact⟨σ',H',I.unwish,q⟩
 | ret u=>obtain⟨v,σ',H',I,r,q⟩:=h;exact⟨v,σ',H',I.unwish,r,q⟩
theorem PSs.nox {st:List Stmt}{t:TS}(h:PSs X.nox st t):PSs X st t:=λao s σ H D I hw =>
 wpAny_mono (h ao s σ H D (I.wish _) hw) (λ_ _ q=>q.unwish) λ_ _ z=>False.elim z
end
section
variable {X:Cx}{st:Stmt}{rest:List Stmt}{t u:TS}{e:Expr}{te:TE}{pos:Pos}
def zmp:TS:=λD σ H=>D.nx σ H
def zru (t u:TS):TS:=λD σ H=>t { D with nx:=u D } σ H
theorem z1d:PSs X [] zmp:=λ_ _ σ H _ I h=>wpAny_execs_nil ⟨σ,H,I,h⟩
theorem z02 (h1:PS X st t)(h2:PSs X rest u):PSs X (st::rest) (zru t u):=by
 intro ao s σ H D I h;refine wpAny_execs_cons (thn (h1 ao s σ H { D with nx:=u D } I h) λf s1 q=>?_)
 cases f with
 | next =>
  obtain⟨σ',H',I',q⟩:=q;exact h2 ao s1 σ' H' D I' q
 | ret v=>exact q
 | brk=>exact q
 | cont=>exact q
theorem z07 (h1:PS X st t):PSs X [st] t:=by
 intro ao s σ H D I h;refine wpAny_execs_cons (thn (h1 ao s σ H D I h) λf s1 q=>?_);cases f with
 | next=>exact wpAny_execs_nil q
 | ret v=>exact q
 | brk=>exact q
 | cont=>exact q
theorem Inv.quiet {ao:List (Addr×Obj)}{σ:St}{H:Hp}{s:Shared}(I:Inv X ao σ H s):interactive X.env=false:=by simp[interactive,I.ok.kind]
def znb (te:TE):TS:=λD σ H=>te σ H λ_ H1=>D.nx σ H1
theorem z1z (he:PE X e te)(hs:swapsWith e none pos.line X.env=pure false:=by rfl):PS X (.Expr e pos) (znb te):=by
 intro ao s σ H D I h;exact wpAny_Expr_any (thn (he ao s σ H _ I h) λv s1 ⟨x,H1,I1,r1,q1⟩=>⟨σ,H1,I1,q1⟩) I.quiet hs
def zq5 (te:TE):TS:=λD σ H=>te σ H D.rt
theorem z0m (he:PE X e te):PS X (.Return (some e) pos) (zq5 te):=by
 intro ao s σ H D I h;exact wpAny_Return_some (thn (he ao s σ H _ I h) λv s1 ⟨x,H1,I1,r1,q1⟩=>⟨x,σ,H1,I1,r1,q1⟩)
def zqa (c:TT)(t u:TS):TS:=λD σ H=>c σ H λb H1=>if b=true then t D σ H1 else u D σ H1
theorem z3d {c:Expr}{a b:List Stmt}{tc:TT}(hc:PT X c tc)(ha:PSs X a t)(hb:PSs X b u):PS X (.If c a b pos) (zqa tc t u):=by
 intro ao s σ H D I h;refine wpAny_If (thn (hc ao s σ H _ I h) λd s1 ⟨H1,I1,q1⟩=>?_);cases d with
 | true=>exact ha ao s1 σ H1 D I1 q1
 | false=>exact hb ao s1 σ H1 D I1 q1
end
abbrev TG:=V->St->Hp->(St->Hp->Prop)->Prop
abbrev TGs:=List V->St->Hp->(St->Hp->Prop)->Prop
def PG (X:Cx)(ce:Expr)(t:TG):Prop :=
 ∀(ao:List (Addr×Obj)) (s:Shared) (σ:St) (H:Hp) (v:V) (u:Value) (Q:St->Hp->Prop),Inv X ao σ H s->RelV v u->t v σ H Q ->
  wpAny (model X.prog X.w) X.A (assign ce X.env u) (λ_ s'=>∃ σ' H',Inv X ao σ' H' s'/\Q σ' H') X.xe s
def PGs (X:Cx)(ts:List Expr)(t:TGs):Prop :=
 ∀(ao:List (Addr×Obj)) (s:Shared) (σ:St) (H:Hp) (vs:List V) (us:List Value) (Q:St->Hp->Prop),Inv X ao σ H s->Vals vs us->t vs σ H Q ->
  wpAny (model X.prog X.w) X.A (assignInOrder ((assignEach ts X.env).map (·.2)) us) (λ_ s'=>∃ σ' H',Inv X ao σ' H' s'/\Q σ' H') X.xe s
abbrev zpp:=V->V->V->Hp->(Hp->Prop)->Prop
def zpx (X:Cx)(t:zpp):Prop :=
 ∀(ao:List (Addr×Obj)) (s:Shared) (σ:St) (H:Hp) (o i v:V) (ov iv u:Value) (Q:Hp->Prop),Inv X ao σ H s->RelV o ov->RelV i iv->RelV v u->t o i v H Q ->
  wpAny (model X.prog X.w) X.A (setItem ov iv u) (λ_ s'=>∃H',Inv X ao σ H' s'/\Q H') X.xe s
abbrev TIp:=V->V->Hp->VK->Prop
def PIp (X:Cx)(op:Operator)(t:TIp):Prop :=
 ∀(ao:List (Addr×Obj)) (s:Shared) (σ:St) (H:Hp) (x y:V) (v u:Value) (Q:VK),Inv X ao σ H s->RelV x v->RelV y u->t x y H Q ->
  wpAny (model X.prog X.w) X.A (inplaceOp op v u) (EP X ao σ Q) X.xe s
section
variable {X:Cx}{pos:Pos}
def z4x (i:Nat):TG:=λv σ H Q=>Q (σ.set i (some v)) H
theorem zns {i:Nat}{x:Str}(hN:X.N.Nodup)(hi:X.N[i]?=some x)(hx:Loc X.env.scope x)(hf:X.fn x=true∨X.env.scope.names.lookup x=some .local:=by first | exact .inl rfl | exact .inr rfl | assumption):PG X (.Name x pos) (z4x i):=by
 intro ao s σ H v u Q I r h;exact wpAny_assign_Name (z62 I hN hi hx r (λs' I'=>⟨_,H,I',h⟩) hf)
def zsi:TGs:=λvs σ H Q=>vs = []/\Q σ H
def zr3 (t:TG)(u:TGs):TGs:=λvs σ H Q=>∃v r,vs=v::r/\t v σ H fun σ' H'=>u r σ' H' Q
theorem zg1:PGs X [] zsi:=by
 intro ao s σ H vs us Q I r h;obtain⟨e,h⟩:=h;subst e;cases r;exact assignInOrder_nil ⟨σ,H,I,h⟩
theorem z66 {e:Expr}{es:List Expr}{t:TG}{u:TGs}(h1:PG X e t)(h2:PGs X es u)
  (hs:(assignEach (e::es) X.env).map (·.2)=assign e X.env::(assignEach es X.env).map (·.2):=by rfl):PGs X (e::es) (zr3 t u):=by
 intro ao s σ H vs us Q I r h;obtain⟨v,vr,e1,h⟩:=h;subst e1;cases r with
 | cons r rr =>
  rw[hs];refine assignInOrder_cons (thn (h1 ao s σ H _ _ _ I r h) λ_ s1 ⟨σ1,H1,I1,q1⟩=>?_);exact h2 ao s1 σ1 H1 _ _ Q I1 rr q1
def zs5 (K:y03)(n:Nat)(t:TGs):TG:=λv σ H Q=>∃a xs,v = .ref a/\SqT K H a xs/\xs.length=n/\t xs σ H Q
theorem zkz {es:List Expr}{k:Nat}{t:TGs}{n:Nat}(hc:X.calm=true)(h:PGs X es t)
  (hn:(assignEach es X.env).length=n:=by rfl) (hst:(assignEach es X.env).findIdx? (·.1)=none:=by rfl):PG X (.Tuple es k pos) (zs5 X.K n t):=by
 intro ao s σ H v u Q I r hw;obtain⟨a,xs,e1,hq,hl,hw⟩:=hw;subst e1;cases r;obtain⟨its,rv,ht,hz⟩:=I.tuple hq;refine assign_Tuple_tuple (I.ok.hd hc) ht (by simp[hn,←hl,rv.length]) hst λh' hx=>?_
 have I1:Inv X ao σ H { s with heap:=h' }:=I.kept (t':=s.toks) λb o e=>hx b o (y0p (Heap.lt_size e)) e
 exact h ao _ σ H xs _ Q I1 (by simpa using rv) hw
def zr6 (to ti:TE)(t:zpp):TG:=λv σ H Q=>to σ H λo H1=>ti σ H1 λi H2=>t o i v H2 λH3=>Q σ H3
theorem zbg {o i:Expr}{to ti:TE}{t:zpp}(ho:PE X o to)(hi:PE X i ti)(hs:zpx X t)
  (ha:∀v,assign (.Subscript o i pos) X.env v=(do
   let ov ←holding [v] (eval o X.env)
   let iv ←holding [v,ov] (eval i X.env)
   standAt pos
   holding [v,ov,iv] (setItem ov iv v)
   release [v,ov,iv] []):=by intro _;rfl):PG X (.Subscript o i pos) (zr6 to ti t):=by
 intro ao s σ H v u Q I r h;rw[ha];refine wpAny_bind (wpAny_holding (thn (ho ao s σ H _ I h) λov s1 ⟨x,H1,I1,r1,q1⟩=>?_));refine wpAny_bind (wpAny_holding (thn (hi ao s1 σ H1 _ I1 q1) λiv s2 ⟨y,H2,I2,r2,q2⟩=>?_));refine wpAny_bind (wpAny_standAt (wpAny_bind (wpAny_holding (thn (hs ao s2 σ H2 x y v ov iv u _ I2 r1 r2 r q2) λ_ s3 ⟨H3,I3,q3⟩=>?_))));exact wpAny_release ⟨σ,H3,I3,q3⟩
def zm2 (te:TE)(g:TG):TS:=λD σ H=>te σ H λx H1=>g x σ H1 D.nx
theorem z9n {tg e:Expr}{te:TE}{g:TG}(he:PE X e te)(hg:PG X tg g)(hs:swapsWithSole [tg] e pos.line X.env=pure false:=by rfl)(hw:swappedStores [tg] e X.env=pure none:=by rfl)
  (h1:(assignEach [tg] X.env).map (·.2) = [assign tg X.env]:=by rfl):PS X (.Assign [tg] e pos) (zm2 te g):=by
 intro ao s σ H D I h;refine wpAny_Assign_stores (thn (he ao s σ H _ I h) λv s1 ⟨x,H1,I1,r1,q1⟩=>?_) hs hw;rw[h1];exact thn (hg ao s1 σ H1 x v _ I1 r1 q1) λ_ s2 q=>q
theorem zpc {i:Nat}{x:Str}{e:Expr}{te:TE}{b9:Pos}(hN:X.N.Nodup)(hi:X.N[i]?=some x)(hx:Loc X.env.scope x)(he:PE X e te)(hs:swapsWith e (some (.Name x b9)) pos.line X.env=pure false:=by rfl)(hf:X.fn x=true∨X.env.scope.names.lookup x=some .local:=by first | exact .inl rfl | exact .inr rfl | assumption) :
  PS X (.Assign [.Name x b9] e pos) (zm2 te (z4x i)):=by
 intro ao s σ H D I h;refine wpAny_Assign_Name (thn (he ao s σ H _ I h) λv s1 ⟨y,H1,I1,r1,q1⟩=>?_) hs;exact z62 I1 hN hi hx r1 (λs2 I2=>⟨_,H1,I2,q1⟩) hf
def zsc (i j:Nat)(ta:TA):TS:=λD σ H=>ta σ H λvs H1=>∃v w,vs = [v,w]/\D.nx ((σ.set i (some v)).set j (some w)) H1
theorem zoo {i j:Nat}{x y:Str}{a b:Expr}{ta:TA}{px py pt:Pos}{kt k2 pt2}(hc:X.calm=true)(hN:X.N.Nodup)(hi:X.N[i]?=some x)(hj:X.N[j]?=some y)(hij:i≠j)
  (hx:X.env.scope.names.lookup x=some .local) (hy:X.env.scope.names.lookup y=some .local) (ha:PA X [a,b] ta)
  (hw:swappedStores [.Tuple [.Name x px,.Name y py] kt pt] (.Tuple [a,b] k2 pt2) X.env=pure (some [x,y]))
  (hs:swapsWithSole [.Tuple [.Name x px,.Name y py] kt pt] (.Tuple [a,b] k2 pt2) pos.line X.env=pure false:=by rfl) :
  PS X (.Assign [.Tuple [.Name x px,.Name y py] kt pt] (.Tuple [a,b] k2 pt2) pos) (zsc i j ta):=by
 intro ao s σ H D I h;rw[exec_Assign_arm];refine wpAny_bind (wpAny_standAt ?_);rw[hs];refine wpAny_bind (wpAny_pure ?_);rw[if_neg (by decide)]
 refine wpAny_bind (Tuple_ (thn (ha _ ao s σ H _ I h) λus s1 ⟨vs,H1,I1,r1,q1⟩=>?_));obtain⟨v,w,e1,q1⟩:=q1;subst e1;obtain⟨u1,u2,rfl,rv,rw'⟩:∃u1 u2,us = [u1,u2]/\RelV v u1/\RelV w u2:=by
  cases r1 with
  | cons p q =>
   cases q with
   | cons p' q' =>
    cases q';exact⟨_,_,rfl,p,p'⟩
 refine wpAny_newObj_type ?_ (by show 2≤sizeLine;decide)
 have I2:Inv X ao σ H1 { s1 with heap:=s1.heap.push { cls:=.type "tuple",data:=.seq [u1,u2].toArray } }:=I1.kept (t':=s1.toks) λb o e=>Heap.get?_push_of_some _ e
 rw[hw];refine wpAny_bind (wpAny_pure ?_);show wpAny (model X.prog X.w) X.A (do rule "assign.swapped-stores";let items ←unpackItems (.ref s1.heap.objs.size) 2 none;assignInOrder [λv=>bindName X.env y v,λv=>bindName X.env x v] items.reverse;pure Flow.next) _ _ _
 refine wpAny_bind (wpAny_rule (wpAny_bind (unpackItems_tuple (items:=#[u1,u2]) (I.ok.hd hc) (IsTup.new s1.heap _) λh' hx'=>?_)));have I3:=I2.kept (h':=h') (t':=s1.toks) λb o e=>hx' b o (y0p (Heap.lt_size e)) e;show wpAny _ _ (assignInOrder [λv=>bindName X.env y v,λv=>bindName X.env x v] [u2,u1] >>= λ_=>pure Flow.next) _ _ _
 refine wpAny_bind (assignInOrder_cons (wpAny_bindName (z62 I3 hN hj (.inl hy) rw' (λs2 I4=>?_) (.inr hy))));refine assignInOrder_cons (wpAny_bindName (z62 I4 hN hi (.inl hx) rv (λs3 I5=>assignInOrder_nil (wpAny_pure ?_)) (.inr hx)));rw[List.set_comm _ _ (Ne.symm hij)] at I5;exact⟨_,H1,I5,q1⟩
def zlw (to ti te:TE)(tget:V->V->Hp->VK->Prop)(tip:TIp)(tset:zpp):TS:=λD σ H=>to σ H λo H1=>ti σ H1 λi H2=>tget o i H2 λx H3=>te σ H3 λy H4=>tip x y H4 λz H5=>tset o i z H5 λH6=>D.nx σ H6
def zrg (X:Cx)(t:V->V->Hp->VK->Prop):Prop :=
 ∀(ao:List (Addr×Obj)) (s:Shared) (σ:St) (H:Hp) (o i:V) (ov iv:Value) (Q:VK),Inv X ao σ H s->RelV o ov->RelV i iv->t o i H Q ->
  wpAny (model X.prog X.w) X.A (getItem ov iv) (EP X ao σ Q) X.xe s
theorem z5m {o i e:Expr}{to ti te:TE}{tget:V->V->Hp->VK->Prop}{tip:TIp}{tset:zpp}{op:Operator}{tpos:Pos}(ho:PE X o to)(hi:PE X i ti)(hg:zrg X tget)(he:PE X e te)(hp:PIp X op tip)(hs:zpx X tset)
  (ha:∀ov iv new,augStore i ov iv new=(do holding [new,ov,iv] (setItem ov iv new);release [new,ov,iv] [];pure .next):=by intros;rfl):PS X (.AugAssign (.Subscript o i tpos) op e pos) (zlw to ti te tget tip tset):=by
 intro ao s σ H D I h;refine wpAny_AugAssign_SubscriptAny (thn (ho ao s σ H _ I h) λov s1 ⟨x1,H1,I1,r1,q1⟩=>?_) ha;refine thn (hi ao s1 σ H1 _ I1 q1) λiv s2 ⟨x2,H2,I2,r2,q2⟩=>?_;refine thn (hg ao s2 σ H2 x1 x2 ov iv _ I2 r1 r2 q2) λold s3 ⟨x3,H3,I3,r3,q3⟩=>?_;refine thn (he ao s3 σ H3 _ I3 q3) λv s4 ⟨x4,H4,I4,r4,q4⟩=>?_;refine thn (hp ao s4 σ H4 x3 x4 old v _ I4 r3 r4 q4) λnew s5 ⟨x5,H5,I5,r5,q5⟩=>?_;exact thn (hs ao s5 σ H5 x1 x2 x5 ov iv new _ I5 r1 r2 r5 q5) λ_ s6 ⟨H6,I6,q6⟩=>⟨σ,H6,I6,q6⟩
def ipI (f:Int->Int->Int):TIp:=λx y H Q=>∃i j,x = .int i/\y = .int j/\Q (.int (f i j)) H
theorem zou:PIp X .Add (ipI λi j=>i+j):=by
 intro ao s σ H x y v u Q I r1 r2 h;obtain⟨i,j,e1,e2,q⟩:=h;subst e1;subst e2;obtain⟨t,rfl⟩:=r1;obtain⟨t',rfl⟩:=r2;exact iadd_int ⟨.int _,H,I.tok _,⟨_,rfl⟩,q⟩
theorem zoi:PIp X .Sub (ipI λi j=>i - j):=by
 intro ao s σ H x y v u Q I r1 r2 h;obtain⟨i,j,e1,e2,q⟩:=h;subst e1;subst e2;obtain⟨t,rfl⟩:=r1;obtain⟨t',rfl⟩:=r2;exact isub_int ⟨.int _,H,I.tok _,⟨_,rfl⟩,q⟩
end
section
variable {X:Cx}{pos:Pos}
end
structure It where
 go:Nat->Hp->Prop
 yld:Nat->Hp->V->Hp->Prop
 stop:Nat->Hp->Prop
def zha (X:Cx)(ao:List (Addr×Obj))(H:Hp)(b:Addr):Prop :=
 H b=none/\b≠X.env.locals/\b ∉ X.fs/\(b∈X.ex∨X.s₀.heap.objs.size≤b)/\(∀x c,X.env.cells.lookup x=some c->c≠b)/\∀p∈X.pn++ao,p.1≠b
theorem Inv.fpOk {X:Cx}{ao:List (Addr×Obj)}{σ:St}{H H':Hp}{s:Shared}{b:Addr}(I:Inv X ao σ H s)(hb:s.heap.objs.size≤b)(hn:H' b=none):zha X ao H' b:=by
 refine⟨hn,y36 (y0r I.lt hb),I.nofs hb,.inr (y17 I.sz hb),λx c e z=>?_,λp hp z=>?_⟩
 ·obtain⟨v,q⟩:=I.cell x c e;exact absurd (y0r q.lt (by rw[z];exact hb)) (y2y _)
 ·exact absurd (y0r (Heap.lt_size (I.pin p hp).1) (by rw[z];exact hb)) (y2y _)
structure Turn (P:Program)(w:World)(K:y03)(tg:Expr)(J:It)(fp:List Addr)(it:Addr)(tn:Nat->Heap->Prop):Prop where
 mem:it∈fp
 obj:∀i h,tn i h->∀b∈fp,∃o,h.get? b=some o/\∀v,o.data ≠ .cell v
 keep:∀i h h',tn i h->(∀b∈fp,∀o,h.get? b=some o->h'.get? b=some o)->tn i h'
 item:∀(X:Cx),X.prog=P->X.w=w->X.K=K->X.calm=true->∀(i:Nat) (ao:List (Addr×Obj)) (s:Shared) (σ:St) (H:Hp) (E:Value->Shared->Prop),Inv X ao σ H s->(∀b∈fp,zha X ao H b)->tn i s.heap->J.go i H ->
  wpAny (model P w) X.A (pyNext (.ref it)) (λr s1=>∃u,r=some u /\
   wpAny (model P w) X.A (letOwnedTupleGo tg (.ref it) u) (λ_ s2=>∃x H',Inv X ao σ H' s2/\RelV x u/\J.yld i H x H'/\tn (i+1) s2.heap/\∀b∈fp,H' b=none) E s1) E s
 done:∀(X:Cx),X.prog=P->X.w=w->X.K=K->X.calm=true->∀(i:Nat) (ao:List (Addr×Obj)) (s:Shared) (σ:St) (H:Hp) (E:Value->Shared->Prop),Inv X ao σ H s->(∀b∈fp,zha X ao H b)->tn i s.heap->J.stop i H ->
  wpAny (model P w) X.A (pyNext (.ref it)) (λr s1=>r=none/\Inv X ao σ H s1) E s
 self:∀(A:Around) (i:Nat) (s:Shared) (Q:Value->Shared->Prop) (E:Value->Shared->Prop),tn i s.heap->Q (.ref it) s->wpAny (model P w) A (pyIter (.ref it)) Q E s
abbrev TI:=St->Hp->(It->Hp->Prop)->Prop
def PIE (X:Cx)(ao:List (Addr×Obj))(σ:St)(tg:Expr)(R:It->Hp->Prop)(itv:Value)(s2:Shared):Prop :=
 ∃(it:Addr) (fp:List Addr) (tn:Nat->Heap->Prop) (J:It) (H':Hp),itv = .ref it/\Inv X ao σ H' s2/\Turn X.prog X.w X.K tg J fp it tn/\tn 0 s2.heap/\(∀b∈fp,zha X ao H' b)/\R J H'
def PI (X:Cx)(tg iter:Expr)(wi:TI):Prop :=
 ∀(ao:List (Addr×Obj)) (s:Shared) (σ:St) (H:Hp) (R:It->Hp->Prop),Inv X ao σ H s->wi σ H R ->
  wpAny (model X.prog X.w) X.A (eval iter X.env) (λv s1=>wpAny (model X.prog X.w) X.A (pyIter v) (PIE X ao σ tg R) X.xe s1) X.xe s
theorem zly {M:Model}{A:Around}{E:Value->Shared->Prop}{s:Shared}{tg:Expr}{it:Addr}{u:Value}{o:Obj}{n:String}{vs:Array Value}{Q:Unit->Shared->Prop}(ho:s.heap.get? it=some o)(hc:o.cls = .type n)(hd:o.data = .fields vs)
  (hn:["enumerate","zip","dict_itemiterator","dict_reverseitemiterator","odict_iterator","itertools.zip_longest","itertools.pairwise"].contains n=false) (hQ:Q () s):wpAny M A (letOwnedTupleGo tg (.ref it) u) Q E s:=by
 unfold letOwnedTupleGo;cases tg<;>first
  | exact wpAny_pure hQ
  | (cases u<;>first
    | exact wpAny_pure hQ
    | (refine wpAny_bind (wpAny_load ho ?_)
       rw[hc,hd];show wpAny M A (if (["enumerate","zip","dict_itemiterator","dict_reverseitemiterator","odict_iterator","itertools.zip_longest","itertools.pairwise"].contains n&&vs[0]?==some (rawInt _))=true then _ else _) Q E s
       rw[if_neg (by intro h;rw[hn,y68] at h;cases h)]
       exact wpAny_pure hQ))
def Itl (K:y03)(a:Addr):It :=
 ⟨λi H=>∃xs x,SqL K H a xs/\xs[i]?=some x,λi H x H'=>H'=H/\∀xs,SqL K H a xs->xs[i]?=some x,λi H=>∃xs,SqL K H a xs/\xs.length≤i⟩
def Itt (K:y03)(a:Addr):It :=
 ⟨λi H=>∃xs x,SqT K H a xs/\xs[i]?=some x,λi H x H'=>H'=H/\∀xs,SqT K H a xs->xs[i]?=some x,λi H=>∃xs,SqT K H a xs/\xs.length≤i⟩
def Itr (lo:Int)(n:Nat):It:=⟨λi _=>i<n,λi H x H'=>H'=H/\x = .int (lo+i),λi _=>n≤i⟩
theorem zhm {P:Program}{w:World}{K:y03}{tg:Expr}(a it:Addr):Turn P w K tg (Itl K a) [it] it (λi h=>h.IsListIter it a i) where
 mem:=by simp
 obj:=λi h st b hb=>by
  have e:b=it:=by simpa using hb
  subst e;obtain⟨o,e,c,d⟩:=st;exact⟨o,e,λv z=>by rw[d] at z;cases z⟩
 keep:=λi h h' st k=>st.at λo e=>k it (by simp) o e
 item:=by
  intro X hP hw hK hc i ao s σ H E I hf st hg;subst hP hw hK;obtain⟨xs,x,hq,hx⟩:=hg;obtain⟨its,rv,p,hz⟩:=I.list hq;obtain⟨u,hu,ru⟩:=rv.get hx;obtain⟨f0,f1,f2,f3,f4,f5⟩:=hf it (by simp)
  refine wpAny_pyNext_list_item st p.isList (x:=u) (by simpa using hu) λh' st' sb=>?_
  have I1:Inv X ao σ H { s with heap:=h' }:=I.turned (t':=s.toks) (λb o hb e=>(sb.2 b hb).trans e) f0 f1 f3 f4 f5
  obtain⟨o,e,c,d⟩:=id st';exact⟨u,rfl,zly (s:={ s with heap:=h' }) e c d (by decide) ⟨x,H,I1,ru,⟨rfl,λys hy=>by rw[I.list_inj hy hq];exact hx⟩,st',λb hb=>(hf b hb).1⟩⟩
 done:=by
  intro X hP hw hK hc i ao s σ H E I hf st hg;subst hP hw hK;obtain⟨xs,hq,hx⟩:=hg;obtain⟨its,rv,p,hz⟩:=I.list hq;obtain⟨f0,f1,f2,f3,f4,f5⟩:=hf it (by simp)
  have hl:=rv.length;exact wpAny_pyNext_list_end (I.ok.hd hc) st p.isList (by simp;lia) λh' eb=>⟨rfl,I.turned (t':=s.toks) (λb o hb e=>eb b o hb e) f0 f1 f3 f4 f5⟩
 self:=λ_ _ _ _ _ st h=>wpAny_pyIter_listiter st h
theorem zf4 {P:Program}{w:World}{K:y03}{tg:Expr}(a it:Addr):Turn P w K tg (Itt K a) [it] it (λi h=>h.IsTupleIter it a i) where
 mem:=by simp
 obj:=λi h st b hb=>by
  have e:b=it:=by simpa using hb
  subst e;obtain⟨o,e,c,d⟩:=st;exact⟨o,e,λv z=>by rw[d] at z;cases z⟩
 keep:=λi h h' st k=>st.at λo e=>k it (by simp) o e
 item:=by
  intro X hP hw hK hc i ao s σ H E I hf st hg;subst hP hw hK;obtain⟨xs,x,hq,hx⟩:=hg;obtain⟨its,rv,p,hz⟩:=I.tuple hq;obtain⟨u,hu,ru⟩:=rv.get hx;obtain⟨f0,f1,f2,f3,f4,f5⟩:=hf it (by simp)
  refine wpAny_pyNext_tuple_item st (show s.heap.IsTuple a its.toArray from p) (x:=u) (by simpa using hu) λh' st' sb=>?_
  have I1:Inv X ao σ H { s with heap:=h' }:=I.turned (t':=s.toks) (λb o hb e=>(sb.2 b hb).trans e) f0 f1 f3 f4 f5
  obtain⟨o,e,c,d⟩:=id st';exact⟨u,rfl,zly (s:={ s with heap:=h' }) e c d (by decide) ⟨x,H,I1,ru,⟨rfl,λys hy=>by rw[I.tuple_inj hy hq];exact hx⟩,st',λb hb=>(hf b hb).1⟩⟩
 done:=by
  intro X hP hw hK hc i ao s σ H E I hf st hg;subst hP hw hK;obtain⟨xs,hq,hx⟩:=hg;obtain⟨its,rv,p,hz⟩:=I.tuple hq;obtain⟨f0,f1,f2,f3,f4,f5⟩:=hf it (by simp)
  have hl:=rv.length;exact wpAny_pyNext_tuple_end (I.ok.hd hc) st (show s.heap.IsTuple a its.toArray from p) (by simp;lia) λh' eb=>⟨rfl,I.turned (t':=s.toks) (λb o hb e=>eb b o hb e) f0 f1 f3 f4 f5⟩
 self:=λ_ _ _ _ _ st h=>wpAny_pyIter_tupleiter st h
theorem zfm {P:Program}{w:World}{K:y03}{tg:Expr}(it:Addr)(lo:Int)(n:Nat):Turn P w K tg (Itr lo n) [it] it (λi h=>IsRangeIter h it (lo+(i:Nat)*1) ((n:Int) - (i:Nat)) 1) where
 mem:=by simp
 obj:=λi h st b hb=>by
  have e:b=it:=by simpa using hb
  subst e;exact⟨_,st,λv z=>by
   have z':Data.fields _=Data.cell v:=z;cases z'⟩
 keep:=λi h h' st k=>k it (by simp) _ st
 item:=by
  intro X hP hw hK hc i ao s σ H E I hf st hg;subst hP hw hK;obtain⟨f0,f1,f2,f3,f4,f5⟩:=hf it (by simp)
  have W:=Walks.range (prog:=X.prog) (w:=X.w) (I.ok.hd hc) it lo 1 n;refine W.item i s _ _ hg st λv h' tk hv st' kk=>?_;obtain⟨t,rfl⟩:=hv;have I1:Inv X ao σ H { s with heap:=h',toks:=tk }:=I.turned (λb o hb e=>kk b o (by simpa using hb) e) f0 f1 f3 f4 f5
  refine⟨_,rfl,zly (s:={ s with heap:=h',toks:=tk }) (n:="range_iterator") st' rfl rfl (by decide) ⟨.int (lo+i),H,I1,⟨t,?_⟩,⟨rfl,rfl⟩,st',λb hb=>(hf b hb).1⟩⟩
  rw[y4s]
 done:=by
  intro X hP hw hK hc i ao s σ H E I hf st hg;subst hP hw hK;obtain⟨f0,f1,f2,f3,f4,f5⟩:=hf it (by simp)
  exact wpAny_pyNext_range_end (I.ok.hd hc) st (by have:n≤i:=hg;lia) λh' eb=>⟨rfl,I.turned (t':=s.toks) (λb o hb e=>eb b o hb e) f0 f1 f3 f4 f5⟩
 self:=λ_ _ _ _ _ st h=>wpAny_pyIter_rangeiter st h
end L2
namespace L2
open PySem PySem.Spec PyProof.Rows
section
variable {X:Cx}{tg:Expr}
theorem zjr {ao:List (Addr×Obj)}{σ:St}{H:Hp}{s:Shared}{R:It->Hp->Prop}{E:Value->Shared->Prop}{lo hi:Int}{t u v:Tok}{tk:Nat}(I:Inv X ao σ H s)(h1:-(2^62)≤lo)(h2:lo<2^62)(h3:-(2^62)≤hi)(h4:hi<2^62)
  (q:R (Itr lo (hi - lo).toNat) H):wpAny (model X.prog X.w) X.A (pyIter (.ref s.heap.objs.size)) (PIE X ao σ tg R) E { s with heap:=s.heap.push { cls:=.type "range",data:=.fields #[.int lo t,.int hi u,.int 1 v] },toks:=tk }:=by
 refine wpAny_pyIter_range (IsRange.new ..) (small_one h1 h2 h3 h4) ?_;have I1:Inv X ao σ H { s with heap:=s.heap.push { cls:=.type "range",data:=.fields #[.int lo t,.int hi u,.int 1 v] },toks:=tk }:=I.kept λb o e=>Heap.get?_push_of_some _ e
 refine⟨(s.heap.push { cls:=.type "range",data:=.fields #[.int lo t,.int hi u,.int 1 v] }).objs.size,[(s.heap.push { cls:=.type "range",data:=.fields #[.int lo t,.int hi u,.int 1 v] }).objs.size],_,_,H,rfl,
  I1.kept (t':=tk) λb o e=>Heap.get?_push_of_some _ e,zfm _ lo (hi - lo).toNat,?_,λb hb=>?_,q⟩
 ·have e1:lo+((0:Nat):Int)*1=lo:=by simp
  have e2:(((hi - lo).toNat:Nat):Int) - ((0:Nat):Int)=Builtin.Range.rangeSize lo hi 1:=by rw[rangeSize_one];split<;>lia
  show IsRangeIter _ _ (lo+((0:Nat):Int)*1) ((((hi - lo).toNat:Nat):Int) - ((0:Nat):Int)) 1;rw[e1,e2];exact Heap.get?_push_size _ rfl
 ·have e:b=(s.heap.push { cls:=.type "range",data:=.fields #[.int lo t,.int hi u,.int 1 v] }).objs.size:=by simpa using hb
  subst e;exact I1.fpOk (y0b _) (I1.hok.fresh (y0b _))
def zry (wi:TI)(g:TG)(tb:TS):TS:=λD σ H=>wi σ H λJ H1=>∃W:Nat->Nat->St->Hp->Prop,(∃m,W 0 m σ H1)/\∀i m σ H,W i m σ H ->
 (J.stop i H/\D.nx σ H)∨(J.go i H/\∃N:St->Hp->Prop,(∀ σ' H',N σ' H'->∃m',m'<m/\W (i+1) m' σ' H')/\∀x H',J.yld i H x H'->g x σ H' fun σ2 H2=>tb { D with nx:=N,ct:=N,bk:=D.nx } σ2 H2)
def zb4 (fp:List Addr)(h:Heap):List (Addr×Obj):=fp.filterMap λb=>(h.get? b).map λo=>(b,o)
theorem z6w {fp:List Addr}{h:Heap}{b:Addr}{o:Obj}(hb:b∈fp)(e:h.get? b=some o):(b,o)∈zb4 fp h:=y52.mpr ⟨b,hb,by rw[e];rfl⟩
theorem zgx {fp:List Addr}{h:Heap}{p:Addr×Obj}(hp:p∈zb4 fp h):p.1∈fp/\h.get? p.1=some p.2:=by
 obtain⟨b,hb,e⟩:=y52.mp hp;cases q:h.get? b with
 | none=>rw[q] at e;cases e
 | some o =>
  rw[q] at e;have e':(b,o)=p:=y12 e;subst e';exact⟨hb,q⟩
theorem Inv.pinned {ao:List (Addr×Obj)}{σ:St}{H:Hp}{s:Shared}{fp:List Addr}(I:Inv X ao σ H s)(hf:∀b∈fp,zha X ao H b)(ho:∀b∈fp,∃o,s.heap.get? b=some o/\∀v,o.data ≠ .cell v):Inv X (ao++zb4 fp s.heap) σ H s :=
 I.pins_of λp hp=>(y0y.mp hp).elim (λz=>I.pin p (y14 _ z)) λz=>by
  obtain⟨hb,e⟩:=zgx z;obtain⟨f0,f1,f2,_⟩:=hf p.1 hb;obtain⟨o,e',d⟩:=ho p.1 hb;rw[e] at e';cases e';exact⟨e,f0,f1,f2,d⟩
theorem Inv.unpinned {ao pl:List (Addr×Obj)}{σ:St}{H:Hp}{s:Shared}(I:Inv X (ao++pl) σ H s):Inv X ao σ H s:=I.pins_of λp hp=>I.pin p (y14 _ (y3a _ hp))
theorem zpq {iter:Expr}{body:List Stmt}{wi:TI}{g:TG}{tb:TS}{pos:Pos}(hp:PassesOwn (model X.prog X.w) X.A X.env X.xe)(hc:X.calm=true)(hi:PI X tg iter wi)(hg:PG X tg g)(hb:PSs X body tb)
  (hs:∀x,foldedSetIterable iter X.env x=pure x:=by intro _;rfl):PS X (.For tg iter body [] pos) (zry wi g tb):=by
 intro ao s σ H D I h;refine wpAny_For (thn (hi ao s σ H _ I h) λv s1 h1=>thn h1 λitv s2 h2=>?_) hs;obtain⟨it,fp,tn,J,H2,e,I2,T,st2,f2,W,⟨m0,w0⟩,turn⟩:=h2;subst e;have stat:∀{H':Hp},(∀b∈fp,H' b=none)->∀b∈fp,zha X ao H' b:=λhn b hb=>⟨hn b hb,(f2 b hb).2⟩;refine codeAny_forLoop_any (λn s'=>∃i σ' H',Inv X ao σ' H' s'/\tn i s'.heap/\(∀b∈fp,H' b=none)/\W i n σ' H') ?_ m0 ⟨0,σ,H2,I2,st2,λb hb=>(f2 b hb).1,w0⟩;rintro n s3 ⟨i,σ3,H3,I3,st3,fr3,w3⟩;rcases turn i n σ3 H3 w3 with ⟨stop,qn⟩ | ⟨go,N,hN,step⟩
 ·refine wpAny_passesOwn hp (thn (T.done X rfl rfl rfl hc i ao s3 σ3 H3 X.xe I3 (stat fr3) st3 stop) λr s4 ⟨hr,I4⟩=>?_);subst hr;exact wpAny_execs_nil ⟨σ3,H3,I4,qn⟩
 ·refine wpAny_passesOwn hp (thn (T.item X rfl rfl rfl hc i ao s3 σ3 H3 X.xe I3 (stat fr3) st3 go) λr s4 ⟨u,hr,h4⟩=>?_);subst hr;refine wpAny_passesOwn hp (thn h4 λ_ s5 ⟨x,H5,I5,r5,y5,st5,fr5⟩=>?_);have I5':=I5.pinned (stat fr5) (T.obj _ _ st5);refine wpAny_passesOwn hp (thn (hg _ s5 σ3 H5 x u _ I5' r5 (step x H5 y5)) λ_ s6 ⟨σ6,H6,I6,q6⟩=>?_);refine wpAny_passesOwn hp (thn (hb _ s6 σ6 H6 _ I6 q6) λf s7 q7=>?_);have again:∀{σ7:St} {H7:Hp},Inv X (ao++zb4 fp s5.heap) σ7 H7 s7->N σ7 H7->∃m,m<n/\∃i σ' H',Inv X ao σ' H' s7/\tn i s7.heap/\(∀b∈fp,H' b=none)/\W i m σ' H':=λ{σ7 H7} I7 n7=>by
   obtain⟨m',hm,w7⟩:=hN σ7 H7 n7;refine⟨m',hm,i+1,σ7,H7,I7.unpinned,T.keep _ _ _ st5 λb hb o e=>(I7.pin (b,o) (y14 _ (y14 _ (z6w hb e)))).1,λb hb=>?_,w7⟩;obtain⟨o,e,d⟩:=T.obj _ _ st5 b hb;exact(I7.pin (b,o) (y14 _ (y14 _ (z6w hb e)))).2.1
  cases f with
  | next=>obtain⟨σ7,H7,I7,n7⟩:=q7;exact again I7 n7
  | cont=>obtain⟨σ7,H7,I7,n7⟩:=q7;exact again I7 n7
  | brk=>obtain⟨σ7,H7,I7,q7⟩:=q7;exact⟨σ7,H7,I7.unpinned,q7⟩
  | ret v=>obtain⟨x7,σ7,H7,I7,r7,q7⟩:=q7;exact⟨x7,σ7,H7,I7.unpinned,r7,q7⟩
end
theorem zjl {K:y03}{a:Addr}{xs:List V}{g:TG}{tb:TS}{D:Ends}{σ:St}{H:Hp}(Pv:Nat->St->Hp->Prop)(h0:Pv 0 σ H)(hl:∀i σ H,i≤xs.length->Pv i σ H->SqL K H a xs)
  (hs:∀i x σ H,xs[i]?=some x->Pv i σ H->g x σ H fun σ2 H2=>tb { D with nx:=Pv (i+1),ct:=Pv (i+1),bk:=D.nx } σ2 H2) (hd:∀ σ H,Pv xs.length σ H->D.nx σ H) :
  ∃W:Nat->Nat->St->Hp->Prop,(∃m,W 0 m σ H)/\∀i m σ H,W i m σ H ->
   ((Itl K a).stop i H/\D.nx σ H)∨((Itl K a).go i H/\∃N:St->Hp->Prop,(∀ σ' H',N σ' H'->∃m',m'<m/\W (i+1) m' σ' H')/\∀x H',(Itl K a).yld i H x H'->g x σ H' fun σ2 H2=>tb { D with nx:=N,ct:=N,bk:=D.nx } σ2 H2):=by
 refine⟨λi m σ H=>m=xs.length - i/\i≤xs.length/\Pv i σ H,⟨xs.length,by simp,y25 _,h0⟩,?_⟩
 rintro i m σ H ⟨rfl,hi,p⟩;have q:=hl i σ H hi p
 by_cases hlt:i<xs.length
 ·refine .inr ⟨⟨xs,xs[i],q,by simp[hlt]⟩,Pv (i+1),fun σ' H' p'=>⟨xs.length - (i+1),by lia,rfl,hlt,p'⟩,λx H' y=>?_⟩
  obtain⟨e,y⟩:=y;subst e;exact hs i x σ _ (y xs q) p
 ·have e:i=xs.length:=by lia
  subst e;exact .inl ⟨⟨xs,q,y0b _⟩,hd σ H p⟩
theorem zlt {K:y03}{a:Addr}{xs:List V}{g:TG}{tb:TS}{D:Ends}{σ:St}{H:Hp}(Pv:Nat->St->Hp->Prop)(h0:Pv 0 σ H)(hl:∀i σ H,i≤xs.length->Pv i σ H->SqT K H a xs)
  (hs:∀i x σ H,xs[i]?=some x->Pv i σ H->g x σ H fun σ2 H2=>tb { D with nx:=Pv (i+1),ct:=Pv (i+1),bk:=D.nx } σ2 H2) (hd:∀ σ H,Pv xs.length σ H->D.nx σ H) :
  ∃W:Nat->Nat->St->Hp->Prop,(∃m,W 0 m σ H)/\∀i m σ H,W i m σ H ->
   ((Itt K a).stop i H/\D.nx σ H)∨((Itt K a).go i H/\∃N:St->Hp->Prop,(∀ σ' H',N σ' H'->∃m',m'<m/\W (i+1) m' σ' H')/\∀x H',(Itt K a).yld i H x H'->g x σ H' fun σ2 H2=>tb { D with nx:=N,ct:=N,bk:=D.nx } σ2 H2):=by
 refine⟨λi m σ H=>m=xs.length - i/\i≤xs.length/\Pv i σ H,⟨xs.length,by simp,y25 _,h0⟩,?_⟩
 rintro i m σ H ⟨rfl,hi,p⟩;have q:=hl i σ H hi p
 by_cases hlt:i<xs.length
 ·refine .inr ⟨⟨xs,xs[i],q,by simp[hlt]⟩,Pv (i+1),fun σ' H' p'=>⟨xs.length - (i+1),by lia,rfl,hlt,p'⟩,λx H' y=>?_⟩
  obtain⟨e,y⟩:=y;subst e;exact hs i x σ _ (y xs q) p
 ·have e:i=xs.length:=by lia
  subst e;exact .inl ⟨⟨xs,q,y0b _⟩,hd σ H p⟩
theorem zht {lo:Int}{n:Nat}{g:TG}{tb:TS}{D:Ends}{σ:St}{H:Hp}(Pv:Nat->St->Hp->Prop)(h0:Pv 0 σ H)
  (hs:∀i σ H,i<n->Pv i σ H->g (.int (lo+i)) σ H fun σ2 H2=>tb { D with nx:=Pv (i+1),ct:=Pv (i+1),bk:=D.nx } σ2 H2) (hd:∀ σ H,Pv n σ H->D.nx σ H) :
  ∃W:Nat->Nat->St->Hp->Prop,(∃m,W 0 m σ H)/\∀i m σ H,W i m σ H ->
   ((Itr lo n).stop i H/\D.nx σ H)∨((Itr lo n).go i H/\∃N:St->Hp->Prop,(∀ σ' H',N σ' H'->∃m',m'<m/\W (i+1) m' σ' H')/\∀x H',(Itr lo n).yld i H x H'->g x σ H' fun σ2 H2=>tb { D with nx:=N,ct:=N,bk:=D.nx } σ2 H2):=by
 refine⟨λi m σ H=>m=n - i/\i≤n/\Pv i σ H,⟨n,by simp,y25 _,h0⟩,?_⟩
 rintro i m σ H ⟨rfl,hi,p⟩
 by_cases hlt:i<n
 ·refine .inr ⟨hlt,Pv (i+1),fun σ' H' p'=>⟨n - (i+1),by lia,rfl,hlt,p'⟩,λx H' y=>?_⟩
  obtain⟨e,y⟩:=y;subst e y;exact hs i σ _ hlt p
 ·have e:i=n:=by lia
  subst e;exact .inl ⟨y0b _,hd σ H p⟩
end L2
namespace L2
open PySem PySem.Spec PyProof.Rows
abbrev R2:=V->V->Hp->VK->Prop
def OpR (X:Cx)(f:Value->Value->Sem Value)(r:R2):Prop :=
 ∀(ao:List (Addr×Obj)) (s:Shared) (σ:St) (H:Hp) (x y:V) (v u:Value) (Q:VK),Inv X ao σ H s->RelV x v->RelV y u->r x y H Q ->
  wpAny (model X.prog X.w) X.A (f v u) (EP X ao σ Q) X.xe s
def UnR (X:Cx)(f:Value->Sem Value)(r:V->Hp->VK->Prop):Prop :=
 ∀(ao:List (Addr×Obj)) (s:Shared) (σ:St) (H:Hp) (x:V) (v:Value) (Q:VK),Inv X ao σ H s->RelV x v->r x H Q ->
  wpAny (model X.prog X.w) X.A (f v) (EP X ao σ Q) X.xe s
def z4i (X:Cx)(f:Value)(r:List V->Hp->VK->Prop):Prop :=
 ∀(ao:List (Addr×Obj)) (s:Shared) (σ:St) (H:Hp) (xs:List V) (us:List Value) (Q:VK),Inv X ao σ H s->Vals xs us->r xs H Q ->
  wpAny (model X.prog X.w) X.A (call f us) (EP X ao σ Q) X.xe s
def tOp (r:R2)(ta tb:TE):TE:=fun σ H Q=>ta σ H λx H1=>tb σ H1 λy H2=>r x y H2 Q
def tUn (r:V->Hp->VK->Prop)(ta:TE):TE:=fun σ H Q=>ta σ H λx H1=>r x H1 Q
def rI (C:Int->Int->Prop)(g:Int->Int->V):R2:=λx y H Q=>∃i j,x = .int i/\y = .int j/\C i j/\Q (g i j) H
def rI0 (g:Int->Int->V):R2:=λx y H Q=>∃i j,x = .int i/\y = .int j/\Q (g i j) H
def rU (g:Int->V):V->Hp->VK->Prop:=λx H Q=>∃i,x = .int i/\Q (g i) H
section
variable {X:Cx}{a b c:Expr}{ta tb tc:TE}{pos:Pos}
theorem zr5 (ha:PE X a ta)(hb:PE X b tb){ao:List (Addr×Obj)}{s:Shared}{σ:St}{H:Hp}{R:V->V->Hp->Prop}(I:Inv X ao σ H s)
  (h:ta σ H λx H1=>tb σ H1 λy H2=>R x y H2) {Q:Value->Shared->Prop} {f:Value->Value->Sem Value}
  (hf:∀v u s2 x y H2,Inv X ao σ H2 s2->RelV x v->RelV y u->R x y H2->wpAny (model X.prog X.w) X.A (f v u) Q X.xe s2) :
  wpAny (model X.prog X.w) X.A (eval a X.env) (λv s₁=>wpAny (model X.prog X.w) X.A (eval b X.env) (λu s₂=>wpAny (model X.prog X.w) X.A (f v u) Q X.xe s₂) X.xe s₁) X.xe s:=by
 refine thn (ha ao s σ H _ I h) λv s1 ⟨x,H1,I1,r1,q1⟩=>?_;refine thn (hb ao s1 σ H1 _ I1 q1) λu s2 ⟨y,H2,I2,r2,q2⟩=>?_;exact hf v u s2 x y H2 I2 r1 r2 q2
theorem z0n {op:Operator}{r:R2}(ho:OpR X (binaryOp op) r)(ha:PE X a ta)(hb:PE X b tb):PE X (.BinOp a op b pos) (tOp r ta tb):=by
 intro ao s σ H Q I h;exact wpAny_BinOp (zr5 ha hb I h λv u s2 x y H2 I2 rx ry q=>ho ao s2 σ H2 x y v u Q I2 rx ry q)
theorem zcs {op:UnaryOp}{r:V->Hp->VK->Prop}(ho:UnR X (unaryOp op) r)(ha:PE X a ta):PE X (.UnaryOp op a pos) (tUn r ta):=by
 intro ao s σ H Q I h;exact UnaryOp_ (thn (ha ao s σ H _ I h) λv s1 ⟨x,H1,I1,r1,q1⟩=>ho ao s1 σ H1 x v Q I1 r1 q1)
theorem opI {f:Value->Value->Sem Value}{C:Int->Int->Prop}{g:Int->Int->Int}
  (rule:∀(i j:Int) (t u:Tok) (s:Shared) (Q:Value->Shared->Prop) (E:Value->Shared->Prop),C i j->Q (.int (g i j) s.toks) { s with toks:=s.toks+1 }->wpAny (model X.prog X.w) X.A (f (.int i t) (.int j u)) Q E s) :
  OpR X f (rI C λi j=>.int (g i j)):=by
 intro ao s σ H x y v u Q I rx ry h;obtain⟨i,j,rfl,rfl,hc,q⟩:=h;obtain⟨t,rfl⟩:=rx;obtain⟨t',rfl⟩:=ry;exact rule i j t t' s _ _ hc ⟨.int (g i j),H,I.tok _,⟨_,rfl⟩,q⟩
theorem zrr {f:Value->Value->Sem Value}{g:Int->Int->Int}
  (rule:∀(i j:Int) (t u:Tok) (s:Shared) (Q:Value->Shared->Prop) (E:Value->Shared->Prop),Q (.int (g i j) s.toks) { s with toks:=s.toks+1 }->wpAny (model X.prog X.w) X.A (f (.int i t) (.int j u)) Q E s) :
  OpR X f (rI0 λi j=>.int (g i j)):=by
 intro ao s σ H x y v u Q I rx ry h;obtain⟨i,j,rfl,rfl,q⟩:=h;obtain⟨t,rfl⟩:=rx;obtain⟨t',rfl⟩:=ry;exact rule i j t t' s _ _ ⟨.int (g i j),H,I.tok _,⟨_,rfl⟩,q⟩
theorem zq7 {f:Value->Value->Sem Value}{g:Int->Int->Bool}
  (rule:∀(i j:Int) (t u:Tok) (s:Shared) (Q:Value->Shared->Prop) (E:Value->Shared->Prop),Q (.bool (g i j)) s->wpAny (model X.prog X.w) X.A (f (.int i t) (.int j u)) Q E s) :
  OpR X f (rI0 λi j=>.bl (g i j)):=by
 intro ao s σ H x y v u Q I rx ry h;obtain⟨i,j,rfl,rfl,q⟩:=h;obtain⟨t,rfl⟩:=rx;obtain⟨t',rfl⟩:=ry;exact rule i j t t' s _ _ ⟨.bl (g i j),H,I,rfl,q⟩
theorem zpg:OpR X (binaryOp .Add) (rI0 λi j=>.int (i+j)):=zrr λ_ _ _ _ _ _ _ q=>add_int q
theorem zo5:OpR X (binaryOp .Sub) (rI0 λi j=>.int (i - j)):=zrr λ_ _ _ _ _ _ _ q=>sub_int q
theorem zpo:OpR X (binaryOp .Mod) (rI (λ_ j=>0<j) λi j=>.int (i % j)):=opI λi j _ _ _ _ _ hc q=>by
 have h1:(0:Int)<j:=hc;exact mod_int' (by lia) (by rw[Int.fmod_eq_emod_of_nonneg i (by lia)];exact q)
theorem unI {f:Value->Sem Value}{g:Int->Int}
  (rule:∀(i:Int) (t:Tok) (s:Shared) (Q:Value->Shared->Prop) (E:Value->Shared->Prop),Q (.int (g i) s.toks) { s with toks:=s.toks+1 }->wpAny (model X.prog X.w) X.A (f (.int i t)) Q E s) :
  UnR X f (rU λi=>.int (g i)):=by
 intro ao s σ H x v Q I rx h;obtain⟨i,rfl,q⟩:=h;obtain⟨t,rfl⟩:=rx;exact rule i t s _ _ ⟨.int (g i),H,I.tok _,⟨_,rfl⟩,q⟩
theorem zp0:UnR X (unaryOp .USub) (rU λi=>.int (-i)):=unI λ_ _ _ _ _ q=>neg_int q
end
def zps:V->V->Bool
 | .non,.non=>true | .non,.int _=>true | .int _,.non=>true | .non,.bl _=>true | .bl _,.non=>true | .non,.str _=>true | .str _,.non=>true
 | .int _,.int _=>true | .bl _,.bl _=>true | .str _,.str _=>true | .byt _,.byt _=>true
 | .int _,.str _=>true | .str _,.int _=>true | .bl _,.str _=>true | .str _,.bl _=>true
 | _,_=>false
def rEq:R2:=λx y H Q=>zps x y=true/\Q (.bl (decide (x=y))) H
def rNe:R2:=λx y H Q=>zps x y=true/\Q (.bl (!decide (x=y))) H
theorem zg7 {i j:Int}:decide (V.int i=V.int j)=(i==j):=by
 rw[y2h];simp
theorem zl2 {i j:Bool}:decide (V.bl i=V.bl j)=(i==j):=by
 rw[y2h];simp
theorem zgy {i j:Str}:decide (V.str i=V.str j)=(i==j):=by
 rw[y2h];simp
theorem zh6 {i j:Array UInt8}:decide (V.byt i=V.byt j)=(i.toList==j.toList):=by
 rw[y2h];cases i;cases j;simp
section
variable {X:Cx}{a b c:Expr}{ta tb tc:TE}{pos:Pos}
theorem z1i {ao:List (Addr×Obj)}{σ:St}{H:Hp}{s:Shared}{Q:VK}{k k':Bool}(I:Inv X ao σ H s)(q:Q (.bl k) H)(e:k=k'):EP X ao σ Q (.bool k') s:=by
 subst e;exact⟨.bl k,H,I,rfl,q⟩
theorem zji:OpR X (compareOp .Eq) rEq:=by
 intro ao s σ H x y v u Q I rx ry h;obtain⟨hs,q⟩:=h;cases x with
 | non =>
  cases rx;cases y with
  | non=>cases ry;exact PySem.EqNone.eq_none_none (z1i I q (by simp))
  | bl j=>cases ry;exact PySem.EqNone.eq_none_bool (z1i I q (by simp))
  | int j=>obtain⟨t',rfl⟩:=ry;exact PySem.EqNone.eq_none_int (z1i I q (by simp))
  | str j=>obtain⟨t',rfl⟩:=ry;exact PySem.EqNone.eq_none_str (z1i I q (by simp))
  | _=>exact absurd (show false=true from hs) y0z
 | bl i =>
  cases rx;cases y with
  | non=>cases ry;exact PySem.EqNone.eq_bool_none (z1i I q (by simp))
  | bl j=>cases ry;exact eq_bool (z1i I q zl2)
  | str j=>obtain⟨t',rfl⟩:=ry;exact PySem.EqMixed.eq_bool_str (z1i I q (by simp))
  | _=>exact absurd (show false=true from hs) y0z
 | int i =>
  obtain⟨t,rfl⟩:=rx;cases y with
  | non=>cases ry;exact PySem.EqNone.eq_int_none (z1i I q (by simp))
  | int j=>obtain⟨t',rfl⟩:=ry;exact eq_int (z1i I q zg7)
  | str j=>obtain⟨t',rfl⟩:=ry;exact PySem.EqMixed.eq_int_str (z1i I q (by simp))
  | _=>exact absurd (show false=true from hs) y0z
 | str i =>
  obtain⟨t,rfl⟩:=rx;cases y with
  | non=>cases ry;exact PySem.EqNone.eq_str_none (z1i I q (by simp))
  | bl j=>cases ry;exact PySem.EqMixed.eq_str_bool (z1i I q (by simp))
  | int j=>obtain⟨t',rfl⟩:=ry;exact PySem.EqMixed.eq_str_int (z1i I q (by simp))
  | str j=>obtain⟨t',rfl⟩:=ry;exact eq_str (z1i I q zgy)
  | _=>exact absurd (show false=true from hs) y0z
 | byt i =>
  obtain⟨t,rfl⟩:=rx;cases y with
  | byt j=>obtain⟨t',rfl⟩:=ry;exact PySem.W.eq_bytes (z1i I q zh6)
  | _=>exact absurd (show false=true from hs) y0z
 | _=>cases y<;>exact absurd (show false=true from hs) y0z
theorem zjo:OpR X (compareOp .NotEq) rNe:=by
 intro ao s σ H x y v u Q I rx ry h;obtain⟨hs,q⟩:=h;cases x with
 | non =>
  cases rx;cases y with
  | non=>cases ry;exact PySem.EqNone.ne_none_none (z1i I q (by simp))
  | bl j=>cases ry;exact PySem.EqNone.ne_none_bool (z1i I q (by simp))
  | int j=>obtain⟨t',rfl⟩:=ry;exact PySem.EqNone.ne_none_int (z1i I q (by simp))
  | str j=>obtain⟨t',rfl⟩:=ry;exact PySem.EqNone.ne_none_str (z1i I q (by simp))
  | _=>exact absurd (show false=true from hs) y0z
 | bl i =>
  cases rx;cases y with
  | non=>cases ry;exact PySem.EqNone.ne_bool_none (z1i I q (by simp))
  | bl j=>cases ry;exact ne_bool (z1i I q (congrArg not zl2))
  | str j=>obtain⟨t',rfl⟩:=ry;exact PySem.EqMixed.ne_bool_str (z1i I q (by simp))
  | _=>exact absurd (show false=true from hs) y0z
 | int i =>
  obtain⟨t,rfl⟩:=rx;cases y with
  | non=>cases ry;exact PySem.EqNone.ne_int_none (z1i I q (by simp))
  | int j=>obtain⟨t',rfl⟩:=ry;exact ne_int (z1i I q (congrArg not zg7))
  | str j=>obtain⟨t',rfl⟩:=ry;exact PySem.EqMixed.ne_int_str (z1i I q (by simp))
  | _=>exact absurd (show false=true from hs) y0z
 | str i =>
  obtain⟨t,rfl⟩:=rx;cases y with
  | non=>cases ry;exact PySem.EqNone.ne_str_none (z1i I q (by simp))
  | bl j=>cases ry;exact PySem.EqMixed.ne_str_bool (z1i I q (by simp))
  | int j=>obtain⟨t',rfl⟩:=ry;exact PySem.EqMixed.ne_str_int (z1i I q (by simp))
  | str j=>obtain⟨t',rfl⟩:=ry;exact ne_str (z1i I q (congrArg not zgy))
  | _=>exact absurd (show false=true from hs) y0z
 | byt i =>
  obtain⟨t,rfl⟩:=rx;cases y with
  | byt j=>obtain⟨t',rfl⟩:=ry;exact PySem.W.ne_bytes (z1i I q (congrArg not zh6))
  | _=>exact absurd (show false=true from hs) y0z
 | _=>cases y<;>exact absurd (show false=true from hs) y0z
theorem zq8:OpR X (compareOp .Lt) (rI0 λi j=>.bl (decide (i<j))):=zq7 λ_ _ _ _ _ _ _ q=>lt_int q
theorem zqm:OpR X (compareOp .Gt) (rI0 λi j=>.bl (decide (j<i))):=zq7 λ_ _ _ _ _ _ _ q=>gt_int q
theorem zrb:OpR X (compareOp .GtE) (rI0 λi j=>.bl (decide (j≤i))):=zq7 λ_ _ _ _ _ _ _ q=>ge_int q
theorem z0p (b:Expr){op:CmpOp}(h:op ≠ .In:=by decide)(h2:op ≠ .NotIn:=by decide):behindInMarks op b=false:=by
 have e1:(op==CmpOp.In)=false:=by cases op<;>first | rfl | exact absurd rfl h
 have e2:(op==CmpOp.NotIn)=false:=by cases op<;>first | rfl | exact absurd rfl h2
 cases b<;>simp[behindInMarks,e1,e2]
theorem z33 {op:CmpOp}{r:R2}(ho:OpR X (compareOp op) r)(ha:PE X a ta)(hb:PE X b tb)(hm:behindInMarks op b=false):PE X (.Compare a [op] [b] pos) (tOp r ta tb):=by
 intro ao s σ H Q I h;exact wpAny_Compare1 (zr5 ha hb I h λv u s2 x y H2 I2 rx ry q=>ho ao s2 σ H2 x y v u Q I2 rx ry q) hm
theorem zbv:(sizeLine:Nat)<2^63:=by rw[sizeLine_eq];decide
theorem zex:OpR X (binaryOp .Add) (λx y H Q=>∃i j,x = .str i/\y = .str j/\i.length+j.length≤sizeLine/\Q (.str (i++j)) H):=by
 intro ao s σ H x y v u Q I rx ry h;obtain⟨i,j,rfl,rfl,hz,q⟩:=h;obtain⟨t,rfl⟩:=rx;obtain⟨t',rfl⟩:=ry;exact add_str (λt' tk=>⟨.str (i++j),H,I.tok _,⟨_,rfl⟩,q⟩) hz
theorem z7l {x:V}{us:List Value}(r:Vals [x] us):∃u,us = [u]/\RelV x u:=by
 cases r with
 | cons r1 r2=>cases r2;exact⟨_,rfl,r1⟩
theorem zjd {x y:V}{us:List Value}(r:Vals [x,y] us):∃u w',us = [u,w']/\RelV x u/\RelV y w':=by
 cases r with
 | cons r1 r2 =>
  cases r2 with
  | cons r3 r4=>cases r4;exact⟨_,_,rfl,r1,r3⟩
theorem zjg:z4i X (.builtin "abs") (λxs H Q=>∃i,xs = [.int i]/\Q (.int (if i<0 then -i else i)) H):=by
 intro ao s σ H xs us Q I r h;obtain⟨i,rfl,q⟩:=h;obtain⟨u,rfl,t,rfl⟩:=z7l r;exact call_abs_int λu tk=>⟨.int (if i<0 then -i else i),H,I.tok _,⟨_,rfl⟩,q⟩
theorem zg4 (hc:X.calm=true):z4i X (.builtin "min") (λxs H Q=>∃i j,xs = [.int i,.int j]/\Q (.int (if j<i then j else i)) H):=by
 intro ao s σ H xs us Q I r h;obtain⟨i,j,rfl,q⟩:=h;obtain⟨u,w',rfl,⟨t,rfl⟩,⟨t',rfl⟩⟩:=zjd r;refine min_two_ints (I.ok.hd hc) λh' tk k=>⟨_,H,I.kept k,?_,q⟩
 by_cases hj:j<i
 ·rw[if_pos hj,if_pos hj];exact⟨_,rfl⟩
 ·rw[if_neg hj,if_neg hj];exact⟨_,rfl⟩
end
end L2
namespace L2
open PySem PySem.Spec PyProof.Rows
structure ObjM (h:Heap)(x dx C:Addr)(mA:Str->Option Value):Prop where
 obj:h.get? x=some (y34 C dx)
 ns:h.Ns1 dx mA
 ne:dx≠x
theorem zir {h:Heap}{dx:Addr}{mA:Str->Option Value}(n:h.Ns1 dx mA):∃od,h.get? dx=some od/\∀name,y58 name od=some (mA name):=by
 obtain⟨o,es,ep,ho,hd,hk,_,hm⟩:=n;refine⟨o,ho,λname=>?_⟩;have e:=hm name;unfold nsFind findBy at e;rw[←Array.find?_toList] at e;unfold y58;rw[hd];dsimp only
 split
 ·rename_i y q;rw[q] at e;exact congrArg some e
 ·rename_i q;rw[q] at e;have a:es.toList.any (·.refKey)=false:=by
   rw[y6q];intro y hy;obtain⟨z,t,hkey⟩:=hk y (Array.mem_toList_iff.mp hy);simp[DictEntry.refKey,hkey]
  have a':¬es.toList.any (·.refKey)=true:=by rw[a];exact y0z
  rw[if_neg a'];exact congrArg some e
theorem ObjM.look {h:Heap}{x dx C:Addr}{mA:Str->Option Value}(I:ObjM h x dx C mA):∃od,PySem.W.InstAt h x (y34 C dx) C (some od)/\∀name,y58 name od=some (mA name) :=
 let ⟨od,ho,hl⟩:=zir I.ns
 ⟨od,⟨I.obj,rfl,rfl,ho⟩,hl⟩
section
variable {prog:Program}{w:World}{A:Around}{E:Value->Shared->Prop}{s:Shared}{K:y03}{x dx C f:Addr}{mA:Str->Option Value}{name:Str}{v:Value}
theorem zmo {expr:Bool}{Q:Value->Shared->Prop}(X:K.In s.heap)(I:ObjM s.heap x dx C mA)(hg:y3v K C name=true)(hh:y49 K C=true)
  (ha:y11 K (.ref C) name=some none) (hv:mA name=some v) (hv':y74 v=true) (h:Q v { s with toks:=s.toks+1 }) :
  wpAny (model prog w) A (getAttr (.ref x) name expr) Q E s:=by
 obtain⟨od,J,hl⟩:=I.look;exact PySem.W.get_value X J (y4t hg).1 (PySem.W.findObj_own hh ha rfl (by rw[hl,hv])) hv' h
theorem zku {pl:Sem Bool}{Q:Value×List Value->Shared->Prop}(X:K.In s.heap)(I:ObjM s.heap x dx C mA)(hg:y3v K C name=true)
  (hf:y11 K (.ref C) name=some (some (.ref f))) (ht:y23 K (.ref f)=true) (hv:mA name=none) (h:Q (.ref f,[.ref x]) s) :
  wpAny (model prog w) A (getMethod (.ref x) name pl) Q E s:=by
 obtain⟨od,J,hl⟩:=I.look;exact PySem.W.method_fn X J (y4t hg).1 (y4t hg).2 hf (beq_iff_eq.mp ht) (by show(y58 name od).map (·.isSome)=some false;rw[hl,hv];rfl) h
theorem znl {ns:List Str}{Q:Unit->Shared->Prop}(X:K.In s.heap)(I:ObjM s.heap x dx C mA)
  (hs:y11 K (.ref C) "__setattr__"=some (some (.builtin "object.__setattr__"))) (hp:y5b K C=true) (ht:y5u K C name=some none) (hh:y49 K C=true)
  (hw:y70 mA ns) (hsz:ns.length≤sizeLine)
  (h:∀h',ObjM h' x dx C (λy=>if y=name then some v else mA y)->Heap.SameBut dx s.heap h'->Q () { s with heap:=h',toks:=s.toks+2 }) :
  wpAny (model prog w) A (setAttr (.ref x) name v) Q E s:=by
 obtain⟨od,J,hl⟩:=I.look;refine PySem.W.set_plain X J hs (PySem.W.osa_open (s:={ s with toks:=s.toks+1 }) (r:=none) X J hp ht λb=>?_)
 obtain⟨cd,hc,hd'⟩:=PySem.W.any_some hh;have hx:s.heap.get? x=some ⟨.ref C,some dx,.plain,#[]⟩:=I.obj;refine wpAny_bind (wpAny_pure (wpAny_bind (wpAny_bind (wpAny_loadPart hx (wpAny_bind (PySem.W.Looks.here (s:={ s with toks:=s.toks+1 }) (PySem.W.looks_clsIn X hc) ?_))))))
 rw[hd'];refine wpAny_pure (a:=some dx) (wpAny_bind (wpAny_pure (wpAny_bind ?_)));refine wpAny_nsSet1 (s:={ s with toks:=s.toks+1 }) I.ns λh' hn2 hs2=>?_
 obtain⟨oD,esD,epD,hoD,hdD,hcD⟩:=hn2.count (PySem.Within.cons name v hw);refine wpAny_bind (wpAny_lookBehind hoD (by rw[hdD];exact pastItsLine_dict (y17 hcD (by rw[y1a];lia))) ?_)
 exact wpAny_pure (h _ ⟨(hs2.2 _ (Ne.symm I.ne)).trans I.obj,hn2,I.ne⟩ hs2)
theorem zk1 {R:Result->Shared->Prop}{vs:List Value}{kw:List (Str×Value)}(X:K.In s.heap)(hm:y4u K C=true)
  (hi:y11 K (.ref C) "__init__"=some (some (.ref f))) (hf:PySem.W.typeIn K (.ref f)=some (.type "function"))
  (h:codeAny (model prog w) (A.under (.builtin "type.__call__" ⟨.ref C::vs,kw⟩)) (.call (.ref f) ⟨.ref (s.heap.objs.size+1)::vs,kw⟩) (PySem.W.InitBack (s.heap.objs.size+1) R)
   { s with heap:=(s.heap.push y2d).push (y34 C s.heap.objs.size) }) :
  codeAny (model prog w) A (.call (.ref C) ⟨vs,kw⟩) R s:=by
 obtain⟨hh,g,d,t,os⟩:=s;exact PySem.W.make_core (PySem.W.makes_of X hm) (PySem.W.looks_findIn X hi) (λself=>PySem.W.bind_fn X self hf) (.inl rfl) h
end
def z8z (f:Str)(v:V):List (Str×V)->List (Str×V)
 | []=>[(f,v)]
 | (g,x)::r=>if g=f then (g,v)::r else (g,x)::z8z f v r
theorem z5s (f g:Str)(v:V):∀fs:List (Str×V),(z8z f v fs).lookup g=if g=f then some v else fs.lookup g
 | []=>by
  show y4a g [(f,v)]=_
  by_cases h:g=f
  ·have hb:(g==f)=true:=beq_iff_eq.mpr h;simp only[y4a,hb,if_pos h]
  ·have hb:(g==f)=false:=beq_eq_false_iff_ne.mpr h;simp only[y4a,hb,if_neg h]
 | (k,x)::r=>by
  have ih:=z5s f g v r;rw[show z8z f v ((k,x)::r)=(if k=f then (k,v)::r else (k,x)::z8z f v r) from rfl]
  by_cases hk:k=f
  ·rw[if_pos hk]
   by_cases h:g=k
   ·have hb:(g==k)=true:=beq_iff_eq.mpr h;simp only[y4a,hb,if_pos (h.trans hk)]
   ·have hb:(g==k)=false:=beq_eq_false_iff_ne.mpr h;simp only[y4a,hb,if_neg (λe:g=f=>h (e.trans hk.symm))]
  ·rw[if_neg hk]
   by_cases h:g=k
   ·have hb:(g==k)=true:=beq_iff_eq.mpr h;simp only[y4a,hb,if_neg (λe:g=f=>hk (h.symm.trans e))]
   ·have hb:(g==k)=false:=beq_eq_false_iff_ne.mpr h;simp only[y4a,hb];exact ih
theorem z85 (f:Str)(v:V):∀fs:List (Str×V),f∈(z8z f v fs).map (·.1)/\∀g,g∈fs.map (·.1)->g∈(z8z f v fs).map (·.1)
 | []=>⟨by simp[z8z],λg h=>by simp at h⟩
 | (k,x)::r=>by
  obtain⟨i1,i2⟩:=z85 f v r;rw[show z8z f v ((k,x)::r)=(if k=f then (k,v)::r else (k,x)::z8z f v r) from rfl]
  by_cases hk:k=f
  ·rw[if_pos hk];subst hk;exact⟨by simp,λg h=>by simpa using h⟩
  ·rw[if_neg hk];refine⟨?_,λg h=>?_⟩
   ·rw[y0l];exact y0a _ i1
   ·rw[y0l] at h ⊢
    rcases y0k.mp h with e | e
    ·exact y0k.mpr (.inl e)
    ·exact y0a _ (i2 g e)
theorem z5w (f:Str)(v:V):∀fs:List (Str×V),(z8z f v fs).length≤fs.length+1
 | []=>by simp[z8z]
 | (k,x)::r=>by
  have ih:=z5w f v r;rw[show z8z f v ((k,x)::r)=(if k=f then (k,v)::r else (k,x)::z8z f v r) from rfl]
  by_cases hk:k=f
  ·rw[if_pos hk,y1a,y1a];lia
  ·rw[if_neg hk,y1a,y1a];lia
theorem RelO.some_of {v:V}{o:Option Value}(r:RelO (some v) o):∃u,o=some u/\RelV v u:=by
 cases o with
 | none=>exact(show False from r).elim
 | some u=>exact⟨u,rfl,r⟩
theorem RelO.none_of {o:Option Value}(r:RelO none o):o=none:=by
 cases o with
 | none=>rfl
 | some u=>exact(show False from r).elim
theorem zgq {v:V}{u:Value}(r:RelV v u):y74 u=true:=by
 cases v with
 | non=>cases (show u=Value.none from r);rfl
 | bl b=>cases (show u=Value.bool b from r);rfl
 | int i=>obtain⟨t,e⟩:=(show ∃t,u=Value.int i t from r);cases e;rfl
 | str x=>obtain⟨t,e⟩:=(show ∃t,u=Value.str x t from r);cases e;rfl
 | byt b=>obtain⟨t,e⟩:=(show ∃t,u=Value.bytes b t from r);cases e;rfl
 | flt b=>obtain⟨t,e⟩:=(show ∃t,u=Value.float b t from r);cases e;rfl
 | ref a=>cases (show u=Value.ref a from r);rfl
 | ty n=>cases (show u=Value.type n from r);rfl
section
variable {P:Program}{w:World}{H H':Hp}{h h':Heap}{a C dx:Addr}{fs fs':List (Str×V)}
theorem za9 (hok:HOk P w H h)(e:H a=some (.ins C dx fs)):∃mA,ObjM h a dx C mA/\(∀f,RelO (fs.lookup f) (mA f))/\y70 mA (fs.map (·.1))/\fs.length≤1000/\H dx=some (.own a):=by
 obtain⟨d,z,ne,ob,mA,n,r,q⟩:=(show ObjOk P w H h a (.ins C dx fs) from hok a _ e)
 exact⟨mA,⟨ob,n,ne⟩,r,q,z,d⟩
end
structure Cls (K:y03)(C:Addr):Prop where
 pg:y3v K C Str.empty=true
 hd:y49 K C=true
 po:y5b K C=true
 sa:y11 K (.ref C) "__setattr__"=some (some (.builtin "object.__setattr__"))
theorem Cls.get {K:y03}{C:Addr}(c:Cls K C)(f:Str):y3v K C f=true:=c.pg
def NoAttr (K:y03)(C:Addr)(f:Str):Prop:=y11 K (.ref C) f=some none
theorem NoAttr.taker {K:y03}{C:Addr}{f:Str}(n:NoAttr K C f):y5u K C f=some none:=by
 unfold y5u;rw[show y11 K (.ref C) f=some none from n]
 rfl
structure Con (K:y03)(C:Addr)(f:Str)(v:V)(u:Value):Prop where
 at_:y11 K (.ref C) f=some (some u)
 rel:RelV v u
 get:y6r K u "__get__"=some none
 cp:PySem.W.copiedNames.contains f=false
structure Meth (K:y03)(C:Addr)(m:Str)(f:Addr):Prop where
 at_:y11 K (.ref C) m=some (some (.ref f))
 fn:y23 K (.ref f)=true
 kp:y0i K (.ref f)=true
section
variable {X:Cx}{ao:List (Addr×Obj)}{σ:St}{H:Hp}{s:Shared}{a C dx:Addr}{fs:List (Str×V)}{f:Str}{v:V}{A:Around}{E:Value->Shared->Prop}
theorem zfl {b:Bool}{Q:Value->Shared->Prop}(I:Inv X ao σ H s)(e:H a=some (.ins C dx fs))(c:Cls X.K C)(n:NoAttr X.K C f)(l:fs.lookup f=some v)
  (h:∀u s',Inv X ao σ H s'->RelV v u->Q u s'):wpAny (model X.prog X.w) A (getAttr (.ref a) f b) Q E s:=by
 obtain⟨mA,O,r,_,_,_⟩:=za9 I.hok e;obtain⟨u,hu,ru⟩:=RelO.some_of (v:=v) (o:=mA f) (by rw[←l];exact r f)
 exact zmo I.kIn O (c.get f) c.hd n hu (zgq ru) (h u _ (I.tok _) ru)
theorem z9v {m:Str}{g:Addr}{pl:Sem Bool}{Q:Value×List Value->Shared->Prop}(I:Inv X ao σ H s)(e:H a=some (.ins C dx fs))(c:Cls X.K C)(k:Meth X.K C m g)(l:fs.lookup m=none)
  (h:Q (.ref g,[.ref a]) s):wpAny (model X.prog X.w) A (getMethod (.ref a) m pl) Q E s:=by
 obtain⟨mA,O,r,_,_,_⟩:=za9 I.hok e;have hn:mA m=none:=RelO.none_of (by rw[←l];exact r m)
 exact zku I.kIn O (c.get m) k.at_ k.fn hn h
theorem zet {y:V}{u:Value}{Q:Unit->Shared->Prop}(I:Inv X ao σ H s)(e:H a=some (.ins C dx fs))(c:Cls X.K C)(n:NoAttr X.K C f)(hl:fs.length<1000)(ry:RelV y u)
  (h:∀s',Inv X ao σ (upd H a (.ins C dx (z8z f y fs))) s'->Q () s'):wpAny (model X.prog X.w) A (setAttr (.ref a) f u) Q E s:=by
 obtain⟨mA,O,r,wi,_,ho⟩:=za9 I.hok e;have hz:(fs.map (·.1)).length≤sizeLine:=by rw[y04,sizeLine_eq];lia
 refine znl I.kIn O c.sa c.po n.taker c.hd wi hz λh' O' sb=>h _ ?_;have hd:∃o,h'.get? dx=some o:=let ⟨o,_,_,e',_⟩:=O'.ns;⟨o,e'⟩
 refine I.write (x:=a) (e:=dx) (by rw[e];exact True.intro) (.inr ho) (λb q hb z=>(sb.2 b hb).trans z) hd ?_
 refine⟨by rw[z0a O.ne];exact ho,?_,O.ne,O'.obj,_,O'.ns,λg=>?_,λg hg=>?_⟩
 ·have:=z5w f y fs;lia
 ·show RelO ((z8z f y fs).lookup g) (if g=f then some u else mA g)
  rw[z5s]
  by_cases q:g=f
  ·rw[if_pos q,if_pos q];exact ry
  ·rw[if_neg q,if_neg q];exact r g
 ·by_cases q:g=f
  ·rw[q];exact(z85 f y fs).1
  ·refine(z85 f y fs).2 g (wi g λz=>hg ?_);show(if g=f then some u else mA g)=none
   rw[if_neg q];exact z
theorem Inv.made (I:Inv X ao σ H s):Inv X ao σ (upd (upd H s.heap.objs.size (.own (s.heap.objs.size+1))) (s.heap.objs.size+1) (.ins C s.heap.objs.size []))
  { s with heap:=(s.heap.push y2d).push (y34 C s.heap.objs.size) }:=by
 have e1:(s.heap.push y2d).get? s.heap.objs.size=some y2d:=Heap.get?_push_size s.heap rfl;have e2:((s.heap.push y2d).push (y34 C s.heap.objs.size)).get? (s.heap.objs.size+1)=some (y34 C s.heap.objs.size):=by
  have:=Heap.get?_push_size (s.heap.push y2d) (o:=y34 C s.heap.objs.size) rfl
  rwa [Heap.size_push] at this
 have e3:(s.heap.push y2d).Ns s.heap.objs.size (λ_=>none):=⟨y2d,#[],_,e1,rfl,(λe he=>absurd he (by simp)),λ_=>rfl⟩
 have I1:=I.laid (a:=s.heap.objs.size) (o:=.own (s.heap.objs.size+1)) (h':=s.heap.push y2d) (t':=s.toks) (λb u q=>Heap.get?_push_of_some _ q) (y0b _) ⟨_,e1⟩;refine I1.laid (a:=s.heap.objs.size+1) (o:=.ins C s.heap.objs.size []) (t':=s.toks) (λb u q=>Heap.get?_push_of_some _ q) (y71 (Heap.size_push _ _)) ?_;have ne:s.heap.objs.size≠s.heap.objs.size+1:=y0p (y2x _)
 refine⟨by rw[z0a ne,z01],y25 _,ne,e2,λ_=>none,(Heap.Ns1.of_empty e3).at λo q=>Heap.get?_push_of_some _ q,λ_=>True.intro,λy hy=>absurd rfl hy⟩
theorem zmj {prog:Program}{w:World}{env:Env}{e:Expr}{f:Str}{pos:Pos}{s:Shared}{Q:Value->Shared->Prop}(hb:attributeBase e f env (eval e env)=eval e env)
  (h:wpAny (model prog w) A (eval e env) (λo s₁=>wpAny (model prog w) A (getAttr o f true) Q E s₁) E s):wpAny (model prog w) A (eval (.Attribute e f pos) env) Q E s :=
 Attribute_any_ h (by rw[arm_eval_Attribute,hb])
end
def zs3 (K:y03)(ta:TE)(f:Str):TE:=fun σ H Q=>ta σ H λx H1=>∃a C dx fs v,x = .ref a/\H1 a=some (.ins C dx fs)/\Cls K C/\NoAttr K C f/\fs.lookup f=some v/\Q v H1
def zs1 (K:y03)(ta tv:TE)(f:Str):TS:=λD σ H=>tv σ H λy H1=>ta σ H1 λx H2=>∃a C dx fs,x = .ref a/\H2 a=some (.ins C dx fs)/\Cls K C/\NoAttr K C f/\fs.length<1000 /\
 D.nx σ (upd H2 a (.ins C dx (z8z f y fs)))
section
variable {X:Cx}{o e value:Expr}{f:Str}{pos b9 tpos:Pos}{ta tv:TE}
theorem zon (he:PE X e ta)(hb:attributeBase e f X.env (eval e X.env)=eval e X.env):PE X (.Attribute e f pos) (zs3 X.K ta f):=by
 intro ao s σ H Q I h;refine zmj hb (thn (he ao s σ H _ I h) λu s1 ⟨x,H1,I1,rx,a,C,dx,fs,v,ex,ea,c,n,l,q⟩=>?_);subst ex;obtain rfl:u=Value.ref a:=rx;exact zfl I1 ea c n l λu' s2 I2 ru=>⟨v,H1,I2,ru,q⟩
theorem zoc (ha:PE X o ta)(hv:PE X value tv)(hs:swapsWith value (some (.Attribute o f b9)) pos.line X.env=pure false):PS X (.Assign [.Attribute o f b9] value pos) (zs1 X.K ta tv f):=by
 intro ao s σ H D I h;refine plainObj_wpAny_Assign_Attribute (thn (hv ao s σ H _ I h) λu s1 ⟨y,H1,I1,ry,q⟩=>thn (ha ao s1 σ H1 _ I1 q) λov s2 ⟨x,H2,I2,rx,a,C,dx,fs,ex,ea,c,n,l,q2⟩=>?_) hs;subst ex;obtain rfl:ov=Value.ref a:=rx;exact zet I2 ea c n l ry λs3 I3=>⟨σ,_,I3,q2⟩
end
section
variable {X:Cx}{ao:List (Addr×Obj)}{σ:St}{H:Hp}{s:Shared}{A:Around}{E:Value->Shared->Prop}{Q:Value->Shared->Prop}{c:Value}{b:Bool}
inductive TyOf (K:y03) (H:Hp):V->Value->Prop where
 | non:TyOf K H .non (.type "NoneType")
 | bl (x:Bool):TyOf K H (.bl x) (.type "bool")
 | int (i:Int):TyOf K H (.int i) (.type "int")
 | str (x:Str):TyOf K H (.str x) (.type "str")
 | flt (x:UInt64):TyOf K H (.flt x) (.type "float")
 | lst {a:Addr} {xs:List V} (e:H a=some (.lst xs)):TyOf K H (.ref a) (.type "list")
 | frz {a:Addr} {o:Obj} {xs:List V} (e:H a=some (.frz o (.lst xs))):TyOf K H (.ref a) (.type "list")
 | tup {a:Addr} {xs:List V} (e:H a=some (.tup xs)):TyOf K H (.ref a) (.type "tuple")
 | dK {a:Addr} {kvs:List (Key×V)} (e:H a=some (.dK kvs)):TyOf K H (.ref a) (.type "dict")
 | dT {a:Addr} {kvs:List (List Key×V)} (e:H a=some (.dT kvs)):TyOf K H (.ref a) (.type "dict")
 | ins {a C dx:Addr} {fs:List (Str×V)} (e:H a=some (.ins C dx fs)) (cl:Cls K C) (ha:y11 K (.ref C) "__class__"=some (some (.builtin "object.__class__")))
   (hn:y6r K (.builtin "object.__class__") "__get__"=some (some (.builtin "getset_descriptor.__get__"))) (htk:PySem.W.takesIn K (.builtin "object.__class__")=some true)
   (hm:PySem.W.mroIn K C (.type "object")=some true):TyOf K H (.ref a) (.ref C)
theorem zhf {x:V}{u t:Value}(I:Inv X ao σ H s)(rx:RelV x u)(ty:TyOf X.K H x t)(e:y7l X.K t c=some b)(h:∀tk,Q (.bool b) { s with toks:=tk }) :
  wpAny (model X.prog X.w) A (call (.builtin "isinstance") [u,c]) Q E s:=by
 cases ty with
 | non=>cases (show u=Value.none from rx);exact y29 PySem.W.kitx_none I.kIn True.intro e (λz=>nomatch z) h
 | bl y=>cases (show u=Value.bool y from rx);exact y29 PySem.W.kitx_bool I.kIn True.intro e (λz=>nomatch z) h
 | int i=>obtain⟨t,q⟩:=(show ∃t,u=Value.int i t from rx);cases q;exact y29 PySem.W.kitx_int I.kIn True.intro e (λz=>nomatch z) h
 | str y=>obtain⟨t,q⟩:=(show ∃t,u=Value.str y t from rx);cases q;exact y29 PySem.W.kitx_str I.kIn True.intro e (λz=>nomatch z) h
 | flt y=>obtain⟨t,q⟩:=(show ∃t,u=Value.float y t from rx);cases q;exact y29 PySem.W.kitx_float I.kIn True.intro e (λz=>nomatch z) h
 | @lst a xs ea =>
  cases (show u=Value.ref a from rx)
  obtain⟨_,_,n,_,h1⟩:=(show ObjOk X.prog X.w H s.heap a (.lst xs) from I.hok a _ ea)
  exact y29 y6s I.kIn ⟨_,h1,rfl⟩ e (λz=>nomatch z) h
 | @frz a ob xs ea =>
  cases (show u=Value.ref a from rx)
  obtain⟨_,_,_,n,_,h1⟩:=(show ObjOk X.prog X.w H s.heap a (.frz ob (.lst xs)) from I.hok a _ ea)
  exact y29 y6s I.kIn ⟨_,h1,rfl⟩ e (λz=>nomatch z) h
 | @tup a xs ea =>
  cases (show u=Value.ref a from rx)
  obtain⟨_,_,_,p⟩:=(show ObjOk X.prog X.w H s.heap a (.tup xs) from I.hok a _ ea)
  obtain⟨o,h1,h2,_⟩:=p;exact y29 PySem.W.kitx_tuple I.kIn ⟨o,h1,h2⟩ e (λz=>nomatch z) h
 | @dK a kvs ea =>
  cases (show u=Value.ref a from rx)
  obtain⟨_,_,vs,_,p⟩:=(show ObjOk X.prog X.w H s.heap a (.dK kvs) from I.hok a _ ea)
  obtain⟨o,es,ep,h1,h2,_⟩:=p;exact y29 y6t I.kIn ⟨o,h1,h2.1⟩ e (λz=>nomatch z) h
 | @dT a kvs ea =>
  cases (show u=Value.ref a from rx)
  obtain⟨_,_,xs,_,o,es,ep,h1,h2,_⟩:=(show ObjOk X.prog X.w H s.heap a (.dT kvs) from I.hok a _ ea)
  exact y29 y6t I.kIn ⟨o,h1,h2.1⟩ e (λz=>nomatch z) h
 | @ins a C dx fs ea cl ha hn htk hm =>
  cases (show u=Value.ref a from rx)
  obtain⟨mA,O,_⟩:=za9 I.hok ea;obtain⟨od,J,_⟩:=O.look;exact y29 (PySem.W.kitx_own (cl.get _) cl.hd ha hn htk hm) I.kIn J e (λz=>nomatch z) h
end
end L2
namespace L2
open PySem PySem.Spec PyProof.Rows
structure Room (k:Nat)(A:Around):Prop where
 hd:A.handled=none
 dp:A.depth+3*k+5<recursionLimit
 un:A.units+16*k+200<cLine
theorem Room.mono {j k:Nat}{A:Around}(r:Room k A)(h:j≤k):Room j A:=⟨r.hd,by have:=r.dp;lia,by have:=r.un;lia⟩
theorem Room.deeper {k:Nat}{A:Around}(r:Room (k+1) A)(env:Env):Room k (A.deeper env) :=
 ⟨r.hd,by have:=r.dp;show A.depth+1+3*k+5<_;lia,by have:=r.un;show A.units+3+16*k+200<_;lia⟩
theorem zf1 {A:Around}{C:Addr}{us:List Value}{kw:List (Str×Value)}:(A.under (.builtin "type.__call__" ⟨.ref C::us,kw⟩)).depth=A.depth+1:=by
 first | rfl | simp[Around.under,Code.weight,Code.isCreation,Code.isGuard,Code.isCaller,Code.frames,Code.isFrame,guardIds]
theorem zew {A:Around}{C:Addr}{us:List Value}{kw:List (Str×Value)}:(A.under (.builtin "type.__call__" ⟨.ref C::us,kw⟩)).units=A.units+1:=by
 first | rfl | simp[Around.under,Code.cUnits,Code.frames,Code.isFrame]
theorem Room.make {k:Nat}{A:Around}(r:Room (k+1) A)(C:Addr)(us:List Value)(kw:List (Str×Value)):Room k (A.under (.builtin "type.__call__" ⟨.ref C::us,kw⟩)) :=
 ⟨r.hd,by have:=r.dp;rw[zf1];lia,by have:=r.un;rw[zew];lia⟩
theorem Room.depth {k:Nat}{A:Around}(r:Room k A):A.depth<recursionLimit:=by have:=r.dp;lia
def zlz:TA:=λ_ H Q=>Q [] H
def zi2 (ta:TE)(tr:TA):TA:=fun σ H Q=>ta σ H λx H1=>tr σ H1 λxs H2=>Q (x::xs) H2
section
variable {X:Cx}{e:Expr}{es:List Expr}{te:TE}{t:TA}{pos:Pos}
theorem z03:PA X [] zlz:=λ_ _ _ _ H Q I h=>Calls.spliced_nil ⟨[],H,I,.nil,h⟩
theorem z00 (ha:PE X e te)(hr:PA X es t)(hs:starEach (e::es) X.env=(false,eval e X.env)::starEach es X.env:=by rfl):PA X (e::es) (zi2 te t):=by
 intro pos ao s σ H Q I h;rw[hs];show wpAny _ _ (spliced ((false,eval e X.env)::backTo pos (starEach es X.env))) _ _ s;refine Calls.spliced_cons (thn (ha ao s σ H _ I h) λu s1 ⟨x,H1,I1,r1,q1⟩=>?_);exact thn (hr pos ao s1 σ H1 _ I1 q1) λus s2 ⟨xs,H2,I2,r2,q2⟩=>⟨x::xs,H2,I2,.cons r1 r2,q2⟩
def zr7 (t:TA):TE:=fun σ H Q=>t σ H λxs H1=>xs.length≤sizeLine/\∀p,H1 p=none->Q (.ref p) (upd H1 p (.tup xs))
def zqf (t:TA):TE:=fun σ H Q=>t σ H λxs H1=>xs.length≤sizeLine/\∀p,H1 p=none->Q (.ref p) (upd H1 p (.lst xs))
theorem z2s {x1}(h:PA X es t):PE X (.Tuple es x1 pos) (zr7 t):=by
 intro ao s σ H Q I hq;refine wpAny_Tuple_spliced (thn (h pos ao s σ H _ I hq) λus s1 ⟨xs,H1,I1,r,z,q⟩=>⟨by rw[←r.length];exact z,?_⟩)
 have hf:H1 s1.heap.objs.size=none:=I1.hok.fresh (y0b _);refine⟨.ref s1.heap.objs.size,upd H1 s1.heap.objs.size (.tup xs),I1.laid (t':=s1.toks) (λb u e=>Heap.get?_push_of_some _ e) (y0b _) ?_,rfl,q _ hf⟩;exact⟨z,us,r,⟨_,Heap.get?_push_size _ rfl,rfl,_,rfl⟩⟩
theorem z1b (h:PA X es t):PE X (.List es pos) (zqf t):=by
 intro ao s σ H Q I hq;refine wpAny_List_spliced (thn (h pos ao s σ H _ I hq) λus s1 ⟨xs,H1,I1,r,z,q⟩=>⟨by rw[←r.length];exact z,?_⟩)
 have hf:H1 s1.heap.objs.size=none:=I1.hok.fresh (y0b _);refine⟨.ref s1.heap.objs.size,upd H1 s1.heap.objs.size (.lst xs),I1.laid (t':=s1.toks) (λb u e=>Heap.get?_push_of_some _ e) (y0b _) ?_,rfl,q _ hf⟩;exact⟨z,us,0,r,Heap.get?_push_size _ rfl⟩
end
abbrev Sp:=List V->Hp->VK->XK->Prop
abbrev CXT:=List Env->Hp->Shared->XK->Value->Shared->Prop
structure Env0 (P:Program)(w:World)(K:y03)(mg:Str->Option Value)(base:Heap)(A:Around)(outer:List Env)(s:Shared)(H:Hp):Prop where
 frames:A.frames=some outer
 mod:Mod K mg base
 bs:∀b o,base.get? b=some o->s.heap.get? b=some o/\H b=none
 bsz:base.objs.size≤s.heap.objs.size
 funs:s.heap.FunFrames base outer
 frf:∀b∈frs outer,H b=none
 hok:HOk P w H s.heap
 bare:AllBare s.gens
def CE (outer:List Env)(P:Program)(w:World)(H:Hp)(s:Shared)(Q:VK)(u:Value)(s':Shared):Prop :=
 ∃v H',s'.os=s.os/\AllBare s'.gens/\Un (frs outer) [] H H' s.heap s'.heap/\HOk P w H' s'.heap/\RelV v u/\Q v H'
def CR (CX:CXT)(outer:List Env)(P:Program)(w:World)(H:Hp)(s:Shared)(Q:VK)(E:XK)(r:Result)(s':Shared):Prop :=
 match r with
 | .ok (.ret u)=>CE outer P w H s Q u s'
 | .ok _=>False
 | .error e=>CX outer H s E e s'
structure FnOk (P:Program)(w:World)(K:y03)(mg:Str->Option Value)(base:Heap)(CX:CXT)(k:Nat)(f:Addr)(fd:FuncData)(ps:List Str)(sp:Sp):Prop where
 len:∀vs H Q E,sp vs H Q E->vs.length=ps.length
 run:∀(A:Around) (outer:List Env) (s:Shared) (H:Hp) (args:Args) (us:List Value) (vs:List V) (Q:VK) (E:XK),Room k A->Env0 P w K mg base A outer s H->BindsTo s fd args (ps.zip us)->Vals vs us->sp vs H Q E ->
  codeAny (model P w) A (.call (.ref f) args) (CR CX outer P w H s Q E) s
theorem Env0.make {P:Program}{w:World}{K:y03}{mg:Str->Option Value}{base:Heap}{A:Around}{outer:List Env}{s:Shared}{H:Hp}(e:Env0 P w K mg base A outer s H)(C:Addr)(us:List Value)(kw:List (Str×Value)) :
  Env0 P w K mg base (A.under (.builtin "type.__call__" ⟨.ref C::us,kw⟩)) outer s H:=⟨by first | exact e.frames | (simpa [Around.under,Code.envs,Code.isFrame,pushEnvs] using e.frames),e.mod,e.bs,e.bsz,e.funs,e.frf,e.hok,e.bare⟩
section
variable {X:Cx}{ao:List (Addr×Obj)}{σ:St}{H:Hp}{s s':Shared}
theorem Inv.env0 (I:Inv X ao σ H s):Env0 X.prog X.w X.K X.mg X.base X.A X.stack s H :=
 ⟨I.ok.frames,I.ok.mod,I.bs,y17 I.ok.bsz I.sz,I.stack,I.stkFree,I.hok,I.bare⟩
theorem Inv.after {Q:VK}{u:Value}(I:Inv X ao σ H s)(h:CE X.stack X.prog X.w H s Q u s'):EP X ao σ Q u s':=by
 obtain⟨v,H',os,bare,un,hok,r,q⟩:=h;obtain⟨hh,g,d,t,os'⟩:=s';obtain rfl:os'=s.os:=os;exact⟨v,H',I.call (h':=hh) (g':=g) (d':=d) (t':=t) (ch:=[]) un hok bare (λb z=>absurd z (by simp)),r,q⟩
end
def zoq (C:Addr)(m:Str)(sp:Sp)(dvs:List V)(E:XK)(ta:TE)(t:TA):TE:=fun σ H Q=>ta σ H λx H1=>∃a dx fs,x = .ref a/\H1 a=some (.ins C dx fs)/\fs.lookup m=none /\
 t σ H1 λvs H2=>sp (x::(vs++dvs)) H2 Q E
def zr9 (C:Addr)(sp:Sp)(dvs:List V)(E:XK)(t:TA):TE:=fun σ H Q=>t σ H λvs H1=>∀x dx,H1 x=none->H1 dx=none->dx≠x ->
 sp (.ref x::(vs++dvs)) (upd (upd H1 dx (.own x)) x (.ins C dx [])) (λv H2=>v = .non/\Q (.ref x) H2) E
def Binds (K:y03)(fd:FuncData)(ps:List Str)(ds:List Value):Prop :=
 ∀(s:Shared) (us:List Value),K.In s.heap->(us++ds).length=ps.length->BindsTo s fd ⟨us,[]⟩ (ps.zip (us++ds))
theorem Binds.all {K:y03}{fd:FuncData}{ps:List Str}(h:∀us:List Value,us.length=ps.length->bindArgs fd ⟨us,[]⟩=pure (ps.zip us)):Binds K fd ps []:=λs us _ hl=>by
 rw[y2s] at hl ⊢
 exact .of_eq (h us hl)
def z9t (CX:CXT)(X:Cx)(E:XK):Prop:=∀(ao:List (Addr×Obj)) (σ:St) (H:Hp) (s:Shared) (e:Value) (s':Shared),Inv X ao σ H s->CX X.stack H s E e s'->X.xe e s'
section
variable {X:Cx}{CX:CXT}{k:Nat}{f C:Addr}{fd:FuncData}{ps:List Str}{sp:Sp}{dvs:List V}{ds:List Value}{E:XK}{x m:Str}{p pos aU:Pos}{e o:Expr}{es:List Expr}{ta:TE}{t:TA}
theorem zgs {ao:List (Addr×Obj)}{σ:St}{H:Hp}{s:Shared}{Q:VK}{us:List Value}{vs:List V}(F:FnOk X.prog X.w X.K X.mg X.base CX k f fd ps sp)(hr:Room k X.A)(hb:Binds X.K fd ps ds)(hd:Vals dvs ds)(hx:z9t CX X E)
  (I:Inv X ao σ H s) (r:Vals vs us) (h:sp (vs++dvs) H Q E):wpAny (model X.prog X.w) X.A (call (.ref f) us) (EP X ao σ Q) X.xe s:=by
 have r2:Vals (vs++dvs) (us++ds):=r.append hd;have hl:(us++ds).length=ps.length:=by rw[←r2.length];exact F.len _ _ _ _ h
 refine wpAny_call (codeAny_mono (F.run X.A X.stack s H ⟨us,[]⟩ (us++ds) (vs++dvs) Q E hr I.env0 (hb s us I.kIn hl) r2 h) λr s' hq=>?_);cases r with
 | error e=>exact hx ao σ H s e s' I hq
 | ok fl =>
  cases fl with
  | ret u=>exact I.after hq
  | next=>exact False.elim hq
  | brk=>exact False.elim hq
  | cont=>exact False.elim hq
theorem zms {pl:Sem Bool}(he:PE X o ta)(c:Cls X.K C)(hm:Meth X.K C m f)(F:FnOk X.prog X.w X.K X.mg X.base CX k f fd ps sp)(hr:Room k X.A)(hb:Binds X.K fd ps ds)(hd:Vals dvs ds)(hx:z9t CX X E)(ha:PA X (e::es) t)
  (hst:starEach (e::es) X.env=(false,eval e X.env)::starEach es X.env:=by rfl) (hpl:(backTo pos (starEach es X.env)).any (·.1)=false:=by rfl)
  (ht:eval (.Call (.Attribute o m aU) (e::es) [] pos) X.env=(do
   let ov ←eval o X.env
   standAt aU.atName
   let (f,first) ←holding [ov] (getMethod ov m pl)
   callWith pos f first (backTo pos (starEach (e::es) X.env)) (backToKw pos (keywordEach [] X.env))):=by rfl) :
  PE X (.Call (.Attribute o m aU) (e::es) [] pos) (zoq C m sp dvs E ta t):=by
 intro ao s σ H Q I h;refine y5v (pl:=pl) (thn (he ao s σ H _ I h) λu s1 ⟨x,H1,I1,rx,a,dx,fs,ex,ea,l,q⟩=>?_) ht;subst ex;obtain rfl:u=Value.ref a:=rx;refine z9v I1 ea c hm l ?_;refine y53 (first:=[.ref a]) (h₀:=X.base) I.ok.mod.kin hm.kp (thn (ha pos ao s1 σ H1 _ I1 q) λus s2 ⟨vs,H2,I2,r,q2⟩=>⟨I2.kIn,?_⟩) hst hpl
 exact zgs (us:=.ref a::us) (vs:=.ref a::vs) F hr hb hd hx I2 (.cons rfl r) q2
theorem zj4 {pl:Sem Bool}(he:PE X o ta)(c:Cls X.K C)(hm:Meth X.K C m f)(F:FnOk X.prog X.w X.K X.mg X.base CX k f fd ps sp)(hr:Room k X.A)(hb:Binds X.K fd ps ds)(hd:Vals dvs ds)(hx:z9t CX X E)
  (ht:eval (.Call (.Attribute o m aU) [] [] pos) X.env=(do
   let ov ←eval o X.env
   standAt aU.atName
   let (f,first) ←holding [ov] (getMethod ov m pl)
   callWith pos f first (backTo pos (starEach [] X.env)) (backToKw pos (keywordEach [] X.env))):=by rfl) :
  PE X (.Call (.Attribute o m aU) [] [] pos) (zoq C m sp dvs E ta zlz):=by
 intro ao s σ H Q I h;refine y5v (pl:=pl) (thn (he ao s σ H _ I h) λu s1 ⟨x,H1,I1,rx,a,dx,fs,ex,ea,l,q⟩=>?_) ht;subst ex;obtain rfl:u=Value.ref a:=rx;refine z9v I1 ea c hm l ?_;exact PySem.W.callWith_K0 (first:=[.ref a]) I1.kIn hm.kp (zgs (us:=[.ref a]) (vs:=[.ref a]) F hr hb hd hx I1 (.cons rfl .nil) q)
structure Mk (K:y03)(C f:Addr):Prop where
 makes:y4u K C=true
 init:y11 K (.ref C) "__init__"=some (some (.ref f))
 fn:y23 K (.ref f)=true
 kp:y0i K (.ref C)=true
theorem zk8 {ao:List (Addr×Obj)}{σ:St}{H:Hp}{s:Shared}{Q:VK}{us:List Value}{vs:List V}(M:Mk X.K C f)(F:FnOk X.prog X.w X.K X.mg X.base CX k f fd ps sp)(hr:Room (k+1) X.A)(hb:Binds X.K fd ps ds)(hd:Vals dvs ds)
  (hx:z9t CX X E) (I:Inv X ao σ H s) (r:Vals vs us)
  (h:∀x dx,H x=none->H dx=none->dx≠x->sp (.ref x::(vs++dvs)) (upd (upd H dx (.own x)) x (.ins C dx [])) (λv H2=>v = .non/\Q (.ref x) H2) E) :
  wpAny (model X.prog X.w) X.A (call (.ref C) us) (EP X ao σ Q) X.xe s:=by
 have hq:=h (s.heap.objs.size+1) s.heap.objs.size (I.hok.fresh (y4b _)) (I.hok.fresh (y0b _)) (y0p (y2x _));have I2:=Inv.made (C:=C) I
 have r2:Vals (V.ref (s.heap.objs.size+1)::(vs++dvs)) (Value.ref (s.heap.objs.size+1)::(us++ds)):=.cons rfl (r.append hd);have hl:(Value.ref (s.heap.objs.size+1)::us++ds).length=ps.length:=by
  have e:=r2.length;rw[F.len _ _ _ _ hq] at e;exact e.symm
 refine wpAny_call (zk1 (f:=f) I.kIn M.makes M.init (beq_iff_eq.mp M.fn) (codeAny_mono (F.run _ X.stack _ _ ⟨Value.ref (s.heap.objs.size+1)::us,[]⟩ (Value.ref (s.heap.objs.size+1)::(us++ds)) _ _ E (hr.make C us [])
  (I2.env0.make C us []) (hb _ (Value.ref (s.heap.objs.size+1)::us) I2.kIn hl) r2 hq) λr s' hq'=>?_))
 cases r with
 | error e=>exact hx ao σ _ _ e s' I2 hq'
 | ok fl =>
  cases fl with
  | ret u =>
   obtain⟨v,H',I3,rv,ev,q3⟩:=I2.after hq';subst ev;exact⟨rv,⟨V.ref (s.heap.objs.size+1),H',I3,rfl,q3⟩⟩
  | next=>exact False.elim hq'
  | brk=>exact False.elim hq'
  | cont=>exact False.elim hq'
theorem zm7 (M:Mk X.K C f)(F:FnOk X.prog X.w X.K X.mg X.base CX k f fd ps sp)(hr:Room (k+1) X.A)(hg:Gl X x)(hm:X.mg x=some (.ref C))(hb:Binds X.K fd ps ds)(hd:Vals dvs ds)(hx:z9t CX X E)
  (ha:PA X (e::es) t) (hdb:(x==("__debug__":Str))=false:=by decide) (he:starEach (e::es) X.env=(false,eval e X.env)::starEach es X.env:=by rfl) (hpl:(backTo pos (starEach es X.env)).any (·.1)=false:=by rfl) :
  PE X (.Call (.Name x p) (e::es) [] pos) (zr9 C sp dvs E t):=by
 intro ao s σ H Q I h;refine wpAny_Call_Name_kw (zg0 I hg hm ?_ hdb);refine y53 (h₀:=X.base) I.ok.mod.kin M.kp (thn (ha pos ao s σ H _ I h) λus s1 ⟨vs,H1,I1,r,q⟩=>⟨I1.kIn,?_⟩) he hpl;exact zk8 M F hr hb hd hx I1 r q
end
section
variable {X:Cx}{CX:CXT}{k:Nat}{f C:Addr}{fd:FuncData}{ps ks:List Str}{sp:Sp}{E:XK}{x m:Str}{p pos aU kpos:Pos}{e o:Expr}{es:List Expr}{kws:List Keyword}{te ta:TE}{t tk:TA}{nm:Option Str}
structure KBinds (K:y03)(fd:FuncData)(ps ks:List Str)(g:List Value->List Value->List Value)(gV:List V->List V->List V):Prop where
 to:∀(s:Shared) (us ws:List Value),K.In s.heap->(g us ws).length=ps.length->BindsTo s fd ⟨us,ks.zip ws⟩ (ps.zip (g us ws))
 rel:∀{vs:List V} {us:List Value} {zs:List V} {ws:List Value},Vals vs us->Vals zs ws->Vals (gV vs zs) (g us ws)
variable {g:List Value->List Value->List Value}{gV:List V->List V->List V}
end
structure FnScope (N P:List Str)(sc:Scope):Prop where
 kind:sc.kind = .function
 co:sc.isCoroutine=false
 gen:sc.isGenerator=false
 nd:N.Nodup
 pre:N.take P.length=P
 par:∀x∈P,sc.names.lookup x=some .local∨sc.names.lookup x=some .cell
 nofree:∀y∈sc.names,y.2 ≠ .free
theorem zav {kindOf:Str->Option NameKind}{x:Str}:∀{binds:List (Str×Value)} {m:Str->Option Value},(∀v,(x,v) ∉ binds)->bindL kindOf binds m x=m x
 | [],_,_=>rfl
 | (n,v)::r,m,h=>by
  unfold bindL;rw[zav λw hw=>h w (y0a _ hw)]
  split
  ·have:x≠n:=by rintro rfl;exact h v y0d
   simp[this]
  ·rfl
theorem zbl {kindOf:Str->Option NameKind}{x:Str}:∀{binds:List (Str×Value)} {m:Str->Option Value},(∀v,(x,v) ∉ binds)->bindC kindOf binds m x=m x
 | [],_,_=>rfl
 | (n,v)::r,m,h=>by
  unfold bindC;rw[zbl λw hw=>h w (y0a _ hw)]
  split
  ·rfl
  ·have:x≠n:=by rintro rfl;exact h v y0d
   simp[this]
theorem zb8 {kindOf:Str->Option NameKind}{x:Str}{v:Value}:∀{P:List Str} {vs:List Value} {i:Nat} {m:Str->Option Value},P.Nodup->P[i]?=some x->vs[i]?=some v->kindOf x=some .local ->
  bindL kindOf (P.zip vs) m x=some v
 | [],_,_,_,_,h,_,_=>by simp at h
 | _::_,[],_,_,_,_,h,_=>by simp at h
 | p::P,w::vs,0,m,nd,h1,h2,hk=>by
  simp at h1 h2;subst h1;subst h2;show bindL kindOf ((p,w)::P.zip vs) m p=_;unfold bindL;rw[zav λv hv=>(y3j.mp nd).1 (y1c hv).1,if_pos hk];simp
 | p::P,w::vs,i+1,m,nd,h1,h2,hk=>by
  show bindL kindOf ((p,w)::P.zip vs) m x=_;unfold bindL;exact zb8 (i:=i) (y3j.mp nd).2 (by simpa using h1) (by simpa using h2) hk
theorem zax {kindOf:Str->Option NameKind}{x:Str}{v:Value}:∀{P:List Str} {vs:List Value} {i:Nat} {m:Str->Option Value},P.Nodup->P[i]?=some x->vs[i]?=some v->kindOf x≠some .local ->
  bindC kindOf (P.zip vs) m x=some v
 | [],_,_,_,_,h,_,_=>by simp at h
 | _::_,[],_,_,_,_,h,_=>by simp at h
 | p::P,w::vs,0,m,nd,h1,h2,hk=>by
  simp at h1 h2;subst h1;subst h2;show bindC kindOf ((p,w)::P.zip vs) m p=_;unfold bindC;rw[zbl λv hv=>(y3j.mp nd).1 (y1c hv).1,if_neg hk];simp
 | p::P,w::vs,i+1,m,nd,h1,h2,hk=>by
  show bindC kindOf ((p,w)::P.zip vs) m x=_;unfold bindC;exact zax (i:=i) (y3j.mp nd).2 (by simpa using h1) (by simpa using h2) hk
def start (N:List Str)(vs:List V):St:=vs.map some++y07 (N.length - vs.length) none
def ziu (CX:CXT)(P:Program)(w:World)(K:y03)(mg:Str->Option Value)(base:Heap)(N:List Str)(aR:Str)(scope:Scope)(f:Addr)(cd:Value)(A:Around)(outer:List Env)(s:Shared)(H:Hp)(E:XK):Cx where
 prog:=P
 w:=w
 K:=K
 mg:=mg
 base:=base
 A:=A.deeper (envOfC aR scope s.heap.objs.size f cd)
 N:=N
 s₀:=s
 H₀:=H
 env:=envOfC aR scope s.heap.objs.size f cd
 outer:=outer
 stack:=envOfC aR scope s.heap.objs.size f cd::outer
 ex:=[]
 calm:=true
 fn:=λ_=>true
 pn:=[]
 xe:=λe s'=>wpAny (model P w) (A.deeper (envOfC aR scope s.heap.objs.size f cd)) (leaving (envOfC aR scope s.heap.objs.size f cd) e) (λ_ s''=>CX outer H s E e s'') (λe' s''=>CX outer H s E e' s'') s'
theorem zds {sc:Scope}{n:Nat}{x:Str}(h:sc.names.lookup x=some .cell):∃c,(cellsFrom n sc.names []).lookup x=some c:=by
 have q:=y5r sc.names n [] (.inl h);exact Option.isSome_iff_exists.mp q
theorem zgt {CX:CXT}{P:Program}{w:World}{K:y03}{mg:Str->Option Value}{base:Heap}{N ps:List Str}{aR:Str}{scope:Scope}{f:Addr}{cd:Value}{A:Around}{outer:List Env}{s s1:Shared}{H:Hp}{E:XK}{us:List Value}{vs:List V}
  (S:FnScope N ps scope) (hd:A.handled=none) (e0:Env0 P w K mg base A outer s H) (hl:vs.length=ps.length) (r:Vals vs us)
  (x:InCallC s s.heap.objs.size (bindL (envOfC aR scope s.heap.objs.size f cd).kindOf (ps.zip us) λ_=>none) (cellsFrom (s.heap.objs.size+1) scope.names []) (bindC (envOfC aR scope s.heap.objs.size f cd).kindOf (ps.zip us) λ_=>none) s1) :
  Inv (ziu CX P w K mg base N aR scope f cd A outer s H E) [] (start N vs) H s1:=by
 have hpl:ps.length≤N.length:=by have:=congrArg y6a S.pre;rw[y0t] at this;lia
 obtain⟨h1,tk,rfl,hk⟩:=x.done;have noA:∀b:Addr,b ∉ (ziu CX P w K mg base N aR scope f cd A outer s H E).ex:=λb z=>absurd (show b∈([]:List Addr) from z) (by simp)
 refine⟨⟨e0.mod,S.kind,rfl,rfl,y0b _,λy z c h1 h2=>?_,λy hy=>?_,λy c _ h=>?_,λ_=>hd,Around.frames_deeper e0.frames,.inr ⟨rfl,rfl⟩,λb z=>absurd z (noA b),e0.bs,e0.bsz,λb _ _=>noA b,λb z=>absurd z (noA b),e0.funs,e0.frf⟩,
  rfl,e0.bare,Un.kept hk,⟨_,x.toInCall.ns,λi y v h1 h2 h3=>?_⟩,λy c h=>⟨_,x.cell y c h⟩,e0.hok.fresh (y0b _),λy c h=>?_,λp hp=>absurd (show p∈([]:List (Addr×Obj)) from hp) (by simp),e0.hok.kept hk,?_⟩
 ·exact name_of_addr x.apart (y24 h1) (y24 h2)
 ·have hy:scope.names.lookup y=some .cell∨scope.names.lookup y=some .free:=hy;rcases hy with hy | hy
  ·exact zds hy
  ·exact absurd rfl (S.nofree _ (y24 hy))
 ·exact y3w (x.above y c (y24 h))
 ·have hi:i<vs.length:=by
   unfold start at h2
   by_cases hi:i<vs.length
   ·exact hi
   ·rw[y10 (by simpa using hi)] at h2
    rw[y1f] at h2
    split at h2<;>cases h2
  have ha:vs[i]?=some v:=by
   unfold start at h2;rw[y0s (by simpa using hi),y06] at h2
   cases e:vs[i]? with
   | none=>rw[e] at h2;cases h2
   | some a=>rw[e] at h2;cases h2;rfl
  obtain⟨u,hu,rv⟩:=r.get ha;have hp:ps[i]?=some y:=by
   rw[←S.pre,y5c (by lia)];exact h1
  have ndP:ps.Nodup:=by rw[←S.pre];exact S.nd.sublist (List.take_sublist _ _)
  refine⟨u,rv,?_⟩;rcases S.par y (y02 hp) with k | k
  ·exact .inl ⟨k,zb8 ndP hp hu k⟩
  ·obtain⟨c,e⟩:=zds (n:=s.heap.objs.size+1) k;refine .inr ⟨.inl k,c,e,?_⟩;have q:=x.cell y c e;rw[zax ndP hp hu (by show scope.names.lookup y≠_;rw[k];decide)] at q
   exact q
 ·exact e0.hok.fresh (y3w (x.above y c (y24 h)))
 ·unfold start;show _=N.length;rw[y0e,y04,y1k];lia
theorem zqv {CX:CXT}{P:Program}{w:World}{K:y03}{mg:Str->Option Value}{base:Heap}{k:Nat}{f:Addr}{name aR:Str}{params:Arguments}{body:List Stmt}{scope:Scope}{dV kV doc pm cdv ct oc:Value}{an od:Option Addr}
  {osl:Array (Option Value)} {N ps:List Str} {sp:Sp} (lk:K.lookup f=some ⟨oc,od,.func (y0n name aR params body scope dV kV doc pm an cdv ct),osl⟩) (hcd:y0j K cdv aR=true) (S:FnScope N ps scope)
  (len:∀vs H Q E,sp vs H Q E->vs.length=ps.length)
  (hbody:∀(A:Around) (outer:List Env) (s:Shared) (H:Hp) (vs:List V) (Q:VK) (E:XK),Room k (A.deeper (envOfC aR scope s.heap.objs.size f cdv))->sp vs H Q E ->
   ∃t,PSs (ziu CX P w K mg base N aR scope f cdv A outer s H E) body t/\t { nx:=λ_ H'=>Q .non H',rt:=Q } (start N vs) H) :
  FnOk P w K mg base CX (k+1) f (y0n name aR params body scope dV kV doc pm an cdv ct) ps sp:=by
 refine⟨len,λA outer s H args us vs Q E hr e0 hb r hsp=>?_⟩;have hl:=len _ _ _ _ hsp;have KX:K.In s.heap:=e0.mod.kin.keeps λb o e=>(e0.bs b o e).1
 have lim:s.heap.NoLimit:=e0.mod.nolimit.keeps λb o e=>(e0.bs b o e).1;have bm:∀y∈ps.zip us,scope.names.lookup y.1=some .local∨(scope.names.lookup y.1=some .cell/\((cellsFrom (s.heap.objs.size+1) scope.names []).lookup y.1).isSome=true):=λ⟨n,v⟩ hy=>by
  rcases S.par n (y1c hy).1 with q | q
  ·exact .inl q
  ·exact .inr ⟨q,y5r _ _ _ (.inl q)⟩
 refine codeAny_call_function hr.depth (KX _ _ lk) rfl S.co S.gen rfl (PySem.W.codeRec_of KX hcd) (hb _ _ _ _ ?_);refine wpAny_newFunctionEnv_cells S.kind bm λenv he s1 x=>?_;subst he;refine⟨lim.keeps x.toInCall.keep,codeAny_func ?_⟩;obtain⟨t,ht,hq⟩:=hbody A outer s H vs Q E (hr.deeper _) hsp;have I:Inv (ziu CX P w K mg base N aR scope f cdv A outer s H E) [] (start N vs) H s1:=zgt S hr.hd e0 hl r x;refine wpAny_mono (ht [] s1 (start N vs) H _ I hq) (λfl s' hs=>?_) λe s' hs=>hs;have fin:∀{σ':St} {H':Hp} {v:V} {u:Value},Inv (ziu CX P w K mg base N aR scope f cdv A outer s H E) [] σ' H' s'->RelV v u->Q v H'->CE outer P w H s Q u s' :=
  λ{σ' H' v u} J rv q=>⟨v,H',J.os,J.bare,J.base,J.hok,rv,q⟩
 cases fl with
 | ret u =>
  obtain⟨v,σ',H',J,rv,q⟩:=hs;exact fin J rv q
 | next =>
  obtain⟨σ',H',J,q⟩:=hs;exact fin (v:=V.non) (u:=Value.none) J rfl q
 | brk =>
  obtain⟨_,_,_,q⟩:=hs;exact False.elim q
 | cont =>
  obtain⟨_,_,_,q⟩:=hs;exact False.elim q
end L2
namespace L2
open PySem PySem.Spec PyProof.Rows
section
variable {X:Cx}{x:Str}{p pos:Pos}{e:Expr}{es:List Expr}{t:TA}{id T:String}{r:List V->Hp->VK->Prop}
def tCB (r:List V->Hp->VK->Prop)(t:TA):TE:=fun σ H Q=>t σ H λvs H1=>r vs H1 Q
theorem zk7 (hc:z4i X (.builtin id) r)(hg:Gl X x)(hm:X.mg x=none)(hv:bootBuiltins x=some (.builtin id))(ha:PA X (e::es) t)(hn:x ≠ "__name__":=by decide)(hdb:(x==("__debug__":Str))=false:=by decide)
  (he:starEach (e::es) X.env=(false,eval e X.env)::starEach es X.env:=by rfl) (hpl:(backTo pos (starEach es X.env)).any (·.1)=false:=by rfl):PE X (.Call (.Name x p) (e::es) [] pos) (tCB r t):=by
 intro ao s σ H Q I h;refine wpAny_Call_Name_kw (z51 I hg hm hv ?_ hn hdb);exact y4f (thn (ha pos ao s σ H _ I h) λus s1 ⟨vs,H1,I1,r1,q1⟩=>hc ao s1 σ H1 vs us Q I1 r1 q1) he hpl
theorem zgw (hc:z4i X (.type T) r)(hg:Gl X x)(hm:X.mg x=none)(hv:bootBuiltins x=some (.type T))(ha:PA X (e::es) t)(hn:x ≠ "__name__":=by decide)(hdb:(x==("__debug__":Str))=false:=by decide)
  (he:starEach (e::es) X.env=(false,eval e X.env)::starEach es X.env:=by rfl) (hpl:(backTo pos (starEach es X.env)).any (·.1)=false:=by rfl):PE X (.Call (.Name x p) (e::es) [] pos) (tCB r t):=by
 intro ao s σ H Q I h;refine wpAny_Call_Name_kw (z51 I hg hm hv ?_ hn hdb);exact y1n (thn (ha pos ao s σ H _ I h) λus s1 ⟨vs,H1,I1,r1,q1⟩=>hc ao s1 σ H1 vs us Q I1 r1 q1) he hpl
end
end L2
namespace HT
open PySem PyProof.Rows
section
open PySem.SeqAt
open PySem.AutoSeq1 (wpAny_loadPart')
open PySem.MeetsSeq PySem.MeetsSeq2 PySem.MeetsSeq3
end
section
variable {prog:Program}{w:World}{A:Around}{E:Value->Shared->Prop}{s:Shared}
def sIx (n d:Nat):Option Int->Nat
 | none=>d
 | some v=>if v<0 then (v+(n:Int)).toNat else min v.toNat n
theorem sIx_none (n d:Nat):sIx n d none=d:=rfl
theorem sIx_nat (n d k:Nat):sIx n d (some (k:Int))=min k n:=by
 show(if (k:Int)<0 then ((k:Int)+(n:Int)).toNat else min (k:Int).toNat n)=min k n
 rw[if_neg (by lia),y3c]
end
end HT
namespace L2
open PySem PySem.Spec PyProof.Rows
abbrev TO:=St->Hp->(Option Int->Hp->Prop)->Prop
def PO (X:Cx)(e:Option Expr)(t:TO):Prop :=
 ∀(ao:List (Addr×Obj)) (s:Shared) (σ:St) (H:Hp) (Q:Option Int->Hp->Prop),Inv X ao σ H s->t σ H Q ->
  wpAny (model X.prog X.w) X.A (evalPart e X.env) (λu s'=>∃o H',Inv X ao σ H' s'/\IsPart u o/\Q o H') X.xe s
def zcf:TO:=λ_ H Q=>Q none H
def zqe (t:TE):TO:=fun σ H Q=>t σ H λx H1=>∃i,x = .int i/\Q (some i) H1
section
variable {X:Cx}{e:Expr}{te:TE}{lo hi:Option Expr}{tl th:TO}{pos p2:Pos}
theorem z5x:PO X none zcf:=by
 intro ao s σ H Q I h;rw[evalPart_none];exact wpAny_pure ⟨none,H,I,.none,h⟩
theorem zmh (h:PE X e te):PO X (some e) (zqe te):=by
 intro ao s σ H Q I hw;rw[evalPart_some];refine thn (h ao s σ H _ I hw) λu s1 ⟨x,H1,I1,r1,q1⟩=>?_;obtain⟨i,rfl,q⟩:=q1;obtain⟨t,rfl⟩:=r1;exact⟨some i,H1,I1,.int i t,q⟩
def SlR (X:Cx)(r:V->Option Int->Option Int->Hp->VK->Prop):Prop :=
 ∀(ao:List (Addr×Obj)) (s:Shared) (σ:St) (H:Hp) (x:V) (v vl vu:Value) (lo hi:Option Int) (sl:Addr) (Q:VK),Inv X ao σ H s->RelV x v->s.heap.IsSliceOf sl vl vu .none->IsPart vl lo->IsPart vu hi->r x lo hi H Q ->
  ∃T id,typeLookup (.type T) "__getitem__"=pure (some (.builtin id))/\s.TypeIs v T/\wpAny (model X.prog X.w) X.A (getItem v (.ref sl)) (EP X ao σ Q) X.xe s
def tSl (r:V->Option Int->Option Int->Hp->VK->Prop)(te:TE)(tl th:TO):TE:=fun σ H Q=>te σ H λx H1=>tl σ H1 λl H2=>th σ H2 λu H3=>r x l u H3 Q
theorem zjj {r:V->Option Int->Option Int->Hp->VK->Prop}(hr:SlR X r)(he:PE X e te)(hl:PO X lo tl)(hu:PO X hi th):PE X (.Subscript e (.Slice lo hi none p2) pos) (tSl r te tl th):=by
 intro ao s σ H Q I h;refine Subscript_ (thn (he ao s σ H _ I h) λv s1 ⟨x,H1,I1,r1,q1⟩=>?_);refine wpAny_Slice (thn (hl ao s1 σ H1 _ I1 q1) λvl s2 ⟨l,H2,I2,pl,q2⟩=>thn (hu ao s2 σ H2 _ I2 q2) λvu s3 ⟨u,H3,I3,pu,q3⟩=>?_);rw[evalPart_none];refine wpAny_pure ?_;have I4:Inv X ao σ H3 { s3 with heap:=s3.heap.push { cls:=.type "slice",data:=.fields #[vl,vu,.none] } }:=I3.kept (t':=s3.toks) λb ob q=>Heap.get?_push_of_some _ q
 obtain⟨T,id,hT,ht,hg⟩:=hr ao { s3 with heap:=s3.heap.push { cls:=.type "slice",data:=.fields #[vl,vu,.none] } } σ H3 x v vl vu l u s3.heap.objs.size Q I4 r1 (Heap.IsSliceOf.new ..) pl pu q3
 show wpAny (model X.prog X.w) X.A (subscriptTail e (.Slice lo hi none p2) v (.ref s3.heap.objs.size)) (EP X ao σ Q) X.xe { s3 with heap:=s3.heap.push { cls:=.type "slice",data:=.fields #[vl,vu,.none] } }
 exact tail_any (ops:=[.ref s3.heap.objs.size,v]) ht hT hg (by with_unfolding_all rfl)
def zfs (xs:List V)(lo hi:Option Int):List V:=(xs.drop (HT.sIx xs.length 0 lo)).take (HT.sIx xs.length xs.length hi - HT.sIx xs.length 0 lo)
theorem zd8 (xs:List V)(lo hi:Option Int):(zfs xs lo hi).length≤xs.length:=by
 unfold zfs;rw[y0t,y4j];lia
end
end L2
namespace L2
open PySem PySem.Spec PyProof.Rows
def ixN (n:Nat)(i:Int):Option Nat:=if 0≤i then (if i<n then some i.toNat else none) else if -(n:Int)≤i then some (i+n).toNat else none
def atI {α:Type}(xs:List α)(i:Int):Option α:=(ixN xs.length i).bind λj=>xs[j]?
theorem zib {n:Nat}{i:Int}{j:Nat}(h:ixN n i=some j):seqIndex? i n=some j/\j<n/\-(n:Int)≤i/\i<n:=by
 unfold ixN at h
 by_cases h0:0≤i
 ·rw[if_pos h0] at h
  by_cases h1:i<n
  ·rw[if_pos h1] at h;have e:i.toNat=j:=y12 h;exact⟨by rw[seqIndex_of h0 h1,e],by lia,by lia,h1⟩
  ·rw[if_neg h1] at h;cases h
 ·rw[if_neg h0] at h
  by_cases h1:-(n:Int)≤i
  ·rw[if_pos h1] at h;have e:(i+n).toNat=j:=y12 h;exact⟨by rw[seqIndex_neg (by lia) h1,e],by lia,h1,by lia⟩
  ·rw[if_neg h1] at h;cases h
theorem zh0 {α:Type}{xs:List α}{i:Int}{v:α}(h:atI xs i=some v):∃j,seqIndex? i xs.length=some j/\xs[j]?=some v/\j<xs.length/\-(xs.length:Int)≤i/\i<xs.length:=by
 unfold atI at h;cases e:ixN xs.length i with
 | none=>rw[e] at h;cases h
 | some j =>
  rw[e] at h;obtain⟨h1,h2,h3,h4⟩:=zib e;exact⟨j,h1,h,h2,h3,h4⟩
theorem z24 {α:Type}{xs:List α}{j:Nat}{v:α}(h:xs[j]?=some v):atI xs (j:Int)=some v:=by
 have hj:j<xs.length:=(y00.mp h).1;have e:ixN xs.length (j:Int)=some j:=by
  unfold ixN;rw[if_pos (by lia),if_pos (by lia)];simp
 unfold atI;rw[e];exact h
def zn0 (b:Expr):Prop:=∀o i,subscripted b false o i=operate [o,i] (getItem o i)
def IxR (X:Cx)(r:R2):Prop :=
 ∀(value bJ:Expr) (ao:List (Addr×Obj)) (s:Shared) (σ:St) (H:Hp) (x y:V) (v u:Value) (Q:VK),Inv X ao σ H s->RelV x v->RelV y u->r x y H Q ->
  subscripted bJ false v u=operate [v,u] (getItem v u)->wpAny (model X.prog X.w) X.A (subscriptTail value bJ v u) (EP X ao σ Q) X.xe s
def MtR (X:Cx)(id:String)(r:V->List V->Hp->VK->Prop):Prop :=
 ∀(ao:List (Addr×Obj)) (s:Shared) (σ:St) (H:Hp) (x:V) (xs:List V) (v:Value) (us:List Value) (Q:VK),Inv X ao σ H s->RelV x v->Vals xs us->r x xs H Q ->
  wpAny (model X.prog X.w) X.A (call (.builtin id) (v::us)) (EP X ao σ Q) X.xe s
section
variable {X:Cx}{a b:Expr}{ta tb:TE}{pos:Pos}
theorem z0k {r:R2}(hr:IxR X r)(ha:PE X a ta)(hb:PE X b tb)(hs:zn0 b):PE X (.Subscript a b pos) (tOp r ta tb):=by
 intro ao s σ H Q I h;exact Subscript_ (zr5 ha hb I h λv u s2 x y H2 I2 rx ry q=>hr a b ao s2 σ H2 x y v u Q I2 rx ry q (hs _ _))
def zrv (K:y03):R2:=λx y H Q=>∃p xs i v,x = .ref p/\y = .int i/\SqL K H p xs/\atI xs i=some v/\Q v H
def zsj (K:y03):R2:=λx y H Q=>∃p xs i v,x = .ref p/\y = .int i/\SqT K H p xs/\atI xs i=some v/\Q v H
theorem zmf:IxR X (zrv X.K):=by
 intro value bJ ao s σ H x y v u Q I rx ry h hs;obtain⟨p,xs,i,z,rfl,rfl,hq,he,q⟩:=h;cases rx;obtain⟨t,rfl⟩:=ry;obtain⟨its,r,pl,hz⟩:=I.list hq;obtain⟨j,h1,h2,h3,h4,h5⟩:=zh0 he;obtain⟨w,ew,rw'⟩:=r.get h2;have hl:=r.length;have hn:=zbv
 have fin:EP X ao σ Q w s:=⟨z,H,I,rw',q⟩
 by_cases h0:0≤i
 ·have hj:i.toNat=j:=by
   rw[seqIndex_of h0 h5] at h1;exact y12 h1
  exact item_listR pl.isList h0 (by lia) (by rw[hj];simpa using ew) fin hs
 ·have hj:(i+(its.toArray.size:Int)).toNat=j:=by
   rw[seqIndex_neg (by lia) h4] at h1
   rw[y0h,←hl];exact y12 h1
  exact subscriptTail_builtinR (x:=w) pl.isList.typeIs slot_list_getitem.lookup
   (wpAny_getItem_list_neg (Q:=λr s'=>r=w/\EP X ao σ Q r s') pl.isList (by lia) (by rw[y0h]<;>lia) (by lia) (by rw[hj];simpa using ew) ⟨rfl,fin⟩) hs
theorem zo2:IxR X (zsj X.K):=by
 intro value bJ ao s σ H x y v u Q I rx ry h hs;obtain⟨p,xs,i,z,rfl,rfl,hq,he,q⟩:=h;cases rx;obtain⟨t,rfl⟩:=ry;obtain⟨its,r,pl,hz⟩:=I.tuple hq;obtain⟨j,h1,h2,h3,h4,h5⟩:=zh0 he;obtain⟨w,ew,rw'⟩:=r.get h2;have hl:=r.length;have hn:=zbv
 have fin:EP X ao σ Q w s:=⟨z,H,I,rw',q⟩;exact subscriptTail_builtinR (x:=w) pl.typeIs slot_tuple_getitem.lookup
  (getItem_tuple (j:=j) (Q:=λr s'=>r=w/\EP X ao σ Q r s') pl (by lia) (by lia) (by rw[y0h,←hl];exact h1) (by simpa using ew) ⟨rfl,fin⟩) hs
theorem zfp (its:List Value)(n j:Nat)(u:Value):Obj.mapSeq (·.setIfInBounds j u) { cls:=.type "list",data:=.seq its.toArray n } = { cls:=.type "list",data:=.seq (its.set j u).toArray n }:=by
 simp[Obj.mapSeq]
theorem Inv.lst {ao:List (Addr×Obj)}{σ:St}{H:Hp}{s:Shared}{p:Addr}{xs:List V}(I:Inv X ao σ H s)(h:H p=some (.lst xs)) :
  ∃(its:List Value) (n:Nat),Vals xs its/\s.heap.get? p=some { cls:=.type "list",data:=.seq its.toArray n }/\xs.length≤sizeLine:=by
 obtain⟨z,its,n,r,e⟩:=I.hok p _ h;exact⟨its,n,r,e,z⟩
theorem Inv.lstUpd {ao:List (Addr×Obj)}{σ:St}{H:Hp}{s:Shared}{p:Addr}{xs ys:List V}{its its':List Value}{n n':Nat}{f:Obj->Obj}(I:Inv X ao σ H s)(h:H p=some (.lst xs))
  (ho:s.heap.get? p=some { cls:=.type "list",data:=.seq its.toArray n }) (hf:f { cls:=.type "list",data:=.seq its.toArray n } = { cls:=.type "list",data:=.seq its'.toArray n' }) (r:Vals ys its') (hz:ys.length≤sizeLine) (t:Nat) :
  Inv X ao σ (upd H p (.lst ys)) { s with heap:=s.heap.update p f,toks:=t }:=by
 have e:(s.heap.update p f).get? p=some { cls:=.type "list",data:=.seq its'.toArray n' }:=by
  rw[Heap.get?_update_self f ho (by rw[hf]<;>rfl),hf]
 refine I.write (x:=p) (e:=p) (by rw[h];trivial) (.inl rfl) (λb u hb q=>(Heap.get?_update_other _ _ (Ne.symm hb)).trans q) ⟨_,e⟩ ?_
 exact⟨hz,its',n',r,e⟩
def zqd:V->V->V->Hp->(Hp->Prop)->Prop:=λo i v H Q=>∃p xs k j,o = .ref p/\i = .int k/\H p=some (.lst xs)/\ixN xs.length k=some j/\Q (upd H p (.lst (xs.set j v)))
theorem zj0:zpx X zqd:=by
 intro ao s σ H o i v ov iv u Q I ro ri rv h;obtain⟨p,xs,k,j,rfl,rfl,hp,hj,q⟩:=h;cases ro;obtain⟨t,rfl⟩:=ri;obtain⟨its,n,r,ho,hz⟩:=I.lst hp;obtain⟨h1,h2,h3,h4⟩:=zib hj;have hl:=r.length;have hn:=zbv
 have I':Inv X ao σ (upd H p (.lst (xs.set j v))) { s with heap:=s.heap.update p (Obj.mapSeq (·.setIfInBounds j u)) } :=
  I.lstUpd hp ho (zfp its n j u) (r.set rv j) (by rw[y2a];exact hz) s.toks
 by_cases h0:0≤k
 ·have hk:k.toNat=j:=by
   rw[seqIndex_of h0 h4] at h1;exact y12 h1
  exact PySem.W.ki_setAt ho h0 (by lia) (by rw[y0h,←hl];exact h4) (by rw[hk];exact⟨_,I',q⟩)
 ·have hk:(k+(its.toArray.size:Int)).toNat=j:=by
   rw[seqIndex_neg (by lia) h3] at h1
   rw[y0h,←hl];exact y12 h1
  exact PySem.W.ki_setBack ho (by lia) (by rw[y0h,←hl];exact h3) (by lia) (by rw[hk];exact⟨_,I',q⟩)
theorem zbr (lo hi:Option Int)(n:Nat):(sliceBounds lo hi none n).1=((HT.sIx n 0 lo:Nat):Int)/\(sliceBounds lo hi none n).2.1=((HT.sIx n n hi:Nat):Int)/\(sliceBounds lo hi none n).2.2=1:=by
 refine⟨?_,?_,rfl⟩
 ·cases lo with
  | none=>simp[sliceBounds,HT.sIx]
  | some i =>
   simp only[sliceBounds,HT.sIx,y75,show(1:Int)>0 by decide,if_true]
   by_cases h:i<0
   ·simp only[h,if_true]<;>lia
   ·simp only[h,if_false]<;>lia
 ·cases hi with
  | none=>simp[sliceBounds,HT.sIx]
  | some i =>
   simp only[sliceBounds,HT.sIx,y75,show(1:Int)>0 by decide,if_true]
   by_cases h:i<0
   ·simp only[h,if_true]<;>lia
   ·simp only[h,if_false]<;>lia
theorem z9y (its:List Value)(lo hi:Option Int):slicePick its.toArray lo hi none=((its.drop (HT.sIx its.length 0 lo)).take (HT.sIx its.length its.length hi - HT.sIx its.length 0 lo)).toArray:=by
 obtain⟨h1,h2,h3⟩:=zbr lo hi its.toArray.size;unfold slicePick;rw[h1,h2,h3];simp only[sliceRange_one,pick_run,y0h]<;>rfl
def zs2 (K:y03):V->Option Int->Option Int->Hp->VK->Prop:=λx lo hi H Q=>∃a xs,x = .ref a/\SqL K H a xs/\∀p,H p=none->Q (.ref p) (upd H p (.lst (zfs xs lo hi)))
theorem znh:SlR X (zs2 X.K):=by
 intro ao s σ H x v vl vu lo hi sl Q I rx hs pl pu h;obtain⟨a,xs,rfl,hx,q⟩:=h;cases rx;obtain⟨its,r,ht,hz⟩:=I.list hx;have hlen:=r.length;refine⟨"list",_,slot_list_getitem.lookup,ht.isList.typeIs,?_⟩;refine wpAny_getItem_list_slice ht.isList hs pl pu .none (by simp) ?_ (by rw[y0h]<;>lia)
 rw[z9y,←hlen];refine⟨.ref s.heap.objs.size,_,I.laid (t':=s.toks) (o:=.lst (zfs xs lo hi)) (λb ob q=>Heap.get?_push_of_some _ q) (y0b _) ?_,rfl,q _ (I.hok.fresh (y0b _))⟩;exact⟨y17 (zd8 xs lo hi) hz,_,0,(r.drop (HT.sIx xs.length 0 lo)).take (HT.sIx xs.length xs.length hi - HT.sIx xs.length 0 lo),Heap.get?_push_size _ rfl⟩
theorem zbe:z4i X (.builtin "len") (λxs H Q=>∃p ys,xs = [.ref p]/\(SqL X.K H p ys∨SqT X.K H p ys)/\Q (.int ys.length) H):=by
 intro ao s σ H xs us Q I r h;obtain⟨p,ys,rfl,hq,q⟩:=h;obtain⟨u,rfl,rx⟩:=z7l r;cases rx;have hn:=zbv;rcases hq with hq | hq
 ·obtain⟨its,r',pl,hz⟩:=I.list hq;have hlen:=r'.length;exact Calls.call_len_list pl.isList (by simp only[y0h]<;>lia) ⟨.int ys.length,H,I.tok _,⟨s.toks+1,by rw[y0h,hlen]⟩,q⟩
 ·obtain⟨its,r',pl,hz⟩:=I.tuple hq;have hlen:=r'.length;exact len_tuple pl (by simp only[y0h]<;>lia) ⟨.int ys.length,H,I.tok _,⟨s.toks+1,by rw[y0h,hlen]⟩,q⟩
theorem zbf:z4i X (.type "list") (λxs H Q=>∃p ys,xs = [.ref p]/\(SqL X.K H p ys∨SqT X.K H p ys)/\∀l,H l=none->Q (.ref l) (upd H l (.lst ys))):=by
 intro ao s σ H xs us Q I r h;obtain⟨p,ys,rfl,hq,q⟩:=h;obtain⟨u,rfl,rx⟩:=z7l r;cases rx;have fin:∀(its:List Value),Vals ys its->ys.length≤sizeLine->∀(h':Heap) (c':Nat),(∀b o',s.heap.get? b=some o'->h'.get? b=some o') ->
   h'.get? s.heap.objs.size=some { cls:=.type "list",dict:=none,data:=.seq its.toArray c',slots:=#[] }->EP X ao σ Q (.ref s.heap.objs.size) { s with heap:=h' }:=λits r' hz h' c' kp e =>
  ⟨.ref s.heap.objs.size,_,I.laid (t':=s.toks) kp (y0b _) (show ObjOk X.prog X.w _ h' _ (.lst ys) from ⟨hz,its,c',r',e⟩),rfl,q _ (I.hok.fresh (y0b _))⟩
 rcases hq with hq | hq
 ·obtain⟨its,r',pl,hz⟩:=I.list hq;have hlen:=r'.length;obtain⟨o,ho,hc,n,hd⟩:=pl.isList;exact call_list_seq p (.inl rfl) ho hc hd (λh' c' kp e=>fin its r' hz h' c' kp e) (by simp only[y0h]<;>lia)
 ·obtain⟨its,r',pl,hz⟩:=I.tuple hq;have hlen:=r'.length;obtain⟨o,ho,hc,n,hd⟩:=pl;exact call_list_seq p (.inr rfl) ho hc hd (λh' c' kp e=>fin its r' hz h' c' kp e) (by simp only[y0h]<;>lia)
def tyV (K:y03)(T:String)(x:V)(H:Hp):Prop:=match x with
 | .str _=>T = "str"
 | .int _=>T = "int"
 | .ref p=>(T = "list"/\∃xs,SqL K H p xs)∨(T = "tuple"/\∃o,K.lookup p=some o/\o.cls = .type "tuple"/\o.dict=none) ∨
   (T = "dict"/\((∃kvs,H p=some (.dK kvs))∨∃kvs,H p=some (.dT kvs)))∨(T = "set"/\∃S n,H p=some (.set S n))
 | _=>False
theorem zl3 {ao:List (Addr×Obj)}{σ:St}{H:Hp}{s:Shared}{T:String}{x:V}{v:Value}(I:Inv X ao σ H s)(r:RelV x v)(ty:tyV X.K T x H) :
  s.TypeIs v T/\∀a,v = .ref a->∃ob,s.heap.get? a=some ob/\ob.dict=none:=by
 cases x with
 | str z =>
  obtain⟨t,rfl⟩:=r;cases (show T = "str" from ty)
  exact⟨typeIs_str s z t,λ_ e=>nomatch e⟩
 | int i =>
  obtain⟨t,rfl⟩:=r;cases (show T = "int" from ty)
  exact⟨typeIs_int s i t,λ_ e=>nomatch e⟩
 | ref p =>
  cases r;rcases ty with ⟨rfl,xs,hq⟩ | ⟨rfl,o,hk,hc,hd⟩ | ⟨rfl,hk⟩ | ⟨rfl,S,n,hk⟩
  ·obtain⟨its,_,pl,_⟩:=I.list hq;refine⟨pl.isList.typeIs,λa e=>?_⟩;cases e;obtain⟨o,n,e,c,hd,_⟩:=pl;exact⟨o,e,hd⟩
  ·refine⟨⟨o,I.kIn p o hk,hc⟩,λa e=>?_⟩;cases e;exact⟨o,I.kIn _ o hk,hd⟩
  ·have z:∃o,s.heap.get? p=some o/\o.ExactDict:=by
    rcases hk with ⟨kvs,hk⟩ | ⟨kvs,hk⟩
    ·obtain⟨_,_,_,_,o,_,_,e,ex,_⟩:=I.hok p _ hk;exact⟨o,e,ex⟩
    ·obtain⟨_,_,_,_,o,_,_,e,ex,_⟩:=I.hok p _ hk;exact⟨o,e,ex⟩
   obtain⟨o,e,ex⟩:=z;refine⟨⟨o,e,ex.1⟩,λa e2=>?_⟩;cases e2;exact⟨o,e,ex.2.1⟩
  ·obtain⟨o,_,_,_,e,ex,_⟩:=I.hok p _ hk;refine⟨⟨o,e,ex.1⟩,λa e2=>?_⟩;cases e2;exact⟨o,e,ex.2.1⟩
 | _=>exact False.elim ty
def zse (K:y03)(T:String)(r:V->List V->Hp->VK->Prop)(to:TE):TE:=fun σ H Q=>to σ H λx H1=>tyV K T x H1/\r x [] H1 Q
def tBM (K:y03)(T:String)(r:V->List V->Hp->VK->Prop)(to:TE)(t:TA):TE:=fun σ H Q=>to σ H λx H1=>tyV K T x H1/\t σ H1 λxs H2=>r x xs H2 Q
variable {o e:Expr}{es:List Expr}{to:TE}{t:TA}{name:Str}{aU aO:Pos}{T id:String}{r:V->List V->Hp->VK->Prop}
theorem zlq (pa:PlainAttrs T)(slot:Slot T name id)(hty:typeOf (.builtin id)=pure (.type "method_descriptor"))(hm:MtR X id r)(ho:PE X o to)
  (bE:attributeBase o name X.env (eval o X.env)=eval o X.env:=by rfl) (bD:(aU.endLine==aO.line)=true:=by rfl):PE X (.Call (.Attribute o name aU) [] [] aO) (zse X.K T r to):=by
 intro ao s σ H Q I h;refine wpAny_Call_method0_late bE bD (thn (ho ao s σ H _ I h) λv s1 ⟨x,H1,I1,r1,ty,q1⟩=>?_);obtain⟨h1,h2⟩:=zl3 I1 r1 ty;exact⟨T,id,pa,slot,hty,h1,h2,Calls.callWith_builtin rfl (PySem.evalArgs_none (hm ao s1 σ H1 x [] v [] Q I1 r1 .nil q1))⟩
theorem zn6 (pa:PlainAttrs T)(slot:Slot T name id)(hty:typeOf (.builtin id)=pure (.type "method_descriptor"))(hm:MtR X id r)(ho:PE X o to)(ha:PA X (e::es) t)
  (bE:attributeBase o name X.env (eval o X.env)=eval o X.env:=by rfl)
  (hfew:((backTo aO (starEach (e::es) X.env)).all (λx=>!x.1)&&(backToKw aO (keywordEach [] X.env)).all (λx=>x.1.isSome)
  &&decide ((e::es).length+([]:List Keyword).length+(if ([]:List Keyword).isEmpty then 0 else 1)<30))=true:=by rfl)
  (bD:(aU.endLine==aO.line)=true:=by rfl) (hs:starEach (e::es) X.env=(false,eval e X.env)::starEach es X.env:=by rfl) (bY:(backTo aO (starEach es X.env)).any (·.1)=false:=by rfl) :
  PE X (.Call (.Attribute o name aU) (e::es) [] aO) (tBM X.K T r to t):=by
 intro ao s σ H Q I h;refine wpAny_Call_method_late bE hfew bD rfl (thn (ho ao s σ H _ I h) λv s1 ⟨x,H1,I1,r1,ty,q1⟩=>?_);obtain⟨h1,h2⟩:=zl3 I1 r1 ty;refine⟨T,id,pa,slot,hty,h1,h2,?_⟩;have hA:=ha aO ao s1 σ H1 _ I1 q1;rw[hs] at hA ⊢
 refine Calls.callWith_builtin (by show(false||(backTo aO (starEach es X.env)).any (·.1))=false;rw[bY]<;>rfl) (Calls.evalArgs_plain ?_)
 exact thn hA λus s2 ⟨vs,H2,I2,r2,q2⟩=>hm ao s2 σ H2 x vs v us Q I2 r1 r2 q2
end
end L2
namespace L2
open PySem PySem.Spec PyProof.Rows
def MtM (X:Cx)(id:String)(r:V->List V->Hp->VK->Prop):Prop :=
 ∀(ao:List (Addr×Obj)) (s:Shared) (σ:St) (H:Hp) (x:V) (xs:List V) (v:Value) (us:List Value) (Q:VK),Inv X ao σ H s->RelV x v->Vals xs us->r x xs H Q ->
  wpAny (model X.prog X.w) X.A (call (.builtin id) (v::us)) (EP X ao σ Q) X.xe s
theorem Vals.one:∀{x:V} {us:List Value},Vals [x] us->∃u,us = [u]/\RelV x u
 | _,_,.cons r .nil=>⟨_,rfl,r⟩
theorem Vals.two:∀{x y:V} {us:List Value},Vals [x,y] us->∃u v,us = [u,v]/\RelV x u/\RelV y v
 | _,_,_,.cons r (.cons q .nil)=>⟨_,_,rfl,r,q⟩
theorem Vals.zero:∀{us:List Value},Vals [] us->us = []
 | _,.nil=>rfl
theorem Vals.dropLast {xs:List V}{us:List Value}(h:Vals xs us):Vals xs.dropLast us.dropLast:=by
 induction h with
 | nil=>exact .nil
 | cons r t ih =>
  cases t with
  | nil=>exact .nil
  | cons q t'=>exact .cons r ih
theorem Vals.rep {xs:List V}{us:List Value}(h:Vals xs us):∀k:Nat,Vals (y07 k xs).flatten (y07 k us).flatten
 | 0=>.nil
 | k+1=>by
  rw[y1s,y1s,y3r,y3r];exact Vals.append h (Vals.rep h k)
theorem zeu {α:Type}(l:List α):l.eraseIdx (l.length - 1)=l.dropLast:=by
 induction l with
 | nil=>rfl
 | cons a r ih =>
  cases r with
  | nil=>rfl
  | cons b r =>
   have e:(a::b::r).length - 1=((b::r).length - 1)+1:=by
    have h1:(a::b::r).length=r.length+2:=rfl;have h2:(b::r).length=r.length+1:=rfl
    lia
   rw[e,y5l,ih]
   all_goals rfl
theorem zc6 (its:List Value):∀(k:Nat) (acc:List Value),
  y7n (λx1 x2=>x1++x2) acc.toArray (y07 k its.toArray)=(acc++(y07 k its).flatten).toArray
 | 0,acc=>by simp
 | k+1,acc=>by
  have e:acc.toArray++its.toArray=(acc++its).toArray:=by simp
  have e2:(acc++its)++(y07 k its).flatten=acc++(y07 (k+1) its).flatten:=by
   rw[y1s,y3r,y32]
  rw[←e2,←zc6 its k (acc++its),←e,y1s,y3k]
section
variable {X:Cx}{ao:List (Addr×Obj)}{σ:St}{H:Hp}{s:Shared}{l b:Addr}{xs ys zs:List V}
theorem Inv.lset {its its':List Value}{n:Nat}{f:Array Value->Array Value}{t':Nat}(I:Inv X ao σ H s)(hH:H l=some (.lst xs))
  (e:s.heap.get? l=some { cls:=.type "list",data:=.seq its.toArray n }) (hf:f its.toArray=its'.toArray) (hv:Vals ys its') (hz:ys.length≤sizeLine) :
  Inv X ao σ (upd H l (.lst ys)) { s with heap:=s.heap.update l (Obj.mapSeq f),toks:=t' }:=by
 have q:=PySem.IsL.update e f;rw[hf] at q;refine I.write (x:=l) (e:=l) (by rw[hH];exact trivial) (.inl rfl) (λb' u hb hu=>(Heap.get?_update_other s.heap (Obj.mapSeq f) (Ne.symm hb)).trans hu) ⟨_,q⟩ ?_
 exact⟨hz,its',_,hv,q⟩
theorem Inv.lnew {its:List Value}{t':Nat}(I:Inv X ao σ H s)(hv:Vals ys its)(hz:ys.length≤sizeLine) :
  Inv X ao σ (upd H s.heap.objs.size (.lst ys)) { s with heap:=s.heap.push { cls:=.type "list",data:=.seq its.toArray },toks:=t' } :=
 I.laid (λ_ _ q=>Heap.get?_push_of_some _ q) (y0b _) ⟨hz,its,0,hv,Heap.get?_push_size _ rfl⟩
theorem Inv.fresh (I:Inv X ao σ H s):H s.heap.objs.size=none:=I.hok.fresh (y0b _)
theorem Inv.lstM (I:Inv X ao σ H s)(hH:H l=some (.lst xs)):xs.length≤sizeLine/\∃(its:List Value) (n:Nat),Vals xs its/\xs.length=its.length/\s.heap.get? l=some { cls:=.type "list",data:=.seq its.toArray n }:=by
 obtain⟨z,its,n,r,e⟩:=I.hok l _ hH;exact⟨z,its,n,r,r.length,e⟩
theorem zed {n:Nat}(h:n≤sizeLine):Builtin.List.listTooLong n=false:=by
 unfold Builtin.List.listTooLong;exact decide_eq_false (by lia)
end
section
variable {X:Cx}
def zmm:V->List V->Hp->VK->Prop:=λx vs H Q=>∃l xs y,x = .ref l/\vs = [y]/\H l=some (.lst xs)/\xs.length<sizeLine/\Q .non (upd H l (.lst (xs ++ [y])))
theorem zhg:MtM X "list.append" zmm:=by
 intro ao s σ H x vs v us Q I rx rv h;obtain⟨l,xs,y,rfl,rfl,hH,hz,q⟩:=h;cases rx;obtain⟨u,rfl,ru⟩:=rv.one;obtain⟨z,its,n,r,hl,e⟩:=I.lstM hH;refine call_meets F.slot_list_append ⟨_,e,rfl⟩ F.entry_list_append (F.args_list_append_2 _ _) (PySem.list_append l its.toArray n u (by rw[y0h];lia)) ⟨e,?_⟩
 refine⟨.non,_,I.lset (its':=its ++ [u]) hH e (by simp) (r.append (.cons ru .nil)) ?_,rfl,q⟩
 rw[y0e,y4g];lia
def zmy:V->List V->Hp->VK->Prop:=λx vs H Q=>∃l b xs zs,x = .ref l/\vs = [.ref b]/\H l=some (.lst xs)/\H b=some (.lst zs)/\xs.length+zs.length≤sizeLine/\Q .non (upd H l (.lst (xs++zs)))
theorem zhn:MtM X "list.extend" zmy:=by
 intro ao s σ H x vs v us Q I rx rv h;obtain⟨l,b,xs,zs,rfl,rfl,hH,hB,hz,q⟩:=h;cases rx;obtain⟨u,rfl,ru⟩:=rv.one;cases ru;obtain⟨z,its,n,r,hl,e⟩:=I.lstM hH;obtain⟨z2,its2,n2,r2,hl2,e2⟩:=I.lstM hB;have hsz:its.toArray.size+its2.toArray.size≤sizeLine:=by rw[y0h,y0h];lia
 have hlong:¬(!its.toArray.isEmpty&&Builtin.List.listTooLong (its.toArray.size+its2.toArray.size))=true:=by
  rw[zed hsz,y69];exact y0z
 refine call_meets F.slot_list_extend ⟨_,e,rfl⟩ F.entry_list_extend (F.args_list_extend_2 _ _)
  (AutoSeq1.list_extend_list_list_0 l its.toArray n b its2.toArray n2 hlong (by rw[y0h];lia) (by lia)) ⟨e,e2,?_⟩
 refine⟨.non,_,I.lset (its':=its++its2) hH e (by simp) (r.append r2) ?_,rfl,q⟩
 rw[y0e];lia
def zsk:V->List V->Hp->VK->Prop:=λx vs H Q=>∃l xs y,x = .ref l/\vs = []/\H l=some (.lst xs)/\xs[xs.length - 1]?=some y/\Q y (upd H l (.lst xs.dropLast))
theorem zpe:MtM X "list.pop" zsk:=by
 intro ao s σ H x vs v us Q I rx rv h;obtain⟨l,xs,y,rfl,rfl,hH,hy,q⟩:=h;cases rx;have hus:=rv.zero;subst hus;obtain⟨z,its,n,r,hl,e⟩:=I.lstM hH;obtain⟨u,hu,ru⟩:=r.get hy;have hy':its.toArray[its.toArray.size - 1]?=some u:=by
  show its.toArray[its.length - 1]?=some u;rw[←y37,←hl];exact hu
 refine call_meets F.slot_list_pop ⟨_,e,rfl⟩ F.entry_list_pop (F.args_list_pop_1 _) (MeetsSeq.list_pop_last l its.toArray n u hy' (by rw[y0h];lia)) ⟨e,?_⟩
 refine⟨y,_,I.lset (its':=its.dropLast) hH e ?_ r.dropLast ?_,ru,q⟩
 ·show its.toArray.eraseIdxIfInBounds (its.toArray.size - 1)=its.dropLast.toArray;rw[y0h,List.eraseIdxIfInBounds_toArray,zeu]
 ·rw[y67];lia
def zo0:V->List V->Hp->VK->Prop:=λx vs H Q=>∃l xs,x = .ref l/\vs = []/\H l=some (.lst xs)/\Q .non (upd H l (.lst []))
theorem ziv:MtM X "list.clear" zo0:=by
 intro ao s σ H x vs v us Q I rx rv h;obtain⟨l,xs,rfl,rfl,hH,q⟩:=h;cases rx;have hus:=rv.zero;subst hus;obtain⟨z,its,n,r,hl,e⟩:=I.lstM hH;refine call_meets F.slot_list_clear ⟨_,e,rfl⟩ F.entry_list_clear (F.args_list_clear_1 _) (AutoSeq1.list_clear_list_0 l its.toArray n (by rw[y0h];lia)) ⟨e,?_⟩
 exact⟨.non,_,I.lset (its':=[]) (ys:=[]) hH e rfl .nil (y25 _),rfl,q⟩
def zsh:R2:=λx y H Q=>∃l b xs zs,x = .ref l/\y = .ref b/\H l=some (.lst xs)/\H b=some (.lst zs)/\xs.length+zs.length≤sizeLine/\∀p,H p=none->Q (.ref p) (upd H p (.lst (xs++zs)))
theorem zp2:OpR X (binaryOp .Add) zsh:=by
 intro ao s σ H x y v u Q I rx ry h;obtain⟨l,b,xs,zs,rfl,rfl,hH,hB,hz,q⟩:=h;cases rx;cases ry;obtain⟨z,its,n,r,hl,e⟩:=I.lstM hH;obtain⟨z2,its2,n2,r2,hl2,e2⟩:=I.lstM hB;refine PySem.P.add_list e e2 ?_ (by rw[y0h,y0h];lia)
 have ea:its.toArray++its2.toArray=(its++its2).toArray:=by simp
 rw[ea];exact⟨.ref _,_,I.lnew (t':=s.toks) (r.append r2) (by rw[y0e];lia),rfl,q _ I.fresh⟩
def zsf:R2:=λx y H Q=>∃l k xs,x = .ref l/\y = .int k/\H l=some (.lst xs)/\-(2^63)≤k/\k<2^63/\xs.length*k.toNat≤sizeLine /\
 ∀p,H p=none->Q (.ref p) (upd H p (.lst (y07 k.toNat xs).flatten))
theorem zm0 {α:Type}(xs:List α)(k:Nat):(y07 k xs).flatten.length=k*xs.length:=by
 induction k with
 | zero=>simp
 | succ k ih=>rw[y1s,y3r,y0e,ih,Nat.succ_mul,Nat.add_comm]
theorem zo8:OpR X (binaryOp .Mult) zsf:=by
 intro ao s σ H x y v u Q I rx ry h;obtain⟨l,k,xs,rfl,rfl,hH,h1,h2,hz,q⟩:=h;cases rx;obtain⟨t,rfl⟩:=ry;obtain⟨z,its,n,r,hl,e⟩:=I.lstM hH;have hlen:its.toArray.size*k.toNat≤sizeLine:=by rw[y0h,←hl];exact hz
 have hcap:¬its.toArray.size*k.toNat>(2^63 - 1) / 8:=by
  have:(sizeLine:Nat)≤(2^63 - 1) / 8:=by decide
  lia
 have hfit:¬(!Builtin.List.listFitsIndex k)=true:=by
  rw[fitsIndex_both h1 h2];exact y0z
 have hlong:¬Builtin.List.listTooLong (its.toArray.size*k.toNat)=true:=by
  rw[zed hlen];exact y0z
 have hnew:y7n (λx1 x2=>x1++x2) #[] (y07 (if its.toArray.isEmpty=true then 0 else k.toNat) its.toArray)=(y07 k.toNat its).flatten.toArray:=by
  have f0:∀m:Nat,y7n (λx1 x2=>x1++x2) #[] (y07 m its.toArray)=(y07 m its).flatten.toArray:=λm=>by
   have:=zc6 its m [];rw[List.nil_append] at this;exact this
  rw[f0];cases its with
  | nil=>simp
  | cons a r'=>rw[if_neg (by simp)]
 refine wpAny_binaryOp_repeat_ref (T:="list") (U:="int") (by decide) ⟨_,e,rfl⟩ (λs'=>typeIs_int s' k t) noFill_list_mul F.fills_int_mul F.slot_int_rmul repeat_list F.slot_int_index.lookup
  (call_meets F.slot_int_rmul (typeIs_int s k t) F.entry_int_rmul (F.args_int_rmul_2 _ _) (int___rmul___int_list k t l its.toArray n)
   ⟨e,rfl,⟨_,e,rfl⟩,call_meets F.slot_list_mul ⟨_,e,rfl⟩ F.entry_list_mul (F.args_list_mul_2 _ _) (AutoListH.list___mul___list_int_3 l its.toArray n k t hfit hcap hlong) ⟨e,?_⟩⟩)
 rw[hnew];exact⟨.ref _,_,I.lnew (t':=s.toks) (r.rep k.toNat) (by rw[zm0,Nat.mul_comm];exact hz),rfl,q _ I.fresh⟩
end
section
variable {prog:Program}{w:World}{A:Around}{E:Value->Shared->Prop}{s:Shared}
end
section
variable {X:Cx}
end
end L2
namespace Att
open PySem PySem.W PySem.Calls PyProof.Rows
theorem z80 {P:Params}{h:Heap}:∀(ns:List Int) (vs:List Value),WellAll P h vs (ns.map WData.int)->IntsAre vs ns:=by
 intro ns
 induction ns with
 | nil =>
  intro vs w;rw[y3l] at w;cases w;exact .nil
 | cons n ns ih =>
  intro vs w;rw[y0l] at w;cases w with
  | cons a b =>
   cases a;exact .cons _ _ (ih _ b)
theorem zg5 {l:OpenLaw}{n:Nat}(hn:l.most=some n){P:Params}{h:Heap}{args:List WData}{aF:List Value}
  (hpre:l.row.toRowW.claim.pre args=true) (hwl:WellAll P h aF args) :
  ∃a vs ns,aF = [Value.ref a]/\args = [WData.list (ns.map WData.int)]/\h.get? a=some { cls:=.type "list",data:=.seq vs.toArray }/\IntsAre vs ns/\ns.length≤n:=by
 have hsh:WShape.hasAll [] args [.list .int]=true:=(pre_splitW hpre).1;have hc:l.pre.holds [] { args:=args }=true:=(pre_splitW hpre).2
 obtain⟨d,r,rfl,h1,h2⟩:=hasAllW_cons hsh;obtain rfl:=hasAllW_nil h2;obtain⟨xs,rfl,h3⟩:=hasW_list h1;obtain⟨ns,rfl⟩:=items_int h3;have hlen:ns.length≤n:=by
  unfold OpenLaw.pre at hc;have h4:(WTm.not (.lt (.lit (.int (n:Int))) (.len (.arg 0)))).holds [] { args:=[.list (ns.map .int)] }=true:=by
   have h4:=(holds_andW hc).1;rw[hn] at h4;exact h4
  have h5:=condW_of h4 (w_not (w_lt w_lit (w_len_list (w_arg rfl))));rw[y04] at h5;refine Nat.le_of_not_lt λq=>?_;have q':(n:Int)<((ns.length:Nat):Int):=by lia
  first
   | (rw[decide_eq_true q'] at h5;exact absurd h5 (by decide))
   | (simp at h5;lia)
 cases hwl with
 | cons w1 w2 =>
  cases w2;cases w1 with
  | list ho hall=>exact⟨_,_,ns,rfl,rfl,ho,z80 ns _ hall,hlen⟩
theorem zi8 (l:OpenLaw)(args:List WData):l.row.toRowW.claim.post args (.bool true) args=true :=
 postW_of (r:=l.row.toRowW) (X:=(true==true))
  (show WShape.has [] (.bool true) .bool=true by first | rfl | decide | simp[WShape.has,WShape.arms,WShape.armsAll])
  (show(WTm.eq .res (.lit (.bool true))).value [] { args:=args,res:=some (.bool true),after:=args }=some (.bool (true==true)) from w_eq_bool (w_res rfl) w_lit) rfl
theorem attach_call {l:OpenLaw}{n:Nat}{q:Program}{cy:List Str}{XP:(Str->Option Value)->Heap->Prop}{YP:World->Heap->Prop}{d:DefRec}
  (hn:l.most=some n) (hdf:d.params.defaults = [])
  (call:∀(w:World) (s₀ s₁:Shared) (mg mb:Str->Option Value) (fa:Addr) (o:Obj) (pm cd doc:Value) (a:Addr) (vs:List Value) (ns:List Int),
   Ground q cy [] XP w s₀ mg mb s₁.heap->YP w s₁.heap ->
   s₁.heap.get? fa=some o->o.data = .func (docDef d.name d.params d.body d.scope pm cd doc)->s₁.heap.CodeRec cd d.name->mg d.name=some (.ref fa) ->
   s₁.heap.get? a=some { cls:=.type "list",data:=.seq vs.toArray }->IntsAre vs ns->ns.length≤n->s₁.gens = #[] ->
   codeAny (model l.prog w) callerA (.call (.ref fa) ⟨[.ref a],[]⟩) (λr s'=>r = .ok (.ret (.bool true))/\OldK s₁.heap s'.heap/\s'.os=s₁.os/\AllBare s'.gens) s₁) :
  WalkO q cy XP YP l.row.toRowW d [] (λf vs=>y7o f vs):=by
 intro w s₀ s₁ mg mb G Y fa o pm cd doc dV kV ho hd hcd hD hmg hg args aF as hpre hlay hrd hwl hlo;obtain rfl:dV = .none:=Dflts.none hD hdf;obtain rfl:kV = .none:=Dflts.noKw hD;obtain⟨a,vs,ns,rfl,rfl,hobj,hints,hlen⟩:=zg5 hn hpre hwl;refine enter_call (codeAny_mono (call w s₀ s₁ mg mb fa o pm cd doc a vs ns G Y ho (fd_plain hd) hcd hmg hobj hints hlen hg) λr s' hq=>?_);obtain⟨rfl,h2,h3,h4⟩:=hq;exact⟨.inl ⟨.bool true,.bool true,[],rfl,λ_=>rfl,.bool true,zi8 l _,λ_=>⟨y6u,λ_ hm=>(nomatch hm)⟩⟩,h2,h3,h4⟩
section
variable {prog:Program}{w:World}{A:Around}{E:Value->Shared->Prop}{s:Shared}{K:Frag}
def zrl (h:Heap)(L d:Addr):List (Addr×Obj):=(y0f h.objs.size).filterMap λa=>if a=L∨a=d then none else (h.get? a).map λo=>(a,o)
end
end Att
namespace L2
open PySem PySem.Spec PyProof.Rows
theorem zby:∀{vs:List Value} {ns:List Int},IntsAre vs ns->Vals (ns.map V.int) vs
 | _,_,.nil=>.nil
 | _,_,.cons n t h=>.cons ⟨t,rfl⟩ (zby h)
def zqi (H:Hp):Prop:=∀b,H b=none∨∃o xs,H b=some (.frz o (.lst xs))
theorem ziz {P:Program}{w:World}{K:y03}{mg mb:Str->Option Value}{CX:CXT}{k:Nat}{fa a:Addr}{fd:FuncData}{x:Str}{sp:Sp}{s₁:Shared}{vs:List Value}{ns:List Int}
  (KX:K.In s₁.heap) (hns:s₁.heap.Ns mainGlobals mg) (hb:s₁.heap.Ns builtinsNs mb) (hbb:∀x:Str,x ≠ "__name__"->mb x=bootBuiltins x) (hlim:s₁.heap.NoLimit) (hg:s₁.gens = #[])
  (ha:s₁.heap.get? a=some { cls:=.type "list",data:=.seq vs.toArray }) (hi:IntsAre vs ns) (hl:ns.length≤sizeLine) (hr:Room k callerA)
  (F:∀base:Heap,K.In base->base.Ns mainGlobals mg->FnOk P w K mg base CX k fa fd [x] sp) (hbind:∀(s:Shared) (u:Value),BindsTo s fd ⟨[u],[]⟩ [(x,u)])
  (hsp:∀H:Hp,zqi H->SqL K H a (ns.map V.int)->sp [.ref a] H (λv _=>v = .bl true) λ_ _ _=>False)
  (hCX:∀H e s',CX [] H s₁ (λ_ _ _=>False) e s'->False) :
  codeAny (model P w) callerA (.call (.ref fa) ⟨[.ref a],[]⟩) (λr s'=>r = .ok (.ret (.bool true))/\OldK s₁.heap s'.heap/\s'.os=s₁.os/\AllBare s'.gens) s₁:=by
 have rv:=zby hi;have lenV:=hi.length
 have core:∀H:Hp,zqi H->SqL K H a (ns.map V.int)->HOk P w H s₁.heap->(∀b,H b≠none->b=a)->(H a≠none->K.lookup a=none) ->
   codeAny (model P w) callerA (.call (.ref fa) ⟨[.ref a],[]⟩) (λr s'=>r = .ok (.ret (.bool true))/\OldK s₁.heap s'.heap/\s'.os=s₁.os/\AllBare s'.gens) s₁:=by
  intro H hO hS hok hA hK;have base_of:∀{b:Addr} {o:Obj},s₁.heap.get? b=some o->H b=none->(zki s₁.heap H).get? b=some o:=λe n=>zkb e n;have noA:∀{b:Addr} {o:Obj} {es:Array DictEntry} {ep:Nat},s₁.heap.get? b=some o->o.data = .dict es ep->H b=none:=λ{b o es ep} e d=>by
   cases q:H b with
   | none=>rfl
   | some u =>
    have e':b=a:=hA b (by rw[q];simp)
    subst e';rw[ha] at e;cases e;have d':Data.seq vs.toArray _=Data.dict es ep:=d;cases d'
  have nsK:∀{b:Addr} {m:Str->Option Value},s₁.heap.Ns b m->(zki s₁.heap H).Ns b m:=λ{b m} ⟨o,es,ep,e,d,r⟩=>⟨o,es,ep,base_of e (noA e d),d,r⟩;have hKb:K.In (zki s₁.heap H):=λb o e=>base_of (KX b o e) (by
   cases q:H b with
   | none=>rfl
   | some u =>
    have e':b=a:=hA b (by rw[q];simp)
    subst e';rw[hK (by rw[q];simp)] at e;cases e)
  have hM:Mod K mg (zki s₁.heap H):=⟨hKb,nsK hns,⟨mb,nsK hb,hbb⟩,let ⟨mc,h1,h2⟩:=hlim;⟨mc,nsK h1,h2⟩⟩
  have e0:Env0 P w K mg (zki s₁.heap H) callerA [] s₁ H:=⟨rfl,hM,λb o e=>zm9 e,y71 (zgp _ _),trivial,λb hb=>absurd (show b∈([]:List Addr) from hb) (by simp),hok,.of_eq hg⟩
  refine codeAny_mono ((F _ hKb (nsK hns)).run callerA [] s₁ H ⟨[.ref a],[]⟩ [.ref a] [.ref a] _ _ hr e0 (hbind s₁ (.ref a)) (.cons rfl .nil) (hsp H hO hS)) λr s' h=>?_;cases r with
  | error e=>exact(hCX H e s' h).elim
  | ok fl =>
   cases fl with
   | next=>exact False.elim h
   | brk=>exact False.elim h
   | cont=>exact False.elim h
   | ret u =>
    obtain⟨v,H',os,bare,un,hok',r',q⟩:=h;have q':v = .bl true:=q;subst q';obtain rfl:u=Value.bool true:=r';refine⟨rfl,OldK.of_keep λb o e=>?_,os,bare⟩;cases q:H b with
    | none=>exact un.keep b o e q (by intro z;exact absurd (show b∈([]:List Addr) from z) (by simp)) (by simp)
    | some u =>
     rcases hO b with z | ⟨ob,xs,z⟩
     ·rw[q] at z;cases z
     ·have z2:=un.frzs b ob _ z;obtain⟨e1,_⟩:=hok b _ z;obtain⟨e2,_⟩:=hok' b _ z2;rw[e] at e1;cases e1;exact e2
 cases hk:K.lookup a with
 | some o =>
  have e:=KX a o hk;rw[ha] at e;cases e;refine core (λ_=>none) (λ_=>.inl rfl) (.inr ⟨_,vs.toArray,_,hk,rfl,rfl,rfl,by rw[y0h,lenV];exact hl,by simpa using rv⟩) (λb u z=>by have z':(none:Option HO)=some u:=z;cases z') (λb z=>absurd rfl z) λz=>absurd rfl z
 | none =>
  refine core (λb=>if b=a then some (.frz { cls:=.type "list",data:=.seq vs.toArray } (.lst (ns.map V.int))) else none) (λb=>?_) (.inl (.inr ⟨{ cls:=.type "list",data:=.seq vs.toArray },if_pos rfl⟩)) (λb u z=>?_) (λb z=>?_) λ_=>hk
  ·by_cases hb:b=a
   ·exact .inr ⟨_,_,if_pos hb⟩
   ·exact .inl (if_neg hb)
  ·by_cases hb:b=a
   ·have z':=(if_pos hb).symm.trans z;cases z';subst hb;exact⟨ha,by rw[y04];exact hl,vs,_,rv,ha⟩
   ·have z':=(if_neg hb).symm.trans z;cases z'
  ·by_cases hb:b=a
   ·exact hb
   ·exact absurd (if_neg hb) z
end L2
namespace L2
open PySem PySem.Spec PyProof.Rows
theorem walk_of {l:y4v}{n k:Nat}{q:Program}{cy:List Str}{XP:(Str->Option Value)->Heap->Prop}{YP:World->Heap->Prop}{d:DefRec}{K:Params->y03}{CX:World->CXT}{sp:World->Sp}{x:Str}
  (hn:l.most=some n) (hn2:n≤sizeLine) (hdf:d.params.defaults = []) (hr:Room k callerA)
  (hY:∀(w:World) (h:Heap),YP w h->(K w.params).In h)
  (F:∀(w:World) (mg:Str->Option Value) (fa:Addr) (h:Heap),(K w.params).In h->h.Ns mainGlobals mg->mg d.name=some (.ref fa) ->
   ∃fd:FuncData,(∀(s:Shared) (u:Value),BindsTo s fd ⟨[u],[]⟩ [(x,u)]) /\
    ∀base:Heap,(K w.params).In base->base.Ns mainGlobals mg->FnOk l.prog w (K w.params) mg base (CX w) k fa fd [x] (sp w))
  (hsp:∀(w:World) (H:Hp) (a:Addr) (ns:List Int),ns.length≤n->zqi H->SqL (K w.params) H a (ns.map V.int)->sp w [.ref a] H (λv _=>v = .bl true) λ_ _ _=>False)
  (hCX:∀(w:World) (H:Hp) (s:Shared) (e:Value) (s':Shared),CX w [] H s (λ_ _ _=>False) e s'->False) :
  y7r q cy XP YP l.row.toRowW d [] (λf vs=>y7o f vs):=by
 refine Att.attach_call hn hdf λw s₀ s₁ mg mb fa o pm cd doc a vs ns G Y ho hd hcd hmg hobj hints hlen hg=>?_;have KX:=hY w _ Y;obtain⟨fd,hb,hF⟩:=F w mg fa _ KX G.T.g hmg;exact ziz KX G.T.g G.T.b G.T.builtins G.T.nolimit hg hobj hints (y17 hlen hn2) hr hF hb (λH hO hS=>hsp w H a ns hlen hO hS) λH e s'=>hCX w H s₁ e s'
end L2
namespace L2
open PySem PySem.Spec PyProof.Rows
def z36 (s:Stmt)(j:Nat):Stmt:=match s with
 | .ClassDef _ _ _ body _ _ _ _ _ _ _=>body.getD j (.Pass ⟨0,0,0,0⟩)
 | _=>.Pass ⟨0,0,0,0⟩
def z0f (s:Stmt):Arguments:=match s with
 | .FunctionDef _ a _ _ _ _ _ _ _ _=>a
 | _=>{ posonlyargs:=[],args:=[],vararg:=none,kwonlyargs:=[],kw_defaults:=[],kwarg:=none,defaults:=[] }
def z0c (s:Stmt):List Stmt:=match s with
 | .FunctionDef _ _ b _ _ _ _ _ _ _=>b
 | _=>[]
def z05 (s:Stmt):Scope:=match s with
 | .FunctionDef _ _ _ _ _ _ sc _ _ _=>sc
 | _=>{ kind:=.function,names:=[],isGenerator:=false,isCoroutine:=false }
abbrev CX0:CXT:=λ_ _ _ _ _ _=>False
abbrev E0:XK:=λ_ _ _=>False
theorem zj9 {X:Cx}:z9t CX0 X E0:=λ_ _ _ _ _ _ _ h=>h.elim
structure Fun (K:y03)(x aR:Str)(st:Stmt)(f:Addr)(fd:FuncData):Prop where
 ex:∃(oc:Value) (od:Option Addr) (kV doc pm:Value) (an:Option Addr) (cdv ct:Value) (osl:Array (Option Value)),
  fd=y0n x aR (z0f st) (z0c st) (z05 st) .none kV doc pm an cdv ct/\K.lookup f=some ⟨oc,od,.func fd,osl⟩/\y0j K cdv aR=true
 kp:y0i K (.ref f)=true
section
variable {P:Program}{w:World}{K:y03}{mg:Str->Option Value}{base:Heap}
theorem Fun.ok {x aR:Str}{st:Stmt}{f:Addr}{fd:FuncData}{N ps:List Str}{k:Nat}{sp:Sp}(F:Fun K x aR st f fd)(S:FnScope N ps (z05 st))(len:∀vs H Q E,sp vs H Q E->vs.length=ps.length)
  (hbody:∀(cdv:Value) (A:Around) (outer:List Env) (s:Shared) (H:Hp) (vs:List V) (Q:VK) (E:XK),Room k (A.deeper (envOfC aR (z05 st) s.heap.objs.size f cdv))->sp vs H Q E ->
   ∃t,PSs (ziu CX0 P w K mg base N aR (z05 st) f cdv A outer s H E).nox (z0c st) t/\t { nx:=λ_ H'=>Q .non H',rt:=Q } (start N vs) H):FnOk P w K mg base CX0 (k+1) f fd ps sp:=by
 obtain⟨oc,od,kV,doc,pm,an,cdv,ct,osl,rfl,lk,hcd⟩:=F.ex;refine zqv lk hcd S len λA outer s H vs Q E hr hsp=>?_;obtain⟨t,h,q⟩:=hbody cdv A outer s H vs Q E hr hsp;exact⟨t,h.nox,q⟩
theorem Fun.binds {x aR:Str}{st:Stmt}{f:Addr}{fd:FuncData}{ps:List Str}(F:Fun K x aR st f fd)
  (h:∀(kV doc pm:Value) (an:Option Addr) (cdv ct:Value) (us:List Value),us.length=ps.length->bindArgs (y0n x aR (z0f st) (z0c st) (z05 st) .none kV doc pm an cdv ct) ⟨us,[]⟩=pure (ps.zip us)):Binds K fd ps []:=by
 obtain⟨oc,od,kV,doc,pm,an,cdv,ct,osl,rfl,lk,hcd⟩:=F.ex;exact .all (h kV doc pm an cdv ct)
theorem z1n {x aR:Str}{st:Stmt}{f:Addr}{oc:Value}{od an:Option Addr}{osl:Array (Option Value)}{kV doc pm cdv ct:Value}(l:K.lookup f=some ⟨oc,od,.func (y0n x aR (z0f st) (z0c st) (z05 st) .none kV doc pm an cdv ct),osl⟩)
  (c:y0j K cdv aR=true) (k:y0i K (.ref f)=true):Fun K x aR st f (y0n x aR (z0f st) (z0c st) (z05 st) .none kV doc pm an cdv ct):=⟨⟨oc,od,kV,doc,pm,an,cdv,ct,osl,rfl,l,c⟩,k⟩
end
theorem z0i {n:Nat}(h:n≤1000):n<sizeLine:=y2v h (by decide)
section
variable {X:Cx}
end
theorem z91 {A B:Prop}(h:B):if false=true then A else B:=by
 rw[if_neg y0z];exact h
theorem z7r {A B:Prop}(h:A):if true=true then A else B:=by
 rw[if_pos rfl];exact h
theorem z4d {c A B:Prop} [Decidable c] (h1:c->A)(h2:¬c->B):if c then A else B:=by
 by_cases h:c
 ·rw[if_pos h];exact h1 h
 ·rw[if_neg h];exact h2 h
theorem zm6 {c A B:Prop} [Decidable c] (hc:c)(h:B):if (!decide c)=true then A else B:=by
 rw[decide_eq_true hc];exact z91 h
def Same (H H':Hp):Prop:=∀b o,H b=some o->H' b=some o
theorem Same.refl (H:Hp):Same H H:=λ_ _ h=>h
theorem Same.trans {H H1 H2:Hp}(a:Same H H1)(b:Same H1 H2):Same H H2:=λc o h=>b c o (a c o h)
theorem Same.free {H H':Hp}(e:Same H H'){l:Addr}(h:H' l=Option.none):H l=Option.none:=by
 cases q:H l with
 | none=>rfl
 | some o =>
  rw[e l o q] at h;cases h
theorem Same.seq {K:y03}{H H':Hp}{a:Addr}{xs:List V}(e:Same H H')(h:SqL K H a xs):SqL K H' a xs:=by
 rcases h with (h | ⟨o,h⟩) | h
 ·exact .inl (.inl (e _ _ h))
 ·exact .inl (.inr ⟨o,e _ _ h⟩)
 ·exact .inr h
end L2
namespace L2.EX
open PySem PySem.Spec PyProof.Rows
section
variable {X:Cx}
theorem z57 {e:Expr}{t u:TE}(h:PE X e t)(k:∀ σ H Q,u σ H Q->t σ H Q):PE X e u:=λao s σ H Q I q=>h ao s σ H Q I (k σ H Q q)
theorem zlc {e:Stmt}{t u:TS}(h:PS X e t)(k:∀D σ H,u D σ H->t D σ H):PS X e u:=λao s σ H D I q=>h ao s σ H D I (k D σ H q)
theorem zld {e:Expr}{t u:TG}(h:PG X e t)(k:∀v σ H Q,u v σ H Q->t v σ H Q):PG X e u:=λao s σ H v w Q I r q=>h ao s σ H v w Q I r (k v σ H Q q)
theorem z7p {f:Value}{r u:List V->Hp->VK->Prop}(h:z4i X f r)(k:∀xs H Q,u xs H Q->r xs H Q):z4i X f u:=λao s σ H xs us Q I r q=>h ao s σ H xs us Q I r (k xs H Q q)
def zs9 (t:TS):TS:=λD σ H=>∃M:St->Hp->Prop,t { D with nx:=M } σ H/\∀ σ' H',M σ' H'->D.nx σ' H'
theorem zeh {st:Stmt}{t:TS}(h:PS X st t):PS X st (zs9 t):=by
 intro ao s σ H D I hw;obtain⟨M,h1,h2⟩:=hw;refine thn (h ao s σ H { D with nx:=M } I h1) λf s' q=>?_
 cases f with
 | next =>
  obtain⟨σ',H',I',m⟩:=q;exact⟨σ',H',I',h2 _ _ m⟩
 | brk=>exact q
 | cont=>exact q
 | ret v=>exact q
def sg:St->Nat->Option V
 | [],_=>none
 | v::_,0=>v
 | _::r,n+1=>sg r n
theorem zmd:∀{σ:St} {i:Nat} {v:V},sg σ i=some v->σ[i]?=some (some v)
 | [],_,_,h=>nomatch h
 | w::_,0,v,h=>by
  have e:w=some v:=h;rw[e];rfl
 | _::r,n+1,v,h=>by
  have e:=zmd (σ:=r) (i:=n) (v:=v) h;simpa using e
def xV (i:Nat)(σ:St)(H:Hp)(Q:VK):Prop:=match sg σ i with
 | some v=>Q v H
 | none=>False
theorem cv (i:Nat){x:Str}{pos:Pos}(hN:X.N[i]?=some x:=by rfl)(hv:Vis X.env.scope x:=by first | exact y7p rfl | exact y7c (y7p rfl) | exact y7c (y7c rfl))(hd:(x==("__debug__":Str))=false:=by decide)
  (hcd:(x==("__classdict__":Str))=false:=by decide):PE X (.Name x pos) (xV i) :=
 z57 (znz hN hv hd hcd) fun σ H Q q=>by
  unfold xV at q
  split at q
  ·rename_i v e;exact⟨v,zmd e,q⟩
  ·exact q.elim
def Bd (n:Nat)(i:Int):Prop:=i.natAbs<2^n
def zq1 (x y:V)(H:Hp)(Q:VK):Prop:=match x,y with
 | .int i,.int j=>Q (.int (i+j)) H
 | .str i,.str j=>i.length+j.length≤sizeLine/\Q (.str (i++j)) H
 | .ref l,.ref b=>∃xs zs,H l=some (.lst xs)/\H b=some (.lst zs)/\xs.length+zs.length≤sizeLine/\∀p,H p=none->Q (.ref p) (upd H p (.lst (xs++zs)))
 | _,_=>False
def zpt (x y:V)(H:Hp)(Q:VK):Prop:=match x,y with
 | .int i,.int j=>Q (.int (i - j)) H
 | _,_=>False
def zpw (x y:V)(H:Hp)(Q:VK):Prop:=match x,y with
 | .int i,.int j=>IntMulOk i j/\Q (.int (i*j)) H
 | .ref l,.int k=>∃xs,H l=some (.lst xs)/\-(2^63)≤k/\k<2^63/\xs.length*k.toNat≤sizeLine/\∀p,H p=none->Q (.ref p) (upd H p (.lst (y07 k.toNat xs).flatten))
 | _,_=>False
def zpv (x y:V)(H:Hp)(Q:VK):Prop:=match x,y with
 | .int i,.int j=>0<j/\Q (.int (i % j)) H
 | _,_=>False
def zq2 (x y:V)(H:Hp)(Q:VK):Prop:=match x,y with
 | .int i,.int j=>j≠0/\j.natAbs.log2<9000/\Q (.int (i.fdiv j)) H
 | _,_=>False
def zpz (x y:V)(H:Hp)(Q:VK):Prop:=match x,y with
 | .int i,.int j=>0≤j/\(Builtin.Int.intBits i:Int)*j≤2^27/\Q (.int (i^j.toNat)) H
 | _,_=>False
theorem z3b:OpR X (binaryOp .Add) zq1:=by
 intro ao s σ H x y v u Q I rx ry h;unfold zq1 at h
 split at h
 ·exact zpg ao s σ H _ _ v u Q I rx ry ⟨_,_,rfl,rfl,h⟩
 ·exact zex ao s σ H _ _ v u Q I rx ry ⟨_,_,rfl,rfl,h.1,h.2⟩
 ·obtain⟨xs,zs,h1,h2,h3,h4⟩:=h;exact zp2 ao s σ H _ _ v u Q I rx ry ⟨_,_,xs,zs,rfl,rfl,h1,h2,h3,h4⟩
 ·exact h.elim
theorem zoy:OpR X (binaryOp .Sub) zpt:=by
 intro ao s σ H x y v u Q I rx ry h;unfold zpt at h
 split at h
 ·exact zo5 ao s σ H _ _ v u Q I rx ry ⟨_,_,rfl,rfl,h⟩
 ·exact h.elim
theorem zml:OpR X (binaryOp .Mult) (rI IntMulOk λi j=>.int (i*j)):=opI λ_ _ _ _ _ _ _ hc q=>mul_int q hc
theorem z3c:OpR X (binaryOp .Mult) zpw:=by
 intro ao s σ H x y v u Q I rx ry h;unfold zpw at h
 split at h
 ·exact zml ao s σ H _ _ v u Q I rx ry ⟨_,_,rfl,rfl,h.1,h.2⟩
 ·obtain⟨xs,h1,h2,h3,h4,h5⟩:=h;exact zo8 ao s σ H _ _ v u Q I rx ry ⟨_,_,xs,rfl,rfl,h1,h2,h3,h4,h5⟩
 ·exact h.elim
theorem z20:OpR X (binaryOp .Mod) zpv:=by
 intro ao s σ H x y v u Q I rx ry h;unfold zpv at h
 split at h
 ·exact zpo ao s σ H _ _ v u Q I rx ry ⟨_,_,rfl,rfl,h.1,h.2⟩
 ·exact h.elim
theorem zn8:OpR X (binaryOp .FloorDiv) (rI (λ_ j=>j≠0/\j.natAbs.log2<9000) λi j=>.int (i.fdiv j)):=opI λ_ _ _ _ _ _ _ hc q=>floordiv_int hc.1 q (.inl (PyProof.noPylong_of_log2 hc.2))
theorem z3q:OpR X (binaryOp .FloorDiv) zq2:=by
 intro ao s σ H x y v u Q I rx ry h;unfold zq2 at h
 split at h
 ·exact zn8 ao s σ H _ _ v u Q I rx ry ⟨_,_,rfl,rfl,⟨h.1,h.2.1⟩,h.2.2⟩
 ·exact h.elim
theorem zmi:OpR X (binaryOp .Pow) (rI (λi j=>0≤j/\(Builtin.Int.intBits i:Int)*j≤2^27) λi j=>.int (i^j.toNat)):=opI λ_ _ _ _ _ _ _ hc q=>pow_int hc.1 hc.2 q
theorem zkw:OpR X (binaryOp .Pow) zpz:=by
 intro ao s σ H x y v u Q I rx ry h;unfold zpz at h
 split at h
 ·exact zmi ao s σ H _ _ v u Q I rx ry ⟨_,_,rfl,rfl,⟨h.1,h.2.1⟩,h.2.2⟩
 ·exact h.elim
def zq0 (x:V)(H:Hp)(Q:VK):Prop:=match x with
 | .int i=>Q (.int (-i)) H
 | _=>False
theorem z8i:UnR X (unaryOp .USub) zq0:=by
 intro ao s σ H x v Q I rx h;unfold zq0 at h
 split at h
 ·exact zp0 ao s σ H _ v Q I rx ⟨_,rfl,h⟩
 ·exact h.elim
def uEq (x y:V)(H:Hp)(Q:VK):Prop:=match x,y with
 | .int i,.int j=>Q (.bl (decide (i=j))) H
 | .bl i,.bl j=>Q (.bl (decide (i=j))) H
 | .str i,.str j=>Q (.bl (decide (i=j))) H
 | x,y=>zps x y=true/\Q (.bl (decide (x=y))) H
def uNe (x y:V)(H:Hp)(Q:VK):Prop:=match x,y with
 | .int i,.int j=>Q (.bl (!decide (i=j))) H
 | .bl i,.bl j=>Q (.bl (!decide (i=j))) H
 | .str i,.str j=>Q (.bl (!decide (i=j))) H
 | x,y=>zps x y=true/\Q (.bl (!decide (x=y))) H
def uLt (x y:V)(H:Hp)(Q:VK):Prop:=match x,y with
 | .int i,.int j=>Q (.bl (decide (i<j))) H
 | _,_=>False
def uLe (x y:V)(H:Hp)(Q:VK):Prop:=match x,y with
 | .int i,.int j=>Q (.bl (decide (i≤j))) H
 | _,_=>False
def uGt (x y:V)(H:Hp)(Q:VK):Prop:=match x,y with
 | .int i,.int j=>Q (.bl (decide (j<i))) H
 | _,_=>False
def uGe (x y:V)(H:Hp)(Q:VK):Prop:=match x,y with
 | .int i,.int j=>Q (.bl (decide (j≤i))) H
 | _,_=>False
theorem z5q:OpR X (compareOp .Eq) uEq:=by
 intro ao s σ H x y v u Q I rx ry h;unfold uEq at h
 split at h
 ·rename_i i j;refine zji ao s σ H _ _ v u Q I rx ry ⟨rfl,?_⟩;have e:decide (V.int i=V.int j)=decide (i=j):=by simp
  rw[e];exact h
 ·rename_i i j;refine zji ao s σ H _ _ v u Q I rx ry ⟨rfl,?_⟩;have e:decide (V.bl i=V.bl j)=decide (i=j):=by simp
  rw[e];exact h
 ·rename_i i j;refine zji ao s σ H _ _ v u Q I rx ry ⟨rfl,?_⟩;have e:decide (V.str i=V.str j)=decide (i=j):=by simp
  rw[e];exact h
 ·exact zji ao s σ H _ _ v u Q I rx ry h
theorem zne:OpR X (compareOp .NotEq) uNe:=by
 intro ao s σ H x y v u Q I rx ry h;unfold uNe at h
 split at h
 ·rename_i i j;refine zjo ao s σ H _ _ v u Q I rx ry ⟨rfl,?_⟩;have e:decide (V.int i=V.int j)=decide (i=j):=by simp
  rw[e];exact h
 ·rename_i i j;refine zjo ao s σ H _ _ v u Q I rx ry ⟨rfl,?_⟩;have e:decide (V.bl i=V.bl j)=decide (i=j):=by simp
  rw[e];exact h
 ·rename_i i j;refine zjo ao s σ H _ _ v u Q I rx ry ⟨rfl,?_⟩;have e:decide (V.str i=V.str j)=decide (i=j):=by simp
  rw[e];exact h
 ·exact zjo ao s σ H _ _ v u Q I rx ry h
theorem z84:OpR X (compareOp .Lt) uLt:=by
 intro ao s σ H x y v u Q I rx ry h;unfold uLt at h
 split at h
 ·exact zq8 ao s σ H _ _ v u Q I rx ry ⟨_,_,rfl,rfl,h⟩
 ·exact h.elim
theorem z71:OpR X (compareOp .Gt) uGt:=by
 intro ao s σ H x y v u Q I rx ry h;unfold uGt at h
 split at h
 ·exact zqm ao s σ H _ _ v u Q I rx ry ⟨_,_,rfl,rfl,h⟩
 ·exact h.elim
theorem zn4:OpR X (compareOp .GtE) uGe:=by
 intro ao s σ H x y v u Q I rx ry h;unfold uGe at h
 split at h
 ·exact zrb ao s σ H _ _ v u Q I rx ry ⟨_,_,rfl,rfl,h⟩
 ·exact h.elim
def uIs (x y:V)(H:Hp)(Q:VK):Prop:=match y with
 | .non=>Q (.bl (decide (x = .non))) H
 | _=>False
def onB (Q:Bool->Hp->Prop)(x:V)(H:Hp):Prop:=match x with
 | .bl k=>Q k H
 | _=>False
theorem zb7 {Q:Bool->Hp->Prop}{x:V}{H:Hp}(h:onB Q x H):∃k,x = .bl k/\Q k H:=by
 unfold onB at h
 split at h
 ·exact⟨_,rfl,h⟩
 ·exact h.elim
def xT (t:TE)(σ:St)(H:Hp)(Q:Bool->Hp->Prop):Prop:=t σ H (onB Q)
theorem z2r {e:Expr}{t:TE}(h:PE X e t)(he:∀whole,isTrue e X.env whole=(do let v ←whole;standAt e.pos;holding [v] (truthy v)):=by intro _;rfl):PT X e (xT t):=by
 intro ao s σ H Q I hw;refine isTrue_plain (thn (h ao s σ H _ I hw) λv s1 hq=>?_) (he _);obtain⟨x,H1,I1,r1,q1⟩:=hq;obtain⟨d,rfl,q⟩:=zb7 q1;cases r1;exact wpAny_truthy_bool ⟨H1,I1,q⟩
variable {a b:Expr}{ta tb:TE}{pos:Pos}{rest:List Expr}
theorem z0w {op:CmpOp}{r:R2}(ho:OpR X (compareOp op) r)(ha:PE X a ta)(hb:PE X b tb)(hm:behindInMarks op b=false):PT X (.Compare a [op] [b] pos) (xT (tOp r ta tb)):=by
 intro ao s σ H Q I h;refine wpAny_isTrue_Compare1 (thn (ha ao s σ H _ I h) λv s1 h1=>?_) hm;obtain⟨x,H1,I1,r1,q1⟩:=h1;refine thn (hb ao s1 σ H1 _ I1 q1) λu s2 h2=>?_;obtain⟨y,H2,I2,r2,q2⟩:=h2;refine thn (ho ao s2 σ H2 x y v u _ I2 r1 r2 q2) λc s3 h3=>?_;obtain⟨z,H3,I3,r3,q3⟩:=h3;obtain⟨k,rfl,q⟩:=zb7 q3;cases r3;exact wpAny_truthy_bool ⟨H3,I3,q⟩
def zqu (ta tb:TE)(σ:St)(H:Hp)(Q:VK):Prop:=ta σ H (onB λc H1=>if c=true then tb σ H1 Q else Q (.bl false) H1)
def xOr (ta tb:TE)(σ:St)(H:Hp)(Q:VK):Prop:=ta σ H (onB λc H1=>if c=true then Q (.bl true) H1 else tb σ H1 Q)
def zql (ta:TE)(σ:St)(H:Hp)(Q:VK):Prop:=ta σ H (onB λc H1=>Q (.bl (!c)) H1)
theorem z8x (ha:PE X a ta)(hb:PE X (.BoolOp .And (b::rest) pos) tb):PE X (.BoolOp .And (a::b::rest) pos) (zqu ta tb):=by
 intro ao s σ H Q I h;refine BoolOp_and (thn (ha ao s σ H _ I h) λv s1 h1=>?_);obtain⟨x,H1,I1,r1,q1⟩:=h1;obtain⟨c,rfl,q⟩:=zb7 q1;cases r1;refine wpAny_truthy_bool ?_;cases c with
 | true=>exact hb ao s1 σ H1 Q I1 q
 | false=>exact⟨.bl false,H1,I1,rfl,q⟩
theorem zo6 (ha:PE X a ta)(hb:PE X (.BoolOp .Or (b::rest) pos) tb):PE X (.BoolOp .Or (a::b::rest) pos) (xOr ta tb):=by
 intro ao s σ H Q I h;refine BoolOp_or (thn (ha ao s σ H _ I h) λv s1 h1=>?_);obtain⟨x,H1,I1,r1,q1⟩:=h1;obtain⟨c,rfl,q⟩:=zb7 q1;cases r1;refine wpAny_truthy_bool ?_;cases c with
 | false=>exact hb ao s1 σ H1 Q I1 q
 | true=>exact⟨.bl true,H1,I1,rfl,q⟩
theorem zl4 (ha:PE X a ta):PE X (.UnaryOp .Not a pos) (zql ta):=by
 intro ao s σ H Q I h;refine UnaryOp_ (thn (ha ao s σ H _ I h) λv s1 h1=>?_);obtain⟨x,H1,I1,r1,q1⟩:=h1;obtain⟨c,rfl,q⟩:=zb7 q1;cases r1;exact not_of (wpAny_truthy_bool ⟨.bl (!c),H1,I1,rfl,q⟩)
def zq3 (xs:List V)(H:Hp)(Q:VK):Prop:=match xs with
 | [.int i]=>Q (.int (if i<0 then -i else i)) H
 | _=>False
theorem zbq:z4i X (.builtin "abs") zq3:=z7p zjg λxs H Q h=>by
 unfold zq3 at h
 split at h
 ·exact⟨_,rfl,h⟩
 ·exact h.elim
def zkh (xs:List V)(H:Hp)(Q:VK):Prop:=match xs with
 | [.int i,.int j]=>Q (.int (if j<i then j else i)) H
 | _=>False
theorem zma (hc:X.calm=true:=by rfl):z4i X (.builtin "min") zkh:=z7p (zg4 hc) λxs H Q h=>by
 unfold zkh at h
 split at h
 ·exact⟨_,_,rfl,h⟩
 ·exact h.elim
def zok (xs:List V)(H:Hp)(Q:VK):Prop:=match xs with
 | [.int i,.int j]=>Q (.int (if j>i then j else i)) H
 | _=>False
@[reducible] def zrt (K:y03)(xs:List V)(H:Hp)(Q:VK):Prop:=match xs with
 | [.ref p]=>∃ys,(SqL K H p ys∨SqT K H p ys)/\Q (.int ys.length) H
 | _=>False
theorem z25:z4i X (.builtin "len") (zrt X.K):=z7p zbe λxs H Q h=>by
 unfold zrt at h
 split at h
 ·obtain⟨ys,h1,h2⟩:=h;exact⟨_,ys,rfl,h1,h2⟩
 ·exact h.elim
def zrk (xs:List V)(H:Hp)(Q:VK):Prop:=match xs with
 | [.int i]=>Q (.int i) H
 | [.bl k]=>Q (.int (if k then 1 else 0)) H
 | _=>False
@[reducible] def znr (K:y03)(xs:List V)(H:Hp)(Q:VK):Prop:=match xs with
 | [.ref p]=>∃ys,(SqL K H p ys∨SqT K H p ys)/\∀l,H l=none->Q (.ref l) (upd H l (.lst ys))
 | _=>False
theorem z8b:z4i X (.type "list") (znr X.K):=z7p zbf λxs H Q h=>by
 unfold znr at h
 split at h
 ·obtain⟨ys,h1,h2⟩:=h;exact⟨_,ys,rfl,h1,h2⟩
 ·exact h.elim
def tyN (H:Hp)(x:V):Option String:=match x with
 | .non=>some "NoneType"
 | .bl _=>some "bool"
 | .int _=>some "int"
 | .str _=>some "str"
 | .ref a=>match H a with
  | some (.lst _)=>some "list"
  | some (.tup _)=>some "tuple"
  | some (.dK _)=>some "dict"
  | _=>none
 | _=>none
def isB (t c:String):Bool:=t==c||(t == "bool"&&c == "int")
def okC (c:String):Bool:=["int","bool","str","list","tuple","dict"].contains c
theorem zm4 (K:y03){t c:String}(ht:t ∈ ["NoneType","bool","int","str","list","tuple","dict"])(hc:c ∈ ["int","bool","str","list","tuple","dict"]):y7l K (.type t) (.type c)=some (isB t c):=by
 simp only[y0k,y15,or_false] at ht hc;rcases ht with rfl | rfl | rfl | rfl | rfl | rfl | rfl<;>rcases hc with rfl | rfl | rfl | rfl | rfl | rfl<;>with_unfolding_all rfl
def zjz (xs:List V)(H:Hp)(Q:VK):Prop:=match xs with
 | [x,.ty c]=>match tyN H x with
  | some t=>okC c=true/\Q (.bl (isB t c)) H
  | none=>False
 | _=>False
theorem z1y:z4i X (.builtin "isinstance") zjz:=by
 intro ao s σ H xs us Q I r h;unfold zjz at h
 split at h
 ·rename_i x c
  split at h
  ·rename_i t et;obtain⟨hc,q⟩:=h;obtain⟨u,w,rfl,rx,rc⟩:=zjd r;obtain rfl:w=Value.type c:=rc;have hc':c ∈ ["int","bool","str","list","tuple","dict"]:=y1v.mp hc;have fin:∀tk,EP X ao σ Q (.bool (isB t c)) { s with toks:=tk }:=λtk=>⟨.bl (isB t c),H,I.tok tk,rfl,q⟩
   have go:∀ty:TyOf X.K H x (.type t),t ∈ ["NoneType","bool","int","str","list","tuple","dict"]->wpAny (model X.prog X.w) X.A (call (.builtin "isinstance") [u,.type c]) (EP X ao σ Q) X.xe s:=λty ht =>
    zhf I rx ty (zm4 X.K ht hc') fin
   unfold tyN at et
   split at et
   ·cases et;exact go .non (by decide)
   ·cases et;exact go (.bl _) (by decide)
   ·cases et;exact go (.int _) (by decide)
   ·cases et;exact go (.str _) (by decide)
   ·split at et
    ·rename_i a xs e;cases et;exact go (.lst e) (by decide)
    ·rename_i a xs e;cases et;exact go (.tup e) (by decide)
    ·rename_i a kvs e;cases et;exact go (.dK e) (by decide)
    ·cases et
   ·cases et
  ·exact h.elim
 ·exact h.elim
@[reducible] def uIx (K:y03)(x y:V)(H:Hp)(Q:VK):Prop:=match x,y with
 | .ref p,.int i=>∃xs v,(SqL K H p xs∨SqT K H p xs)/\atI xs i=some v/\Q v H
 | _,_=>False
theorem z0j:IxR X (uIx X.K):=by
 intro value bJ ao s σ H x y v u Q I rx ry h hs;unfold uIx at h
 split at h
 ·obtain⟨xs,v',h1,h2,h3⟩:=h;rcases h1 with h1 | h1
  ·exact zmf value bJ ao s σ H _ _ v u Q I rx ry ⟨_,xs,_,v',rfl,rfl,h1,h2,h3⟩ hs
  ·exact zo2 value bJ ao s σ H _ _ v u Q I rx ry ⟨_,xs,_,v',rfl,rfl,h1,h2,h3⟩ hs
 ·exact h.elim
@[reducible] def uSl (K:y03)(x:V)(lo hi:Option Int)(H:Hp)(Q:VK):Prop:=match x with
 | .ref a=>∃xs,SqL K H a xs/\∀p,H p=none->Q (.ref p) (upd H p (.lst (zfs xs lo hi)))
 | _=>False
def znq (t:TE)(σ:St)(H:Hp)(Q:Option Int->Hp->Prop):Prop:=t σ H λx H1=>match x with
 | .int i=>Q (some i) H1
 | _=>False
end
structure Def (P:Program)(w:World)(K:y03)(mg:Str->Option Value)(base:Heap)(x:Str)(k:Nat)(ps:List Str)(sp:Sp):Prop where
 is:∃(f:Addr) (fd:FuncData),FnOk P w K mg base CX0 k f fd ps sp/\Binds K fd ps []/\mg x=some (.ref f)/\y0i K (.ref f)=true
structure Top (K:y03)(mg:Str->Option Value)(x:Str)(st:Stmt)(ps:List Str):Prop where
 is:∃(f:Addr) (fd:FuncData),Fun K x x st f fd/\Binds K fd ps []/\mg x=some (.ref f)
section
variable {X:Cx}{x:Str}{k:Nat}{ps:List Str}{sp:Sp}{e:Expr}{es:List Expr}{t:TA}{p pos:Pos}
def zlr (sp:Sp)(t:TA)(σ:St)(H:Hp)(Q:VK):Prop:=t σ H λvs H1=>sp vs H1 Q E0
theorem z0e (D:Def X.prog X.w X.K X.mg X.base x k ps sp)(hr:Room k X.A)(ha:PA X (e::es) t)(hg:Gl X x:=by rfl)(hdb:(x==("__debug__":Str))=false:=by decide)
  (he:starEach (e::es) X.env=(false,eval e X.env)::starEach es X.env:=by rfl) (hpl:(backTo pos (starEach es X.env)).any (·.1)=false:=by rfl):PE X (.Call (.Name x p) (e::es) [] pos) (zlr sp t):=by
 intro ao s σ H Q I h;obtain⟨f,fd,F,hb,hm,hk⟩:=D.is;refine wpAny_Call_Name_kw (zg0 I hg hm ?_ hdb);refine y53 (h₀:=X.base) I.ok.mod.kin hk (thn (ha pos ao s σ H _ I h) λus s1 h1=>?_) he hpl;obtain⟨vs,H1,I1,r,q⟩:=h1;exact⟨I1.kIn,zgs (dvs:=[]) F hr hb .nil zj9 I1 r (by rw[y2s];exact q)⟩
variable {P:Program}{w:World}{K:y03}{mg:Str->Option Value}{base:Heap}{N:List Str}{st:Stmt}
theorem z1h (T:Top K mg x st ps)(S:FnScope N ps (z05 st))(len:∀vs H Q E,sp vs H Q E->vs.length=ps.length)
  (body:∀(f:Addr) (cdv:Value) (A:Around) (outer:List Env) (s:Shared) (H:Hp) (vs:List V) (Q:VK) (E:XK),Room k (A.deeper (envOfC x (z05 st) s.heap.objs.size f cdv))->sp vs H Q E ->
   ∃t,PSs (ziu CX0 P w K mg base N x (z05 st) f cdv A outer s H E).nox (z0c st) t/\t { nx:=λ_ H'=>Q .non H',rt:=Q } (start N vs) H):Def P w K mg base x (k+1) ps sp:=by
 obtain⟨f,fd,F,hb,hm⟩:=T.is;exact⟨f,fd,F.ok S len λcdv A outer s H vs Q E hr h=>body f cdv A outer s H vs Q E hr h,hb,hm,F.kp⟩
theorem rd {t:TS}{D:Ends}{σ σ':St}{H:Hp}(e:σ = σ')(h:t D σ' H):t D σ H:=e▸h
end
end L2.EX
namespace L2.EX
open PySem PySem.Spec PyProof.Rows
def zcm (J:It)(g:TG)(tb:TS)(D:Ends)(σ:St)(H:Hp):Prop:=∃W:Nat->Nat->St->Hp->Prop,(∃m,W 0 m σ H)/\∀i m σ H,W i m σ H ->
 (J.stop i H/\D.nx σ H)∨(J.go i H/\∃N:St->Hp->Prop,(∀ σ' H',N σ' H'->∃m',m'<m/\W (i+1) m' σ' H')/\∀x H',J.yld i H x H'->g x σ H' fun σ2 H2=>tb { D with nx:=N,ct:=N,bk:=D.nx } σ2 H2)
def zr8 (wi:TI)(g:TG)(tb:TS)(D:Ends)(σ:St)(H:Hp):Prop:=wi σ H λJ H1=>zcm J g tb D σ H1
def zov (c:TT)(tb:TS)(D:Ends)(σ:St)(H:Hp):Prop:=∃(Pv:St->Hp->Prop) (μ:St->Hp->Nat),Pv σ H/\∀ σ H,Pv σ H ->
 c σ H λb H1=>if b=true then tb { D with nx:=fun σ' H'=>Pv σ' H'/\μ σ' H' < μ σ H,ct:=fun σ' H'=>Pv σ' H'/\μ σ' H' < μ σ H,bk:=D.nx } σ H1 else D.nx σ H1
def Itp (lo st:Int)(n:Nat):It:=⟨λi _=>i<n,λi H x H'=>H'=H/\x = .int (lo+i*st),λi _=>n≤i⟩
def zpn (lo hi st:Int):Nat:=(Builtin.Range.rangeSize lo hi st).toNat
def zqh (K:y03)(tl:TE)(σ:St)(H:Hp)(R:It->Hp->Prop):Prop:=tl σ H λx H1=>match x with
 | .ref a=>((∃xs,SqL K H1 a xs)/\R (Itl K a) H1)∨((∃xs,SqT K H1 a xs)/\R (Itt K a) H1)
 | _=>False
def xR1 (ta:TA)(σ:St)(H:Hp)(R:It->Hp->Prop):Prop:=ta σ H λvs H1=>match vs with
 | [.int j]=>(-(2^62)≤j/\j<2^62)/\R (Itr 0 j.toNat) H1
 | _=>False
def xR2 (ta:TA)(σ:St)(H:Hp)(R:It->Hp->Prop):Prop:=ta σ H λvs H1=>match vs with
 | [.int i,.int j]=>(-(2^62)≤i/\i<2^62/\-(2^62)≤j/\j<2^62)/\R (Itr i (j - i).toNat) H1
 | _=>False
def xR3 (ta:TA)(σ:St)(H:Hp)(R:It->Hp->Prop):Prop:=ta σ H λvs H1=>match vs with
 | [.int i,.int j,.int c]=>((-(2^61)≤i/\i<2^61/\-(2^61)≤j/\j<2^61)/\0<c/\c<2^20)/\R (Itp i c (zpn i j c)) H1
 | _=>False
section
variable {X:Cx}{tg:Expr}
theorem z1u {iter:Expr}{body:List Stmt}{wi:TI}{g:TG}{tb:TS}{pos:Pos}(hi:PI X tg iter wi)(hg:PG X tg g)(hb:PSs X body tb)(hp:PassesOwn (model X.prog X.w) X.A X.env X.xe:=by exact PassesOwn.never)(hc:X.calm=true:=by rfl)
  (hs:∀x,foldedSetIterable iter X.env x=pure x:=by intro _;rfl):PS X (.For tg iter body [] pos) (zr8 wi g tb):=zpq hp hc hi hg hb hs
theorem ze1 {c:Expr}{body:List Stmt}{tc:TT}{tb:TS}{pos:Pos}(hc:PT X c tc)(hb:PSs X body tb)(hp:PassesOwn (model X.prog X.w) X.A X.env X.xe:=by exact PassesOwn.never):PS X (.While c body [] pos) (zov tc tb):=by
 intro ao s σ H D I h;obtain⟨Pv,μ,p0,turn⟩:=h;refine wpAny_While (codeAny_whileLoop (λn s'=>∃ σ' H',Inv X ao σ' H' s'/\Pv σ' H'/\n = μ σ' H') ?_ (μ σ H) ⟨σ,H,I,p0,rfl⟩);rintro n s1 ⟨σ1,H1,I1,w1,rfl⟩;refine wpAny_passesOwn hp (thn (hc ao s1 σ1 H1 _ I1 (turn σ1 H1 w1)) λb s2 h2=>?_);obtain⟨H2,I2,q2⟩:=h2;cases b with
 | true =>
  rw[if_pos rfl] at q2 ⊢
  refine wpAny_passesOwn hp (thn (hb ao s2 σ1 H2 _ I2 q2) λf s3 q3=>?_);cases f with
  | next =>
   obtain⟨σ3,H3,I3,n3,l3⟩:=q3;exact⟨_,l3,σ3,H3,I3,n3,rfl⟩
  | cont =>
   obtain⟨σ3,H3,I3,n3,l3⟩:=q3;exact⟨_,l3,σ3,H3,I3,n3,rfl⟩
  | brk=>exact q3
  | ret v=>exact q3
 | false =>
  rw[if_neg y0z] at q2 ⊢
  exact wpAny_execs_nil ⟨σ1,H2,I2,q2⟩
theorem z1o {l:Expr}{tl:TE}(hl:PE X l tl):PI X tg l (zqh X.K tl):=by
 intro ao s σ H R I h;refine thn (hl ao s σ H _ I h) λv s1 h1=>?_;obtain⟨x,H1,I1,r1,q1⟩:=h1
 split at q1
 ·rename_i a;cases r1;rcases q1 with ⟨⟨xs,hq⟩,q⟩ | ⟨⟨xs,hq⟩,q⟩
  ·obtain⟨its,rv,p,hz⟩:=I1.list hq;refine wpAny_pyIter_list p.isList ?_;refine⟨s1.heap.objs.size,[s1.heap.objs.size],_,_,H1,rfl,I1.kept (t':=s1.toks) λb o e=>Heap.get?_push_of_some _ e,zhm a _,⟨_,Heap.get?_push_size _ rfl,rfl,rfl⟩,λb hb=>?_,q⟩;have e:b=s1.heap.objs.size:=by simpa using hb
   subst e;exact I1.fpOk (y0b _) (I1.hok.fresh (y0b _))
  ·obtain⟨its,rv,p,hz⟩:=I1.tuple hq;refine wpAny_pyIter_tuple (show s1.heap.IsTuple a its.toArray from p) ?_
   refine⟨s1.heap.objs.size,[s1.heap.objs.size],_,_,H1,rfl,I1.kept (t':=s1.toks) λb o e=>Heap.get?_push_of_some _ e,zf4 a _,⟨_,Heap.get?_push_size _ rfl,rfl,rfl⟩,λb hb=>?_,q⟩;have e:b=s1.heap.objs.size:=by simpa using hb
   subst e;exact I1.fpOk (y0b _) (I1.hok.fresh (y0b _))
 ·exact q1.elim
theorem zhp {a:Expr}{ta:TA}{p pos:Pos}(hm:X.mg "range"=none)(ha:PA X [a] ta)(hg:Gl X "range":=by rfl)(hs:starEach [a] X.env = [(false,eval a X.env)]:=by rfl):PI X tg (.Call (.Name "range" p) [a] [] pos) (xR1 ta):=by
 intro ao s σ H R I h;refine Call_ (z51 I hg hm boot_range (y1n (thn (ha pos ao s σ H _ I h) λus s1 h1=>?_) hs rfl));obtain⟨vs,H1,I1,r1,q1⟩:=h1
 split at q1
 ·obtain⟨u,rfl,t,rfl⟩:=z7l r1;obtain⟨⟨q1,q2⟩,q⟩:=q1;exact call_range_1 (zjr I1 (by lia) (by lia) q1 q2 (by simpa using q))
 ·exact q1.elim
theorem zkj {lo hi c:Int}(hc:0<c):0≤Builtin.Range.rangeSize lo hi c/\Builtin.Range.rangeSize lo hi c≤(hi - lo).toNat/\(∀i:Nat,(i:Int)<Builtin.Range.rangeSize lo hi c->lo+i*c<hi):=by
 unfold Builtin.Range.rangeSize;rw[if_pos hc]
 split
 ·rename_i h;have q0:0≤(hi - lo - 1) / c:=y5w (by lia) (by lia)
  have q1:(hi - lo - 1) / c≤hi - lo - 1:=y76 _ (by lia)
  have q2:(hi - lo - 1) / c*c≤hi - lo - 1:=Int.ediv_mul_le _ (by lia)
  refine⟨by lia,by lia,λi hi'=>?_⟩
  have q3:(i:Int)*c≤(hi - lo - 1) / c*c:=y26 (by lia) (by lia)
  lia
 ·exact⟨by lia,by lia,λi hi'=>by lia⟩
theorem zje {a b c:Int}(ha:-(2^61)≤a)(ha':a<2^61)(hb:-(2^61)≤b)(hb':b<2^61)(hc:0<c)(hc':c<2^20):Builtin.Range.small a b c=true:=by
 obtain⟨h1,h2,_⟩:=zkj (lo:=a) (hi:=b) hc;unfold Builtin.Range.small;simp only[Builtin.Range.rangeFitsLong,y1b,y5x,decide_eq_true_eq,beq_iff_eq,if_pos (show c>0 from hc)]
 refine⟨⟨⟨⟨by lia,by lia⟩,by lia,by lia⟩,by lia⟩,.inr ⟨by lia,by lia⟩⟩
end
section
variable {K:y03}{g:TG}{tb:TS}{D:Ends}{σ:St}{H:Hp}
theorem z2t {a:Addr}{xs:List V}(Pv:Nat->St->Hp->Prop)(h0:Pv 0 σ H)(hl:∀i σ H,i≤xs.length->Pv i σ H->SqL K H a xs)
  (hs:∀i x σ H,xs[i]?=some x->Pv i σ H->g x σ H fun σ2 H2=>tb { D with nx:=Pv (i+1),ct:=Pv (i+1),bk:=D.nx } σ2 H2) (hd:∀ σ H,Pv xs.length σ H->D.nx σ H):zcm (Itl K a) g tb D σ H:=zjl Pv h0 hl hs hd
theorem zl1 {a:Addr}{xs:List V}(Pv:Nat->St->Hp->Prop)(h0:Pv 0 σ H)(hl:∀i σ H,i≤xs.length->Pv i σ H->SqT K H a xs)
  (hs:∀i x σ H,xs[i]?=some x->Pv i σ H->g x σ H fun σ2 H2=>tb { D with nx:=Pv (i+1),ct:=Pv (i+1),bk:=D.nx } σ2 H2) (hd:∀ σ H,Pv xs.length σ H->D.nx σ H):zcm (Itt K a) g tb D σ H:=zlt Pv h0 hl hs hd
theorem za0 {lo:Int}{n:Nat}(Pv:Nat->St->Hp->Prop)(h0:Pv 0 σ H)
  (hs:∀i σ H,i<n->Pv i σ H->g (.int (lo+i)) σ H fun σ2 H2=>tb { D with nx:=Pv (i+1),ct:=Pv (i+1),bk:=D.nx } σ2 H2) (hd:∀ σ H,Pv n σ H->D.nx σ H):zcm (Itr lo n) g tb D σ H:=zht Pv h0 hs hd
end
section
variable {X:Cx}{pos:Pos}
def xT2 (K:y03)(i j:Nat)(v:V)(σ:St)(H:Hp)(Q:St->Hp->Prop):Prop:=match v with
 | .ref a=>∃x y,SqT K H a [x,y]/\Q ((σ.set i (some x)).set j (some y)) H
 | _=>False
def xT3 (K:y03)(i j k:Nat)(v:V)(σ:St)(H:Hp)(Q:St->Hp->Prop):Prop:=match v with
 | .ref a=>∃x y z,SqT K H a [x,y,z]/\Q (((σ.set i (some x)).set j (some y)).set k (some z)) H
 | _=>False
theorem z0b (i:Nat){x:Str}(hN:X.N.Nodup)(hi:X.N[i]?=some x:=by rfl)(hx:Loc X.env.scope x:=by first | exact y7p rfl | exact y7c rfl)(hf:X.fn x=true∨X.env.scope.names.lookup x=some .local:=by first | exact .inl rfl | exact .inr rfl):PG X (.Name x pos) (z4x i):=zns hN hi hx hf
theorem z74 {x y:Str}{px py:Pos}{kt:Nat}{i j:Nat}(h1:PG X (.Name x px) (z4x i))(h2:PG X (.Name y py) (z4x j))(hc:X.calm=true:=by rfl):PG X (.Tuple [.Name x px,.Name y py] kt pos) (xT2 X.K i j) :=
 zld (zkz hc (z66 h1 (z66 h2 zg1))) λv σ H Q h=>by
  unfold xT2 at h
  split at h
  ·obtain⟨u,w,h1,h2⟩:=h;exact⟨_,_,rfl,h1,rfl,_,_,rfl,_,_,rfl,rfl,h2⟩
  ·exact h.elim
theorem zp8 {x y z:Str}{px py pz:Pos}{kt:Nat}{i j k:Nat}(h1:PG X (.Name x px) (z4x i))(h2:PG X (.Name y py) (z4x j))(h3:PG X (.Name z pz) (z4x k))(hc:X.calm=true:=by rfl):PG X (.Tuple [.Name x px,.Name y py,.Name z pz] kt pos) (xT3 X.K i j k) :=
 zld (zkz hc (z66 h1 (z66 h2 (z66 h3 zg1)))) λv σ H Q h=>by
  unfold xT3 at h
  split at h
  ·obtain⟨u,w,r,h1,h2⟩:=h;exact⟨_,_,rfl,h1,rfl,_,_,rfl,_,_,rfl,_,_,rfl,rfl,h2⟩
  ·exact h.elim
theorem z0d (i:Nat){x:Str}{e:Expr}{te:TE}{b9:Pos}(hN:X.N.Nodup)(he:PE X e te)(hi:X.N[i]?=some x:=by rfl)(hx:Loc X.env.scope x:=by first | exact y7p rfl | exact y7c rfl)(hs:swapsWith e (some (.Name x b9)) pos.line X.env=pure false:=by rfl)
  (hf:X.fn x=true∨X.env.scope.names.lookup x=some .local:=by first | exact .inl rfl | exact .inr rfl):PS X (.Assign [.Name x b9] e pos) (zm2 te (z4x i)):=zpc hN hi hx he hs hf
def zqo (i j:Nat)(ta:TA)(D:Ends)(σ:St)(H:Hp):Prop:=ta σ H λvs H1=>match vs with
 | [v,w]=>D.nx ((σ.set i (some v)).set j (some w)) H1
 | _=>False
end
end L2.EX
namespace L2.EX
open PySem PySem.Spec PyProof.Rows
theorem zc2:bootBuiltins "abs"=some (.builtin "abs"):=by decide +kernel
theorem zl6:bootBuiltins "min"=some (.builtin "min"):=by decide +kernel
theorem zpa:bootBuiltins "sum"=some (.builtin "sum"):=by decide +kernel
theorem zlk:bootBuiltins "any"=some (.builtin "any"):=by decide +kernel
theorem z1w:bootBuiltins "isinstance"=some (.builtin "isinstance"):=by decide +kernel
theorem zl9:bootBuiltins "int"=some (.type "int"):=by decide +kernel
theorem zhs:bootBuiltins "bool"=some (.type "bool"):=by decide +kernel
theorem z4z:bootBuiltins "list"=some (.type "list"):=by decide +kernel
theorem zju:bootBuiltins "tuple"=some (.type "tuple"):=by decide +kernel
theorem zlx:bootBuiltins "dict"=some (.type "dict"):=by decide +kernel
theorem zbh:bootBuiltins "enumerate"=some (.type "enumerate"):=by decide +kernel
theorem zln:bootBuiltins "zip"=some (.type "zip"):=by decide +kernel
section
variable {X:Cx}{x:Str}{p pos:Pos}{e:Expr}{es:List Expr}{t:TA}{id T:String}{r:List V->Hp->VK->Prop}
theorem z43 (hc:z4i X (.builtin id) r)(hm:X.mg x=none)(hv:bootBuiltins x=some (.builtin id))(ha:PA X (e::es) t)(hg:Gl X x:=by rfl)(hn:x ≠ "__name__":=by decide)(hdb:(x==("__debug__":Str))=false:=by decide)
  (he:starEach (e::es) X.env=(false,eval e X.env)::starEach es X.env:=by rfl) (hpl:(backTo pos (starEach es X.env)).any (·.1)=false:=by rfl):PE X (.Call (.Name x p) (e::es) [] pos) (tCB r t):=zk7 hc hg hm hv ha hn hdb he hpl
theorem znv (hc:z4i X (.type T) r)(hm:X.mg x=none)(hv:bootBuiltins x=some (.type T))(ha:PA X (e::es) t)(hg:Gl X x:=by rfl)(hn:x ≠ "__name__":=by decide)(hdb:(x==("__debug__":Str))=false:=by decide)
  (he:starEach (e::es) X.env=(false,eval e X.env)::starEach es X.env:=by rfl) (hpl:(backTo pos (starEach es X.env)).any (·.1)=false:=by rfl):PE X (.Call (.Name x p) (e::es) [] pos) (tCB r t):=zgw hc hg hm hv ha hn hdb he hpl
theorem zcj (hm:X.mg x=none)(hv:bootBuiltins x=some (.type T))(hg:Gl X x:=by rfl)(hn:x ≠ "__name__":=by decide)(hd:(x==("__debug__":Str))=false:=by decide):PE X (.Name x pos) (tC (.ty T)):=zno hg hm hv rfl hn hd
theorem z6s {es:List Expr}{t:TA}(h:PA X es t):PA X es (fun σ H Q=>∃R,t σ H R/\∀vs H1,R vs H1->Q vs H1):=by
 intro pos ao s σ H Q I hw;obtain⟨R,h1,h2⟩:=hw;refine thn (h pos ao s σ H R I h1) λus s1 hq=>?_;obtain⟨vs,H1,I1,r,q⟩:=hq;exact⟨vs,H1,I1,r,h2 _ _ q⟩
theorem z1p {e:Expr}{t:TE}(h:PE X e t):PE X e (fun σ H Q=>∃R,t σ H R/\∀v H1,R v H1->Q v H1):=by
 intro ao s σ H Q I hw;obtain⟨R,h1,h2⟩:=hw;refine thn (h ao s σ H R I h1) λus s1 hq=>?_;obtain⟨v,H1,I1,r,q⟩:=hq;exact⟨v,H1,I1,r,h2 _ _ q⟩
theorem zow (i j:Nat){y:Str}{a b:Expr}{ta:TA}{px py pt:Pos}{kt k2 pt2}(hN:X.N.Nodup)(ha:PA X [a,b] ta)(hi:X.N[i]?=some x:=by rfl)(hj:X.N[j]?=some y:=by rfl)(hij:i≠j:=by decide)
  (hx:X.env.scope.names.lookup x=some .local:=by rfl) (hy:X.env.scope.names.lookup y=some .local:=by rfl)
  (hw:swappedStores [.Tuple [.Name x px,.Name y py] kt pt] (.Tuple [a,b] k2 pt2) X.env=pure (some [x,y]):=by with_unfolding_all rfl)
  (hs:swapsWithSole [.Tuple [.Name x px,.Name y py] kt pt] (.Tuple [a,b] k2 pt2) pos.line X.env=pure false:=by rfl) (hc:X.calm=true:=by rfl) :
  PS X (.Assign [.Tuple [.Name x px,.Name y py] kt pt] (.Tuple [a,b] k2 pt2) pos) (zqo i j ta) :=
 zlc (zoo hc hN hi hj hij hx hy (z6s ha) hw hs) λD σ H h=>⟨_,h,λvs H1 q=>by
  split at q
  ·exact⟨_,_,rfl,q⟩
  ·exact q.elim⟩
end
theorem z9a {i j:Int}{m n:Nat}(hi:Bd m i)(hj:Bd n j)(h:m+n≤134217728):IntMulOk i j:=IntMulOk.of_le (intBits_le_iff.mpr hi) (intBits_le_iff.mpr hj) h
theorem zo3 {j:Int}{n:Nat}(h:Bd n j)(hn:n≤9000)(h0:j≠0):j.natAbs.log2<9000:=by
 have h1:j.natAbs<2^n:=h;have h2:j.natAbs.log2<n:=(Nat.log2_lt (by lia)).mpr h1
 lia
theorem Bd.le {i:Int}{m n:Nat}(h:Bd m i)(k:m≤n):Bd n i:=y0r h (y4o (by decide) k)
theorem sz {n:Nat}(h:n≤1000):n≤sizeLine:=y3w (z0i h)
def zf3 (K:y03):Sp:=λvs H Q _=>∃(a:Addr) (ns:List Int),vs = [.ref a]/\SqL K H a (ns.map V.int)/\ns.length≤63/\∀H',Q (.bl true) H'
theorem z1g {K:y03}{mg:Str->Option Value}{h:Heap}{x:Str}{st:Stmt}{ps:List Str}{f:Addr}{oc:Value}{od an:Option Addr}{osl:Array (Option Value)}{kV doc pm cdv ct:Value}(X:K.In h)(G:h.Ns mainGlobals mg)
  (a:y0o K mainGlobals x=some (some (.ref f))) (l:K.lookup f=some ⟨oc,od,.func (y0n x x (z0f st) (z0c st) (z05 st) .none kV doc pm an cdv ct),osl⟩)
  (c:y0j K cdv x=true) (k:y0i K (.ref f)=true)
  (b:∀(kV doc pm:Value) (an:Option Addr) (cdv ct:Value) (us:List Value),us.length=ps.length->bindArgs (y0n x x (z0f st) (z0c st) (z05 st) .none kV doc pm an cdv ct) ⟨us,[]⟩=pure (ps.zip us)):Top K mg x st ps :=
 ⟨f,_,z1n l c k,(z1n l c k).binds b,y6g X G a⟩
theorem zot {l:y4v}{w:World}{K:y03}{mg:Str->Option Value}{h:Heap}{st:Stmt}{fa f:Addr}{k:Nat}{oc:Value}{od an:Option Addr}{osl:Array (Option Value)}{kV doc pm cdv ct:Value}(X:K.In h)(G:h.Ns mainGlobals mg)
  (hfa:mg "law"=some (.ref fa)) (a:y0o K mainGlobals "law"=some (some (.ref f))) (lk:K.lookup f=some ⟨oc,od,.func (y0n "law" "law" (z0f st) (z0c st) (z05 st) .none kV doc pm an cdv ct),osl⟩)
  (c:y0j K cdv "law"=true) (kp:y0i K (.ref f)=true)
  (b:∀(s:Shared) (v:Value),BindsTo s (y0n "law" "law" (z0f st) (z0c st) (z05 st) .none kV doc pm an cdv ct) ⟨[v],[]⟩ [("_law_script",v)])
  (D:∀(f:Addr) (fd:FuncData),Fun K "law" "law" st f fd->∀base:Heap,FnOk l.prog w K mg base CX0 k f fd ["_law_script"] (zf3 K)) :
  ∃fd:FuncData,(∀(s:Shared) (v:Value),BindsTo s fd ⟨[v],[]⟩ [("_law_script",v)])/\∀base:Heap,K.In base->base.Ns mainGlobals mg->FnOk l.prog w K mg base CX0 k fa fd ["_law_script"] (zf3 K):=by
 have e:=hfa.symm.trans (y6g X G a);cases e;exact⟨_,b,λbase _ _=>D _ _ (z1n lk c kp) base⟩
theorem walk {l:y4v}{q:Program}{cy:List Str}{XP:(Str->Option Value)->Heap->Prop}{YP:World->Heap->Prop}{d:DefRec}{K:Params->y03}(k:Nat)(hn:l.most=some 63)(hdf:d.params.defaults = [])(hr:Room k callerA)
  (hY:∀(w:World) (h:Heap),YP w h->(K w.params).In h)
  (F:∀(w:World) (mg:Str->Option Value) (fa:Addr) (h:Heap),(K w.params).In h->h.Ns mainGlobals mg->mg d.name=some (.ref fa) ->
   ∃fd:FuncData,(∀(s:Shared) (u:Value),BindsTo s fd ⟨[u],[]⟩ [("_law_script",u)])/\∀base:Heap,(K w.params).In base->base.Ns mainGlobals mg->FnOk l.prog w (K w.params) mg base CX0 k fa fd ["_law_script"] (zf3 (K w.params))) :
  y7r q cy XP YP l.row.toRowW d [] (λf vs=>y7o f vs) :=
 L2.walk_of (n:=63) (k:=k) (x:="_law_script") (CX:=λ_=>CX0) (sp:=λw=>zf3 (K w.params)) hn (by decide) hdf hr hY F (λ_ _ a ns hl _ hS=>⟨a,ns,rfl,hS,hl,λ_=>rfl⟩) λ_ _ _ _ _ z=>z
end L2.EX
namespace L2.EX
open PySem PySem.Spec PyProof.Rows
theorem zig {env:Env}:∀(ns:List (Str×NameKind)) (acc:List (Str×Addr)),(∀y∈ns,y.2 = .free->∃c,env.cells.lookup y.1=some c)->(∀x c,acc.lookup x=some c->env.cells.lookup x=some c) ->
  ∃cl:List (Str×Addr),(forIn ns acc (λ(x:Str×NameKind) (r:List (Str×Addr))=>match x with | (name,kind)=>if (kind==NameKind.free)=true then do let c ←cellOf env name;pure (ForInStep.yield ((name,c)::r)) else pure (ForInStep.yield r)):Sem (List (Str×Addr)))=pure cl /\
   (∀x c,cl.lookup x=some c->env.cells.lookup x=some c)/\(∀x c,acc.lookup x=some c->∃c',cl.lookup x=some c')/\∀y∈ns,y.2 = .free->∃c,cl.lookup y.1=some c
 | [],acc,_,h2=>⟨acc,rfl,h2,λx c e=>⟨c,e⟩,λy hy=>nomatch hy⟩
 | (n,k)::r,acc,h1,h2=>by
  have h1':∀y∈r,y.2 = .free->∃c,env.cells.lookup y.1=some c:=λy hy=>h1 y (y0a _ hy)
  by_cases hk:k = .free
  ·subst hk;obtain⟨c,hc⟩:=h1 (n,.free) y0d rfl;have hc':env.cells.lookup n=some c:=hc;have h2':∀x d,((n,c)::acc).lookup x=some d->env.cells.lookup x=some d:=λx d e=>by
    rw[y1m] at e;cases hx:x==n with
    | true =>
     rw[hx] at e;cases e;rw[beq_iff_eq.mp hx];exact hc'
    | false =>
     rw[hx] at e;exact h2 x d e
   obtain⟨cl,e,a,b,d⟩:=zig r ((n,c)::acc) h1' h2';have kp:∀x c',acc.lookup x=some c'->∃c'',((n,c)::acc).lookup x=some c'':=λx c' q=>by
    rw[y1m];cases hx:x==n with
    | true=>exact⟨c,rfl⟩
    | false=>exact⟨c',q⟩
   refine⟨cl,?_,a,λx c' q=>let ⟨c'',q'⟩:=kp x c' q;b x c'' q',λy hy hf=>?_⟩
   ·rw[y5y];have ec:cellOf env n=pure c:=by unfold cellOf;rw[hc']
    simp only[beq_self_eq_true,if_true,ec,pure_bind];exact e
   ·rcases y0k.mp hy with rfl | hy
    ·exact b n c (by rw[y1m];simp)
    ·exact d y hy hf
  ·have hb:(k==NameKind.free)=false:=by simpa using hk
   obtain⟨cl,e,a,b,d⟩:=zig r acc h1' h2;refine⟨cl,?_,a,b,λy hy hf=>?_⟩
   ·rw[y5y];simp only[hb,y27,if_false,pure_bind];exact e
   ·rcases y0k.mp hy with rfl | hy
    ·exact absurd hf hk
    ·exact d y hy hf
theorem zez {scope:Scope}{env:Env}(h:∀y∈scope.names,y.2 = .free->∃c,env.cells.lookup y.1=some c) :
  ∃cl,closureFor scope env=pure cl/\(∀x c,cl.lookup x=some c->env.cells.lookup x=some c)/\∀y∈scope.names,y.2 = .free->∃c,cl.lookup y.1=some c:=by
 obtain⟨cl,e,a,_,d⟩:=zig scope.names [] h (λx c e=>by simp at e)
 refine⟨cl,?_,a,d⟩;unfold closureFor;exact(congrArg (· >>= pure) e).trans (pure_bind _ _)
section
variable {prog:Program}{w:World}{A:Around}{R:Result->Shared->Prop}{s:Shared}
abbrev NoE:Value->Shared->Prop:=λ_ _=>False
theorem zgk {elt ce iter:Expr}{ifs:List Expr}{scope:Scope}{pos:Pos}{it acc:Value}{env:Env}(J:Nat->Shared->Prop)
  (turn:∀n s,J n s->wpAny (model prog w) A (pyNext it) (λr s₁=>match r with
   | none=>R (.ok .next) s₁
   | some v=>wpAny (model prog w) A (letOwnedTupleGo ce it v) (λ_ s₂=>wpAny (model prog w) A (assign ce env v) (λ_ s₃ =>
     wpAny (model prog w) A (forIn ifs true λc r=>if r=true then do let ok ←isTrue c env (eval c env);pure (ForInStep.yield ok) else pure (ForInStep.yield r)) (λok s₄ =>
      if ok=true then wpAny (model prog w) A (eval elt env) (λx s₅=>wpAny (model prog w) A (call (.builtin "list.append") [acc,x]) (λ_ s₆=>∃m,m<n/\J m s₆) NoE s₅) NoE s₄
      else ∃m,m<n/\J m s₄) NoE s₃) NoE s₂) NoE s₁) NoE s)
  (n:Nat) (h:J n s):codeAny (model prog w) A (.compLoop (.ListComp elt [⟨ce,iter,ifs,0⟩] scope pos) 0 it acc env) R s:=by
 refine codeAny_loop rfl J (λn s hJ=>?_) n h;refine wpAny_noted (m:=compTurn (.ListComp elt [⟨ce,iter,ifs,0⟩] scope pos) 0 it acc env) ?_;rw[compTurn_list];refine wpAny_bind (wpAny_standAt (wpAny_bind (wpAny_mono (turn n s hJ) (λr s₁ h₁=>?_) λ_ _ z=>z.elim)));cases r with
 | none=>exact wpAny_pure h₁
 | some v =>
  refine wpAny_bind (wpAny_mono h₁ (λ_ s₂ h₂=>?_) λ_ _ z=>z.elim);refine wpAny_bind (wpAny_mono h₂ (λ_ s₃ h₃=>?_) λ_ _ z=>z.elim);refine wpAny_bind (wpAny_mono h₃ (λok s₄ h₄=>?_) λ_ _ z=>z.elim);cases ok with
  | false=>exact wpAny_pure ⟨rfl,h₄⟩
  | true =>
   refine wpAny_bind (wpAny_bind (wpAny_mono h₄ (λx s₅ h₅=>?_) λ_ _ z=>z.elim));exact wpAny_bind (wpAny_mono h₅ (λ_ s₆ h₆=>wpAny_pure (wpAny_pure ⟨rfl,h₆⟩)) λ_ _ z=>z.elim)
end
theorem z76 {env:Env}{x:Str}{k':NameKind}:∀{names:List (Str×NameKind)},(names.map λ(n,k)=>if (k==NameKind.free&&env.scope.kind == .function&&env.kindOf n==some .cell) then (n,NameKind.cell) else (n,k)).lookup x=some k' ->
  ∃k,names.lookup x=some k/\(k'=k∨(k = .free/\k' = .cell))
 | [],h=>nomatch h
 | (n,k)::r,h=>by
  have ih:=@z76 env x k' r;rw[y0l] at h;cases hx:x==n with
  | true =>
   refine⟨k,by simp[y1m,hx],?_⟩
   by_cases hc:(k==NameKind.free&&env.scope.kind == .function&&env.kindOf n==some .cell)=true
   ·have h':some NameKind.cell=some k':=by simpa [hc,y1m,hx] using h
    rw[y1b,y1b] at hc;exact .inr ⟨beq_iff_eq.mp hc.1.1,(y12 h').symm⟩
   ·have h':some k=some k':=by simpa [hc,y1m,hx] using h
    exact .inl (y12 h').symm
  | false =>
   have h':(r.map λ(n,k)=>if (k==NameKind.free&&env.scope.kind == .function&&env.kindOf n==some .cell) then (n,NameKind.cell) else (n,k)).lookup x=some k':=by
    by_cases hc:(k==NameKind.free&&env.scope.kind == .function&&env.kindOf n==some .cell)=true
    ·simpa [hc,y1m,hx] using h
    ·simpa [hc,y1m,hx] using h
   obtain⟨k1,e1,e2⟩:=ih h';exact⟨k1,by simp[y1m,hx,e1],e2⟩
theorem zaq {env:Env}{x:Str}{names:List (Str×NameKind)}(h:names.lookup x=some .free) :
  (names.map λ(n,k)=>if (k==NameKind.free&&env.scope.kind == .function&&env.kindOf n==some .cell) then (n,NameKind.cell) else (n,k)).lookup x=some .cell ∨
  (names.map λ(n,k)=>if (k==NameKind.free&&env.scope.kind == .function&&env.kindOf n==some .cell) then (n,NameKind.cell) else (n,k)).lookup x=some .free:=by
 induction names with
 | nil=>exact nomatch h
 | cons p r ih =>
  obtain⟨n,k⟩:=p;rw[y0l];cases hx:x==n with
  | true =>
   have hk:k = .free:=by simpa [y1m,hx] using h
   subst hk;have go:∀c:Bool,(((if c=true then (n,NameKind.cell) else (n,NameKind.free))::(r.map λ(n,k)=>if (k==NameKind.free&&env.scope.kind == .function&&env.kindOf n==some .cell) then (n,NameKind.cell) else (n,k))).lookup x=some .cell) ∨
     (((if c=true then (n,NameKind.cell) else (n,NameKind.free))::(r.map λ(n,k)=>if (k==NameKind.free&&env.scope.kind == .function&&env.kindOf n==some .cell) then (n,NameKind.cell) else (n,k))).lookup x=some .free):=λc=>by
    cases c
    ·right;simp[y1m,hx]
    ·left;simp[y1m,hx]
   exact go _
  | false =>
   have ih':=ih (by simpa [y1m,hx] using h)
   by_cases hc:(k==NameKind.free&&env.scope.kind == .function&&env.kindOf n==some .cell)=true
   ·simpa [hc,y1m,hx] using ih'
   ·simpa [hc,y1m,hx] using ih'
structure CC where
 cl:List (Str×Addr)
 C:Addr
 s:Shared
 H:Hp
 ex:List Addr
def z0u (X:Cx)(scope:Scope)(N:List Str)(c:CC):Cx where
 prog:=X.prog
 w:=X.w
 K:=X.K
 mg:=X.mg
 base:=X.base
 A:=X.A
 N:=N
 s₀:=c.s
 H₀:=c.H
 env:=compEnvC scope c.cl c.C X.env
 outer:=X.stack
 stack:=X.stack
 ex:=c.ex
 fn:=λ_=>false
 calm:=X.calm
 pn:=[]
 xe:=λ_ _=>False
def z6n (J:It)(g:TG)(tt:TT)(te:TE)(σ0:St)(Q:VK)(H:Hp):Prop:=∃W:Nat->Nat->List V->Hp->Prop,(∃m,W 0 m [] H)/\∀i m ys H,W i m ys H ->
 (J.stop i H/\ys.length≤sizeLine/\∀l,H l=none->Q (.ref l) (upd H l (.lst ys))) ∨
 (J.go i H/\ys.length<sizeLine/\∀x H',J.yld i H x H'->g x σ0 H' fun σ2 H2=>tt σ2 H2 λb H3=>if b=true then te σ2 H3 λy H4=>∃m',m'<m/\W (i+1) m' (ys ++ [y]) H4 else ∃m',m'<m/\W (i+1) m' ys H3)
def zb1 (wi:TI)(n:Nat)(fr:List Nat)(g:TG)(tt:TT)(te:TE)(σ:St)(H:Hp)(Q:VK):Prop:=wi σ H λJ H1=>z6n J g tt te (y07 n none++fr.map (sg σ)) Q H1
def FreeIn (env:Env):List Str->Prop
 | []=>True
 | x::r=>(env.kindOf x=some .cell∨env.kindOf x=some .free)/\FreeIn env r
theorem FreeIn.mem {env:Env}{x:Str}:∀{l:List Str},FreeIn env l->x∈l->env.kindOf x=some .cell∨env.kindOf x=some .free
 | _::_,h,hx=>by
  rcases y0k.mp hx with rfl | hx
  ·exact h.1
  ·exact FreeIn.mem h.2 hx
theorem zp7 {X:Cx}{ao:List (Addr×Obj)}{σ:St}{H:Hp}{s:Shared}{l:Addr}{o:HO}(I:Inv X ao σ H s)(hn:H l=none)(h1:X.s₀.heap.objs.size≤l)(hL:l≠X.env.locals)(h2:∀x c,X.env.cells.lookup x=some c->c≠l)(h3:∀p∈X.pn++ao,p.1≠l)
  (new:ObjOk X.prog X.w (upd H l o) s.heap l o):Inv X ao σ (upd H l o) s:=by
 have old:∀b u,H b=some u->upd H l o b=some u:=λb u e=>by rw[z0a (z08 e hn)];exact e
 refine⟨I.ok,I.os,I.bare,⟨I.base.keep,I.base.slot,λb o' e n hx=>?_,I.base.there,λb xs e=>old b _ (I.base.tups b xs e),λb o' u e=>old b _ (I.base.frzs b o' u e),λb ps e=>?_⟩,I.loc,I.cell,?_,λx c e=>?_,λp hp=>?_,λb u e=>?_,I.len⟩
 ·rw[z0a (y0p (y0r (Heap.lt_size e) h1))];exact I.base.free b o' e n hx
 ·obtain⟨more,q⟩:=I.base.tbls b ps e;exact⟨more,old b _ q⟩
 ·rw[z0a (Ne.symm hL)];exact I.free
 ·rw[z0a (h2 x c e)];exact I.freeC x c e
 ·obtain⟨e,n,r⟩:=I.pin p hp;exact⟨e,by rw[z0a (h3 p hp)];exact n,r⟩
 ·by_cases hb:b=l
  ·subst hb;rw[z01] at e;cases e;exact new
  ·rw[z0a hb] at e;exact(I.hok b u e).stay (λ_ _ _ q=>q) (λc q=>old c _ q) λc xs q=>old c _ q
def GOk (n:Nat)(g:TG):Prop:=∀x σ H Q,g x σ H Q->g x σ H fun σ2 H2=>(∀i,n≤i->σ2[i]? = σ[i]?)/\Q σ2 H2
theorem za3 {n i:Nat}(h:i<n):GOk n (z4x i):=λx σ H Q q=>⟨λj hj=>y13 (by lia),q⟩
theorem zgb {n i j:Nat}{K:y03}(h1:i<n)(h2:j<n):GOk n (xT2 K i j):=λx σ H Q q=>by
 unfold xT2 at q ⊢
 split at q
 ·obtain⟨u,v,q1,q2⟩:=q;exact⟨u,v,q1,λk hk=>by rw[y13 (by lia),y13 (by lia)],q2⟩
 ·exact q.elim
section
variable {X:Cx}
theorem zj6 {scope:Scope}{N:List Str}{fr:List Nat}{n:Nat}{cl:List (Str×Addr)}{ao:List (Addr×Obj)}{σ:St}{H:Hp}{s:Shared}{C:Addr}{h₁:Heap}{m:Str->Option Value}{fp:List Addr}{tk:Nat}
  (I:Inv X ao σ H s) (hf:∀b∈fp,zha X ao H b) (hfl:∀b∈fp,b<s.heap.objs.size) (hC:s.heap.objs.size≤C) (old:∀b o,s.heap.get? b=some o->h₁.get? b=some o) (hns:h₁.Ns C m)
  (hn:N.length=n+fr.length) (hfr:fr.map (λi=>X.N[i]?)=(N.drop n).map some) (hsc:∀x∈N.drop n,scope.names.lookup x=some .free)
  (bm:scope.kind = .function) (bo:∀y∈scope.names,y.2 ≠ .cell) (hF:FreeIn X.env ((scope.names.filter λy=>y.2 == .free).map (·.1)))
  (cl1:∀x c,cl.lookup x=some c->X.env.cells.lookup x=some c) (cl2:∀y∈scope.names,y.2 = .free->∃c,cl.lookup y.1=some c) :
  Inv (z0u X scope N ⟨cl,C,s,H,fp⟩) (X.pn++ao) (y07 n none++fr.map (sg σ)) H { s with heap:=h₁,toks:=tk }:=by
 have freeAt:∀x,scope.names.lookup x=some .free->X.env.kindOf x=some .cell∨X.env.kindOf x=some .free:=λx e =>
  hF.mem (y1i.mpr ⟨(x,.free),y18.mpr ⟨y24 e,rfl⟩,rfl⟩)
 have kinds:∀x,((relabel scope X.env).names.lookup x=some .cell∨(relabel scope X.env).names.lookup x=some .free)->scope.names.lookup x=some .free:=λx hx=>by
  rcases hx with hx | hx
  ·obtain⟨k,e,z⟩:=z76 (env:=X.env) hx;rcases z with z | ⟨z,_⟩
   ·subst z;exact absurd rfl (bo _ (y24 e))
   ·subst z;exact e
  ·obtain⟨k,e,z⟩:=z76 (env:=X.env) hx;rcases z with z | ⟨z,z'⟩
   ·subst z;exact e
   ·cases z'
 have fsX:∀b,b≠X.env.locals->b ∉ X.fs->b ∉ frs X.stack:=λb h1 h2 z=>(y0k.mp (I.stkSub b z)).elim h1 h2;refine⟨⟨I.ok.mod,bm,I.ok.glob,I.ok.blt,hC,λx y c h1 h2=>I.ok.inj x y c (cl1 x c h1) (cl1 y c h2),λx hx=>?_,λx c hx=>absurd hx (by simp[z0u]),I.ok.hd,I.ok.frames,.inl rfl,λb hb=>⟨?_,λx c e=>(hf b hb).2.2.2.2.1 x c (cl1 x c e)⟩,I.bs,y17 I.ok.bsz I.sz,λb o e hb=>?_,λb hb=>fsX b (hf b hb).2.1 (hf b hb).2.2.1,I.stack,I.stkFree⟩,
  rfl,I.bare,Un.kept old,⟨m,hns,λi x v e1 e2 e3=>?_⟩,λx c e=>?_,I.hok.fresh hC,λx c e=>I.freeC x c (cl1 x c e),λp hp=>?_,I.hok.kept old,?_⟩
 ·obtain⟨c,e⟩:=cl2 (x,.free) (y24 (kinds x hx)) rfl;exact⟨c,e⟩
 ·exact y0p (y0r (hfl b hb) hC)
 ·rcases (hf b hb).2.2.2.1 with z | z
  ·exact I.ok.noex b o e z
  ·exact absurd (y0r (Heap.lt_size e) (y17 I.ok.bsz z)) (y2y _)
 ·-- a slot of the block's frame that is known: one of the free names
  have hi:n≤i:=by
   rcases y3x i n with z | z
   ·rw[y0s (by simpa using z),y1f,if_pos z] at e2
    cases e2
   ·exact z
  rw[y10 (by simpa using hi),y1k,y06] at e2
  obtain⟨j,ej,e2'⟩:=y46.mp e2;have ex:X.N[j]?=some x:=by
   have q:=congrArg (λl=>l[i - n]?) hfr;simp only[y06,ej,y7d,y54] at q;have e1':N[n+(i - n)]?=some x:=by rw[show n+(i - n)=i by lia];exact e1
   rw[e1'] at q;simpa using q
  have hx:scope.names.lookup x=some .free:=hsc x (by
   have e1':N[n+(i - n)]?=some x:=by rw[show n+(i - n)=i by lia];exact e1
   rw[←y54] at e1';exact y02 e1')
  obtain⟨m',_,hl⟩:=I.loc;have hv:Vis X.env.scope x:=by
   rcases freeAt x hx with z | z
   ·exact .inr (.inl z)
   ·exact .inr (.inr z)
  obtain⟨u,r,lk⟩:=hl j x v ex (zmd e2') hv;refine⟨u,r,.inr ⟨?_,?_⟩⟩
  ·rcases zaq (env:=X.env) hx with z | z
   ·exact .inl z
   ·exact .inr z
  ·obtain⟨c,ec⟩:=cl2 (x,.free) (y24 hx) rfl;rcases lk with ⟨z,_⟩ | ⟨_,c',ec',o,ho,hd⟩
   ·rcases freeAt x hx with y | y
    ·rw[y] at z;cases z
    ·rw[y] at z;cases z
   ·have q:=cl1 x c ec;rw[ec'] at q;cases q;exact⟨c,ec,o,old _ _ ho,hd⟩
 ·obtain⟨v,o,ho,hd⟩:=I.cell x c (cl1 x c e);exact⟨v,o,old _ _ ho,hd⟩
 ·have hp':p∈X.pn++ao:=by simpa [z0u] using hp
  obtain⟨e,z,ne,nf,d⟩:=I.pin p hp';exact⟨old _ _ e,z,y0p (y0r (Heap.lt_size e) hC),fsX _ ne nf,d⟩
 ·show _=N.length;rw[y0e,y1k,y04,hn]
end
end L2.EX
namespace L2.EX
open PySem PySem.Spec PyProof.Rows
section
variable {X:Cx}
theorem zbp {elt tg iter:Expr}{ifs:List Expr}{scope:Scope}{pos pos1:Pos}{N:List Str}{fr:List Nat}{wi:TI}{g:TG}{tt:TT}{te:TE}{use:Option (Value->Sem Unit)}{QQ:Value->Shared->Prop}{ao:List (Addr×Obj)}{σ:St}{H:Hp}{s:Shared}{Q:VK}(n:Nat)
  (I:Inv X ao σ H s) (h:zb1 wi n fr g tt te σ H Q)
  (hend:∀(s6:Shared) (H6:Hp) (l C:Addr) (oC:Obj) (mC:Str->Option Value),Inv X ao σ H6 s6->Q (.ref l) H6->s6.heap.get? C=some oC->LCg.NsObj oC mC->zha X ao H6 C->compPost (model X.prog X.w) X.A X.xe use QQ (.ref l) C (.ok .next) s6)
  (hi:PI X tg iter wi) (hg:∀c:CC,PG (z0u X scope N c) tg g) (hgk:GOk n g)
  (ht:∀(c:CC) (ao:List (Addr×Obj)) (s:Shared) (σ:St) (H:Hp) (Q:Bool->Hp->Prop),Inv (z0u X scope N c) ao σ H s->tt σ H Q ->
   wpAny (model X.prog X.w) X.A (forIn ifs true λc' r=>if r=true then do let ok ←isTrue c' (compEnvC scope c.cl c.C X.env) (eval c' (compEnvC scope c.cl c.C X.env));pure (ForInStep.yield ok) else pure (ForInStep.yield r)) (TP (z0u X scope N c) ao σ Q) NoE s)
  (he:∀c:CC,PE (z0u X scope N c) elt te) (hn:N.length=n+fr.length)
  (hfr:fr.map (λi=>X.N[i]?)=(N.drop n).map some) (hsc:∀x∈N.drop n,scope.names.lookup x=some .free)
  (hF:FreeIn X.env ((scope.names.filter λy=>y.2 == .free).map (·.1)))
  (bm:scope.kind = .function) (bo:∀y∈scope.names,y.2 ≠ .cell) (bA:∀y∈scope.names,y.2 = .local->scope.names.lookup y.1=some .local) (bK:X.calm=true)
  (hs:∀x,foldedSetIterable iter X.env x=pure x):wpAny (model X.prog X.w) X.A (comprehension (.ListComp elt [⟨tg,iter,ifs,0⟩] scope pos) scope X.env pos1 (newList []) false (eval iter X.env) use) QQ X.xe s:=by
 have hcl0:∀y∈scope.names,y.2 = .free->∃c,X.env.cells.lookup y.1=some c:=λy hy hf=>I.ok.has y.1 (hF.mem (y1i.mpr ⟨y,y18.mpr ⟨hy,by rw[hf];rfl⟩,rfl⟩))
 obtain⟨cl,ecl,cl1,cl2⟩:=zez hcl0;refine wpAny_comprehension_free (use:=use) rfl hs ecl bm bA (thn (hi ao s σ H _ I h) λv s1 h1=>thn h1 λitv s2 h2=>?_);obtain⟨it,fp,tn,J,H2,rfl,I2,T,st2,f2,W,⟨m0,w0⟩,turn⟩:=h2;have hfl:∀b∈fp,b<s2.heap.objs.size:=λb hb=>let ⟨o,e,_⟩:=T.obj _ _ st2 b hb;Heap.lt_size e
 refine wpAny_newObj_type (wpAny_newFunctionEnv bo (by intro y hy;simp at hy) (λh₁ hns₁ hsb₁=>?_) bm)
 dsimp only at hns₁ hsb₁ ⊢
 generalize hH2:s2.heap.push { cls:=.type "list",dict:=none,data:=.seq ([]:List Value).toArray }=HA at hns₁ hsb₁ ⊢
 have hC:HA.objs.size=s2.heap.objs.size+1:=by rw[←hH2,Heap.size_push]
 have hlC:s2.heap.objs.size≠HA.objs.size:=by rw[hC];exact y0p (y2x _)
 have hCle:s2.heap.objs.size≤HA.objs.size:=by rw[hC];exact y4b _
 have old:∀b o,s2.heap.get? b=some o->h₁.get? b=some o:=λb o e =>
  hsb₁.extBut b o (by rw[hC];exact y0p (y2p (Heap.lt_size e))) (Heap.get?_push_of_some _ (hH2▸Heap.get?_push_of_some _ e))
 have hacc:h₁.PlainList s2.heap.objs.size #[]:=⟨_,hsb₁.extBut _ _ hlC (Heap.get?_push_of_some _ (hH2▸Heap.get?_push_size _ rfl))⟩;generalize hl:s2.heap.objs.size=l at hacc hlC;generalize hCe:HA.objs.size=C at hns₁ hsb₁ hlC hCle;have hCl:s2.heap.objs.size≤C:=hCle
 have hll:s2.heap.objs.size≤l:=y71 hl
 let cc:CC:=⟨cl,C,s2,H2,fp⟩
 let σ0:St:=y07 n none++fr.map (sg σ)
 have I3:Inv (z0u X scope N cc) (X.pn++ao) σ0 H2 { s2 with heap:=h₁,toks:=s2.toks+([]:List (Str×Value)).length }:=zj6 I2 f2 hfl hCl old hns₁ hn hfr hsc bm bo hF cl1 cl2
 have lfp:l ∉ fp:=λz=>absurd (hfl l z) (y7q.mpr hll);have lpin:∀p∈X.pn++ao,p.1≠l:=λp hp=>by
  rw[←hl];exact y0p (Heap.lt_size (I2.pin p hp).1)
 have lcell:∀x c,cl.lookup x=some c->c≠l:=λx c e=>by
  obtain⟨v,q⟩:=I2.cell x c (cl1 x c e);rw[←hl];exact y0p q.lt
 have lfs:l ∉ frs X.stack:=λz=>by
  rcases y0k.mp (I2.stkSub l z) with z | z
  ·rw[z] at hll;exact absurd I2.lt (y7q.mpr hll)
  ·exact I2.nofs hll z
 have fsX:∀b∈fp,b ∉ frs X.stack:=λb hb z=>(y0k.mp (I2.stkSub b z)).elim (f2 b hb).2.1 (f2 b hb).2.2.1;have stat:∀{H':Hp} {more:List (Addr×Obj)},(∀b∈fp,H' b=none)->(∀p∈more,p.1=l)->∀b∈fp,zha (z0u X scope N cc) (X.pn++ao++more) H' b:=λ{H' more} hz hm b hb =>
  ⟨hz b hb,y0p (y0r (hfl b hb) hCl),fsX b hb,.inl hb,λx c e=>(f2 b hb).2.2.2.2.1 x c (cl1 x c e),λp hp=>by
   have hp':p∈X.pn++ao∨p∈more:=by simpa [z0u,y32,or_assoc] using hp
   rcases hp' with z | z
   ·exact(f2 b hb).2.2.2.2.2 p z
   ·rw[hm p z];exact λq=>lfp (q▸hb)⟩
 have pinL:∀{H':Hp} {s':Shared} {σ':St} {o:Obj},Inv (z0u X scope N cc) (X.pn++ao) σ' H' s'->s'.heap.get? l=some o->(∀v,o.data ≠ .cell v)->H' l=none->Inv (z0u X scope N cc) (X.pn++ao ++ [(l,o)]) σ' H' s':=λ{H' s' σ' o} I' e d hz =>
  I'.pins_of λp hp=>(y0y.mp hp).elim (λz=>I'.pin p (y14 _ z)) λz=>by
   have q:p=(l,o):=y09.mp z;subst q;exact⟨e,hz,hlC,lfs,d⟩
 have loop:∀s₃:Shared,s₃ = { s2 with heap:=h₁,toks:=s2.toks+([]:List (Str×Value)).length } ->
   codeAny (model X.prog X.w) X.A (.compLoop (.ListComp elt [⟨tg,iter,ifs,0⟩] scope pos) 0 (.ref it) (.ref l) (compEnvC scope cl C X.env)) (compPost (model X.prog X.w) X.A X.xe use QQ (.ref l) C) s₃:=by
  rintro s₃ rfl;refine zgk (λm s'=>∃i ys H',Inv (z0u X scope N cc) (X.pn++ao) σ0 H' s'/\tn i s'.heap/\(∀b∈fp,H' b=none)/\W i m ys H'/\(∃its:List Value,Vals ys its/\s'.heap.PlainList l its.toArray)/\H' l=none) ?_ m0
   ⟨0,[],H2,I3,T.keep _ _ _ st2 λb hb o e=>old b o e,λb hb=>(f2 b hb).1,w0,⟨[],.nil,hacc⟩,by rw[←hl];exact I2.hok.fresh (y0b _)⟩
  rintro m s5 ⟨i,ys,H5,I5,st5,fr5,w5,⟨its,rv,n5,hpl⟩,hl5⟩;have I5':=pinL I5 hpl (λv z=>by cases z) hl5
  have f5:=stat (more:=[(l,({ cls:=.type "list",data:=.seq its.toArray n5 }:Obj))]) fr5 (λp hp=>congrArg Prod.fst (y09.mp hp));rcases turn i m ys H5 w5 with ⟨stop,hz,q⟩ | ⟨go,hz,step⟩
  ·refine thn (T.done (z0u X scope N cc) rfl rfl rfl bK i _ s5 σ0 H5 NoE I5' f5 st5 stop) λr s6 hq=>?_;obtain⟨rfl,I6⟩:=hq;have e6:s6.heap.get? l=some ({ cls:=.type "list",data:=.seq its.toArray n5 }:Obj):=(I6.pin (l,({ cls:=.type "list",data:=.seq its.toArray n5 }:Obj)) (y14 _ (y14 _ (y09.mpr rfl)))).1;obtain⟨mC,hnC,_⟩:=I6.loc;have IA:Inv X ao σ H5 s6:=I2.call' (ch:=fp) I6.os I6.base I6.hok I6.bare λb hb=>⟨(f2 b hb).2.2.2.1,(f2 b hb).2.1,(f2 b hb).2.2.2.2.1,(f2 b hb).2.2.2.2.2⟩
   have cl':∀x c,X.env.cells.lookup x=some c->c≠l:=λx c e=>by
    obtain⟨v,z⟩:=I2.cell x c e;rw[←hl];exact y0p z.lt
   have IB:Inv X ao σ (upd H5 l (.lst ys)) s6:=zp7 IA hl5 (by rw[←hl];exact I2.sz) (by rw[←hl];exact y36 I2.lt) cl' lpin ⟨hz,its,n5,rv,e6⟩
   obtain⟨oC,eC,nC⟩:=LCg.ns_obj hnC;refine hend s6 _ l C oC mC IB (q l hl5) eC nC (I2.fpOk hCl ?_);rw[z0a (Ne.symm hlC)];exact I6.free
  ·refine thn (T.item (z0u X scope N cc) rfl rfl rfl bK i _ s5 σ0 H5 NoE I5' f5 st5 go) λr s6 hq=>?_;obtain⟨u,rfl,hq⟩:=hq;refine thn hq λ_ s7 hq7=>?_;obtain⟨x,H7,I7,r7,y7,st7,fr7⟩:=hq7;have I7':=I7.pinned (stat (more:=[(l,({ cls:=.type "list",data:=.seq its.toArray n5 }:Obj))]) fr7 (λp hp=>congrArg Prod.fst (y09.mp hp))) (T.obj _ _ st7);refine thn (hg cc _ s7 σ0 H7 x u _ I7' r7 (hgk x σ0 H7 _ (step x H7 y7))) λ_ s8 hq8=>?_;obtain⟨σ8,H8,I8,k8,q8⟩:=hq8;have back:∀{H':Hp} {s':Shared},Inv (z0u X scope N cc) (X.pn++ao ++ [(l,({ cls:=.type "list",data:=.seq its.toArray n5 }:Obj))]++zb4 fp s7.heap) σ8 H' s'->Inv (z0u X scope N cc) (X.pn++ao) σ0 H' s'/\tn (i+1) s'.heap/\(∀b∈fp,H' b=none)/\s'.heap.get? l=some ({ cls:=.type "list",data:=.seq its.toArray n5 }:Obj)/\H' l=none:=λ{H' s'} I'=>by
    have pf:∀b∈fp,∀o,s7.heap.get? b=some o->s'.heap.get? b=some o/\H' b=none:=λb hb o e =>
     let z:=I'.pin (b,o) (y14 _ (y14 _ (z6w hb e)))
     ⟨z.1,z.2.1⟩
    have pl:=I'.pin (l,({ cls:=.type "list",data:=.seq its.toArray n5 }:Obj)) (y14 _ (y3a _ (y14 _ (y09.mpr rfl))));refine⟨(I'.unpinned.unpinned).weak ?_ ?_,T.keep _ _ _ st7 λb hb o e=>(pf b hb o e).1,λb hb=>?_,pl.1,pl.2.1⟩
    ·rw[I3.len,I'.len]
    ·intro j v ej;have hj:n≤j:=by
      rcases y3x j n with z | z
      ·have ej':(y07 n none++fr.map (sg σ))[j]?=some (some v):=ej;rw[y0s (by simpa using z),y1f,if_pos z] at ej'
       cases ej'
      ·exact z
     rw[k8 j hj];exact ej
    ·obtain⟨o,e,_⟩:=T.obj _ _ st7 b hb;exact(pf b hb o e).2
   refine thn (ht cc _ s8 σ8 H8 _ I8 q8) λok s9 hq9=>?_;obtain⟨H9,I9,q9⟩:=hq9;cases ok with
   | false =>
    obtain⟨m',hm,w9⟩:=q9;obtain⟨b1,b2,b3,b4,b5⟩:=back I9;exact⟨m',hm,i+1,ys,H9,b1,b2,b3,w9,⟨its,rv,n5,b4⟩,b5⟩
   | true =>
    refine thn (he cc _ s9 σ8 H9 _ I9 q9) λy sA hqA=>?_;obtain⟨yv,HA',IA,rA,m',hm,wA⟩:=hqA;obtain⟨b1,b2,b3,b4,b5⟩:=back IA;refine wpAny_list_append_plain (items:=its.toArray) ⟨n5,b4⟩ (λh' hp' hsb=>?_) (by have:=rv.length;rw[y0h];lia)
    refine⟨m',hm,i+1,ys ++ [yv],HA',b1.turned (t':=sA.toks) (it:=l) (λb o hb e=>hsb.extBut b o hb e) b5 hlC (.inr hll) lcell (λp hp=>lpin p (by simpa [z0u] using hp)),?_,b3,wA,⟨its ++ [y],rv.append (.cons rA .nil),by simpa using hp'⟩,b5⟩
    exact T.keep _ _ _ b2 λb hb o e=>hsb.extBut b o (λz=>lfp (z▸hb)) e
 exact codeAny_compStart_list (loop _ rfl) (T.self _ 0 _ _ _ (T.keep _ _ _ st2 λb hb o e=>old b o e) (loop _ rfl))
theorem ze4 {elt tg iter:Expr}{ifs:List Expr}{scope:Scope}{pos:Pos}{N:List Str}{fr:List Nat}{wi:TI}{g:TG}{tt:TT}{te:TE}(n:Nat)
  (hi:PI X tg iter wi) (hg:∀c:CC,PG (z0u X scope N c) tg g) (hgk:GOk n g)
  (ht:∀(c:CC) (ao:List (Addr×Obj)) (s:Shared) (σ:St) (H:Hp) (Q:Bool->Hp->Prop),Inv (z0u X scope N c) ao σ H s->tt σ H Q ->
   wpAny (model X.prog X.w) X.A (forIn ifs true λc' r=>if r=true then do let ok ←isTrue c' (compEnvC scope c.cl c.C X.env) (eval c' (compEnvC scope c.cl c.C X.env));pure (ForInStep.yield ok) else pure (ForInStep.yield r)) (TP (z0u X scope N c) ao σ Q) NoE s)
  (he:∀c:CC,PE (z0u X scope N c) elt te) (hn:N.length=n+fr.length)
  (hfr:fr.map (λi=>X.N[i]?)=(N.drop n).map some) (hsc:∀x∈N.drop n,scope.names.lookup x=some .free)
  (hF:FreeIn X.env ((scope.names.filter λy=>y.2 == .free).map (·.1)))
  (bm:scope.kind = .function) (bo:∀y∈scope.names,y.2 ≠ .cell) (bA:∀y∈scope.names,y.2 = .local->scope.names.lookup y.1=some .local) (bK:X.calm=true)
  (hs:∀x,foldedSetIterable iter X.env x=pure x):PE X (.ListComp elt [⟨tg,iter,ifs,0⟩] scope pos) (zb1 wi n fr g tt te):=by
 intro ao s σ H Q I h;rw[eval_ListComp];refine zbp (use:=none) n I h (λs6 H6 l C oC mC I6 q eC nC fC=>?_) hi hg hgk ht he hn hfr hsc hF bm bo bA bK hs;refine⟨mC,nC.ns eC,λh' hsb=>⟨.ref l,H6,?_,rfl,q⟩⟩;exact I6.turned (t':=s6.toks) (it:=C) (λb o hb e=>hsb.extBut b o hb e) fC.1 fC.2.1 fC.2.2.2.1 fC.2.2.2.2.1 fC.2.2.2.2.2
theorem zjx {elt tg iter:Expr}{ifs:List Expr}{scope:Scope}{pos spos py:Pos}{y:Str}{i:Nat}{N:List Str}{fr:List Nat}{wi:TI}{g:TG}{tt:TT}{te:TE}(n:Nat)
  (hN:X.N.Nodup) (hy:X.N[i]?=some y) (hly:X.env.scope.names.lookup y=some .local) (hsw:swapsWith (.ListComp elt [⟨tg,iter,ifs,0⟩] scope pos) (some (.Name y py)) spos.line X.env=pure true)
  (hi:PI X tg iter wi) (hg:∀c:CC,PG (z0u X scope N c) tg g) (hgk:GOk n g)
  (ht:∀(c:CC) (ao:List (Addr×Obj)) (s:Shared) (σ:St) (H:Hp) (Q:Bool->Hp->Prop),Inv (z0u X scope N c) ao σ H s->tt σ H Q ->
   wpAny (model X.prog X.w) X.A (forIn ifs true λc' r=>if r=true then do let ok ←isTrue c' (compEnvC scope c.cl c.C X.env) (eval c' (compEnvC scope c.cl c.C X.env));pure (ForInStep.yield ok) else pure (ForInStep.yield r)) (TP (z0u X scope N c) ao σ Q) NoE s)
  (he:∀c:CC,PE (z0u X scope N c) elt te) (hn:N.length=n+fr.length)
  (hfr:fr.map (λi=>X.N[i]?)=(N.drop n).map some) (hsc:∀x∈N.drop n,scope.names.lookup x=some .free)
  (hF:FreeIn X.env ((scope.names.filter λy=>y.2 == .free).map (·.1)))
  (bm:scope.kind = .function) (bo:∀y∈scope.names,y.2 ≠ .cell) (bA:∀y∈scope.names,y.2 = .local->scope.names.lookup y.1=some .local) (bK:X.calm=true)
  (hs:∀x,foldedSetIterable iter X.env x=pure x):PS X (.Assign [.Name y py] (.ListComp elt [⟨tg,iter,ifs,0⟩] scope pos) spos) (zm2 (zb1 wi n fr g tt te) (z4x i)):=by
 intro ao s σ H D I h;rw[exec_Assign_Name_used _ _ _ _ hsw];refine wpAny_bind (wpAny_standAt (wpAny_bind ?_));show wpAny _ X.A (do let _ ←comprehension (.ListComp elt [⟨tg,iter,ifs,0⟩] scope pos) scope X.env _ (newList []) false (eval iter X.env) (some (assign (.Name y py) X.env))) _ _ s
 refine wpAny_bind (thn (zbp (QQ:=λ_ s'=>SP X ao D .next s') (use:=some (assign (.Name y py) X.env)) n I h (λs6 H6 l C oC mC I6 q eC nC fC=>?_) hi hg hgk ht he hn hfr hsc hF bm bo bA bK hs) λ_ s' hq=>wpAny_pure (wpAny_pure hq))
 show wpAny _ X.A (assign (.Name y py) X.env (.ref l)) _ _ s6;have dC:∀v,oC.data ≠ .cell v:=λv z=>by
  obtain⟨es,ep,hd,_⟩:=nC;rw[hd] at z;cases z
 have I7:Inv X (ao ++ [(C,oC)]) σ H6 s6:=I6.pins_of λp hp=>(y0y.mp hp).elim (λz=>I6.pin p (y14 _ z)) λz=>by
  have e:p=(C,oC):=y09.mp z;subst e;exact⟨eC,fC.1,fC.2.1,fC.2.2.1,dC⟩
 refine wpAny_assign_Name (z62 I7 hN hy (.inl hly) (v:=.ref l) rfl (λs7 I8=>?_) (.inr hly));have e8:s7.heap.get? C=some oC:=(I8.pin (C,oC) (y14 _ (y14 _ (y09.mpr rfl)))).1;refine⟨mC,nC.ns e8,λh' hsb=>⟨_,H6,?_,q⟩⟩;exact I8.unpinned.turned (t':=s7.toks) (it:=C) (λb o hb e=>hsb.extBut b o hb e) fC.1 fC.2.1 fC.2.2.2.1 fC.2.2.2.2.1 fC.2.2.2.2.2
def zlg:TT:=λ_ H Q=>Q true H
theorem z3s {elt tg iter:Expr}{scope:Scope}{pos:Pos}{N:List Str}{fr:List Nat}{wi:TI}{g:TG}{te:TE}(n:Nat)
  (hi:PI X tg iter wi) (hg:∀c:CC,N.Nodup->PG (z0u X scope N c) tg g) (he:∀c:CC,N.Nodup->PE (z0u X scope N c) elt te)
  (hN:N.Nodup:=by decide +kernel) (hgk:GOk n g:=by first | exact za3 (by decide) | exact zgb (by decide) (by decide) | exact gok_t3 (by decide) (by decide) (by decide)) (hn:N.length=n+fr.length:=by rfl)
  (hfr:fr.map (λi=>X.N[i]?)=(N.drop n).map some:=by rfl) (hsc:∀x∈N.drop n,scope.names.lookup x=some .free:=by decide +kernel)
  (hF:FreeIn X.env ((scope.names.filter λy=>y.2 == .free).map (·.1)):=by repeat (first | exact True.intro | refine y5z (y7p rfl) ?_ | refine y5z (y7c rfl) ?_))
  (bm:scope.kind = .function:=by rfl) (bo:∀y∈scope.names,y.2 ≠ .cell:=by decide +kernel) (bA:∀y∈scope.names,y.2 = .local->scope.names.lookup y.1=some .local:=by decide +kernel) (bK:X.calm=true:=by rfl)
  (hs:∀x,foldedSetIterable iter X.env x=pure x:=by intro _;rfl):PE X (.ListComp elt [⟨tg,iter,[],0⟩] scope pos) (zb1 wi n fr g zlg te) :=
 ze4 n hi (λc=>hg c hN) hgk (λc ao s σ H Q I q=>wpAny_tests_nil ⟨H,I,q⟩) (λc=>he c hN) hn hfr hsc hF bm bo bA bK hs
theorem z6a {elt tg iter c:Expr}{scope:Scope}{pos:Pos}{N:List Str}{fr:List Nat}{wi:TI}{g:TG}{tt:TT}{te:TE}(n:Nat)
  (hi:PI X tg iter wi) (hg:∀c:CC,N.Nodup->PG (z0u X scope N c) tg g) (ht:∀cc:CC,N.Nodup->PT (z0u X scope N cc) c tt) (he:∀c:CC,N.Nodup->PE (z0u X scope N c) elt te)
  (hN:N.Nodup:=by decide +kernel) (hgk:GOk n g:=by first | exact za3 (by decide) | exact zgb (by decide) (by decide) | exact gok_t3 (by decide) (by decide) (by decide)) (hn:N.length=n+fr.length:=by rfl)
  (hfr:fr.map (λi=>X.N[i]?)=(N.drop n).map some:=by rfl) (hsc:∀x∈N.drop n,scope.names.lookup x=some .free:=by decide +kernel)
  (hF:FreeIn X.env ((scope.names.filter λy=>y.2 == .free).map (·.1)):=by repeat (first | exact True.intro | refine y5z (y7p rfl) ?_ | refine y5z (y7c rfl) ?_))
  (bm:scope.kind = .function:=by rfl) (bo:∀y∈scope.names,y.2 ≠ .cell:=by decide +kernel) (bA:∀y∈scope.names,y.2 = .local->scope.names.lookup y.1=some .local:=by decide +kernel) (bK:X.calm=true:=by rfl)
  (hs:∀x,foldedSetIterable iter X.env x=pure x:=by intro _;rfl):PE X (.ListComp elt [⟨tg,iter,[c],0⟩] scope pos) (zb1 wi n fr g tt te) :=
 ze4 n hi (λc=>hg c hN) hgk (λcc ao s σ H Q I q=>wpAny_tests_one (ht cc hN ao s σ H Q I q)) (λc=>he c hN) hn hfr hsc hF bm bo bA bK hs
theorem zaj (i:Nat){elt tg iter:Expr}{scope:Scope}{pos spos py:Pos}{y:Str}{N:List Str}{fr:List Nat}{wi:TI}{g:TG}{te:TE}(n:Nat)(hNX:X.N.Nodup)
  (hi:PI X tg iter wi) (hg:∀c:CC,N.Nodup->PG (z0u X scope N c) tg g) (he:∀c:CC,N.Nodup->PE (z0u X scope N c) elt te)
  (hN:N.Nodup:=by decide +kernel) (hgk:GOk n g:=by first | exact za3 (by decide) | exact zgb (by decide) (by decide) | exact gok_t3 (by decide) (by decide) (by decide)) (hn:N.length=n+fr.length:=by rfl)
  (hfr:fr.map (λi=>X.N[i]?)=(N.drop n).map some:=by rfl) (hsc:∀x∈N.drop n,scope.names.lookup x=some .free:=by decide +kernel)
  (hF:FreeIn X.env ((scope.names.filter λy=>y.2 == .free).map (·.1)):=by repeat (first | exact True.intro | refine y5z (y7p rfl) ?_ | refine y5z (y7c rfl) ?_))
  (bm:scope.kind = .function:=by rfl) (bo:∀y∈scope.names,y.2 ≠ .cell:=by decide +kernel) (bA:∀y∈scope.names,y.2 = .local->scope.names.lookup y.1=some .local:=by decide +kernel) (bK:X.calm=true:=by rfl)
  (hs:∀x,foldedSetIterable iter X.env x=pure x:=by intro _;rfl) (hy:X.N[i]?=some y:=by rfl) (hly:X.env.scope.names.lookup y=some .local:=by rfl) (hsw:swapsWith (.ListComp elt [⟨tg,iter,[],0⟩] scope pos) (some (.Name y py)) spos.line X.env=pure true:=by rfl):PS X (.Assign [.Name y py] (.ListComp elt [⟨tg,iter,[],0⟩] scope pos) spos) (zm2 (zb1 wi n fr g zlg te) (z4x i)) :=
 zjx n hNX hy hly hsw hi (λc=>hg c hN) hgk (λc ao s σ H Q I q=>wpAny_tests_nil ⟨H,I,q⟩) (λc=>he c hN) hn hfr hsc hF bm bo bA bK hs
end
end L2.EX
namespace L2.EX
open PySem PySem.Spec PyProof.Rows
section
variable {X:Cx}{ao:List (Addr×Obj)}{σ:St}{H:Hp}{s:Shared}{h':Heap}
theorem z5v {t':Nat}{ch:List Addr}(I:Inv X ao σ H s)(k:∀b o,b ∉ ch->s.heap.get? b=some o->h'.get? b=some o)(hf:∀b∈ch,zha X ao H b):Inv X ao σ H { s with heap:=h',toks:=t' }:=by
 have nit:∀b u,H b=some u->b ∉ ch:=λb u e z=>by rw[(hf b z).1] at e;cases e
 refine I.step (g':=s.gens) (d':=s.drawn) (ch:=ch) (λb hb=>⟨(hf b hb).2.2.2.1,(hf b hb).2.1,(hf b hb).2.2.2.2.1,(hf b hb).2.2.2.2.2⟩) (λb o _ _ hc e _=>k b o hc e) (λb o _ _ hc e _=>⟨o.slots,k b o hc e⟩) (λ_ _ _ _ n=>n)
  (λb o hc e=>⟨o,k b o hc e⟩) (λ_ _ e=>e) (λ_ _ _ e=>e) (λb ps e=>⟨#[],by rw[e];simp⟩) (λm hm=>?_) (λb u e=>?_) I.bare
 ·obtain⟨o,es,ep,ho,r⟩:=hm;exact⟨o,es,ep,k _ o (λz=>(hf _ z).2.1 rfl) ho,r⟩
 ·refine(I.hok b u e).stay (λc v hc q=>k c v ?_ q) (λ_ q=>q) λ_ _ q=>q;rcases hc with z | z
  ·rw[z];exact nit b u e
  ·exact nit c _ z
theorem z9s {t':Nat}{ch:List Addr}{T:Addr}{xs:List V}{us:List Value}(I:Inv X ao σ H s)(k:∀b o,b ∉ ch->s.heap.get? b=some o->h'.get? b=some o)(hf:∀b∈ch,zha X ao H b)(hT:s.heap.objs.size≤T)
  (r:Vals xs us) (hz:xs.length≤sizeLine) (e:IsTup h' T us.toArray):Inv X ao σ (upd H T (.tup xs)) { s with heap:=h',toks:=t' } :=
 zp7 (z5v I k hf) (I.hok.fresh hT) (y17 I.sz hT) (y36 (y0r I.lt hT)) (λx c e z=>by
  obtain⟨v,q⟩:=I.cell x c e;exact absurd (y0r q.lt (by rw[z];exact hT)) (y2y _)) (λp hp z=>absurd (y0r (Heap.lt_size (I.pin p hp).1) (by rw[z];exact hT)) (y2y _)) ⟨hz,us,r,e⟩
end
def Ite (K:y03)(a:Addr):It :=
 ⟨λi H=>∃xs x,SqL K H a xs/\xs[i]?=some x,λi H x H'=>∃p v,H p=none/\x = .ref p/\H'=upd H p (.tup [.int i,v])/\∀xs,SqL K H a xs->xs[i]?=some v,λi H=>∃xs,SqL K H a xs/\xs.length≤i⟩
theorem zof:2≤sizeLine:=by decide
theorem zii {P:Program}{w:World}{K:y03}{elts:List Expr}{kt:Nat}{tp:Pos}(a e it:Addr)(hne:e≠it):Turn P w K (.Tuple elts kt tp) (Ite K a) [e,it] e (λi h=>(∃old,IsEnum h e it i old)/\h.IsListIter it a i) where
 mem:=by simp
 obj:=λi h st b hb=>by
  obtain⟨⟨old,he⟩,o,e1,c,d⟩:=st;rcases y0k.mp hb with rfl | hb
  ·exact⟨_,he,λv z=>by cases z⟩
  ·have e':b=it:=by simpa using hb
   subst e';exact⟨o,e1,λv z=>by rw[d] at z;cases z⟩
 keep:=λi h h' st k=>by
  obtain⟨⟨old,he⟩,hit⟩:=st;exact⟨⟨old,k e (by simp) _ he⟩,hit.at λo x=>k it (by simp) o x⟩
 item:=by
  intro X hP hw hK hc i ao s σ H E I hf st hg;subst hP hw hK;obtain⟨xs,x,hq,hx⟩:=hg;obtain⟨⟨old,he⟩,hit⟩:=st;obtain⟨its,rv,p,hz⟩:=I.list hq;obtain⟨u,hu,ru⟩:=rv.get hx;refine wpAny_pyNext_enum_item he hit p.isList (x:=u) (by simpa using hu) hne λh1 ho hit1 hT hsz hk=>⟨_,rfl,?_⟩
  refine wpAny_letOwnedTupleGo_enum ho λh2 he2 hs2=>?_;have hTe:s.heap.objs.size≠e:=y36 (Heap.lt_size he);have kk:∀b o,b ∉ [e,it]->s.heap.get? b=some o->h2.get? b=some o:=λb o hb eo =>
   hs2.extBut b o (λz=>hb (by simp[z])) (hk b o (λz=>hb (by simp[z])) (λz=>hb (by simp[z])) eo)
  have I2:=z9s (t':=s.toks+1) (h':=h2) I kk (λb hb=>hf b hb) (y0b _) (xs:=[.int i,x]) (us:=[.int i s.toks,u]) (.cons ⟨_,rfl⟩ (.cons ru .nil)) zof ⟨_,hs2.extBut _ _ hTe hT,rfl,_,rfl⟩;refine⟨.ref s.heap.objs.size,_,I2,rfl,⟨s.heap.objs.size,x,I.hok.fresh (y0b _),rfl,rfl,λys hy=>by rw[I.list_inj hy hq];exact hx⟩,⟨⟨_,by simpa using he2⟩,hit1.at λo x=>(hs2.2 it hne.symm).trans x⟩,λb hb=>?_⟩
  have hbl:b≠s.heap.objs.size:=by
   rcases y0k.mp hb with rfl | hb
   ·exact y0p (Heap.lt_size he)
   ·have e':b=it:=by simpa using hb
    subst e';obtain⟨o,e1,_⟩:=hit;exact y0p (Heap.lt_size e1)
  rw[z0a hbl];exact(hf b hb).1
 done:=by
  intro X hP hw hK hc i ao s σ H E I hf st hg;subst hP hw hK;obtain⟨xs,hq,hx⟩:=hg;obtain⟨⟨old,he⟩,hit⟩:=st;obtain⟨its,rv,p,hz⟩:=I.list hq;have hl:=rv.length;exact wpAny_pyNext_enum_end (I.ok.hd hc) he hit p.isList (by simp;lia) λh1 hb=>⟨rfl,z5v (t':=s.toks) I (λb o hb' eo=>hb b o (λz=>hb' (by simp[z])) eo) λb hb'=>hf b hb'⟩
 self:=λ_ _ _ _ _ st h=>by
  obtain⟨⟨old,he⟩,_⟩:=st;exact wpAny_pyIter_enum he h
section
variable {X:Cx}
def zm5 (K:y03)(tl:TE)(σ:St)(H:Hp)(R:It->Hp->Prop):Prop:=tl σ H λx H1=>match x with
 | .ref a=>(∃xs,SqL K H1 a xs)/\R (Ite K a) H1
 | _=>False
theorem z8o {l:Expr}{tl:TE}{elts:List Expr}{kt:Nat}{tp p pos:Pos}(hm:X.mg "enumerate"=none)(hl:PE X l tl)(hg:Gl X "enumerate":=by rfl)(hs:starEach [l] X.env = [(false,eval l X.env)]:=by rfl) :
  PI X (.Tuple elts kt tp) (.Call (.Name "enumerate" p) [l] [] pos) (zm5 X.K tl):=by
 intro ao s σ H R I h;refine Call_ (z51 I hg hm zbh (y1n (thn ((z00 (z1p hl) z03 hs) pos ao s σ H (λvs H1=>∃x,vs = [x]/\(match x with
  | .ref a=>(∃xs,SqL X.K H1 a xs)/\R (Ite X.K a) H1
  | _=>False)) I ⟨_,h,λv H1 q=>⟨v,rfl,q⟩⟩) λus s1 h1=>?_) hs rfl))
 obtain⟨vs,H1,I1,r1,x,rfl,q1⟩:=h1;obtain⟨u,rfl,rx⟩:=z7l r1
 split at q1
 ·rename_i a;cases rx;obtain⟨⟨xs,hq⟩,q⟩:=q1;obtain⟨its,rv,pl,hz⟩:=I1.list hq;refine call_enumerate_list pl.isList λh1 he hit hsz hk=>wpAny_pyIter_enum he ?_;have ne:s1.heap.objs.size+1≠s1.heap.objs.size:=y77 _;refine⟨_,[s1.heap.objs.size+1,s1.heap.objs.size],_,_,H1,rfl,I1.kept (t':=s1.toks) hk,zii a (s1.heap.objs.size+1) s1.heap.objs.size ne,⟨⟨_,he⟩,hit⟩,λb hb=>?_,q⟩;have hb':s1.heap.objs.size≤b:=by
   rcases y0k.mp hb with e | e
   ·rw[e];exact y4b _
   ·rw[y09.mp e];exact y0b _
  exact I1.fpOk hb' (I1.hok.fresh hb')
 ·exact q1.elim
theorem zde {K:y03}{g:TG}{tb:TS}{D:Ends}{σ:St}{H:Hp}{a:Addr}{xs:List V}(Pv:Nat->St->Hp->Prop)(h0:Pv 0 σ H)(hl:∀i σ H,i≤xs.length->Pv i σ H->SqL K H a xs)
  (hs:∀i x σ H p,xs[i]?=some x->Pv i σ H->H p=none->g (.ref p) σ (upd H p (.tup [.int i,x])) fun σ2 H2=>tb { D with nx:=Pv (i+1),ct:=Pv (i+1),bk:=D.nx } σ2 H2) (hd:∀ σ H,Pv xs.length σ H->D.nx σ H):zcm (Ite K a) g tb D σ H:=by
 refine⟨λi m σ H=>m=xs.length - i/\i≤xs.length/\Pv i σ H,⟨xs.length,by simp,y25 _,h0⟩,?_⟩
 rintro i m σ H ⟨rfl,hi,p⟩;have q:=hl i σ H hi p
 by_cases hlt:i<xs.length
 ·refine .inr ⟨⟨xs,xs[i],q,by simp[hlt]⟩,Pv (i+1),fun σ' H' p'=>⟨xs.length - (i+1),by lia,rfl,hlt,p'⟩,λx H' y=>?_⟩
  obtain⟨t,v,ht,e1,e2,e3⟩:=y;subst e1 e2;exact hs i v σ H t (e3 xs q) p ht
 ·have e:i=xs.length:=by lia
  subst e;exact .inl ⟨⟨xs,q,y0b _⟩,hd σ H p⟩
end
end L2.EX
namespace L2.EX
open PySem PySem.Spec PyProof.Rows
structure ClsF (K:y03)(C:Addr)(f:Str):Prop where
 cl:Cls K C
 no:NoAttr K C f
structure MDef (P:Program)(w:World)(K:y03)(mg:Str->Option Value)(base:Heap)(C:Addr)(m:Str)(k:Nat)(ps:List Str)(sp:Sp):Prop where
 is:∃(f:Addr) (fd:FuncData),FnOk P w K mg base CX0 k f fd ps sp/\Binds K fd ps []/\Meth K C m f
 cl:Cls K C
structure MTop (K:y03)(C:Addr)(m aR:Str)(st:Stmt)(ps:List Str):Prop where
 is:∃(f:Addr) (fd:FuncData),Fun K m aR st f fd/\Binds K fd ps []/\Meth K C m f
 cl:Cls K C
structure CDef (P:Program)(w:World)(K:y03)(mg:Str->Option Value)(base:Heap)(x:Str)(C:Addr)(k:Nat)(ps:List Str)(sp:Sp):Prop where
 is:∃(f:Addr) (fd:FuncData),FnOk P w K mg base CX0 k f fd ps sp/\Binds K fd ps []/\Mk K C f
 mg:mg x=some (.ref C)
section
variable {X:Cx}{C:Addr}{f m:Str}{e o value:Expr}{es:List Expr}{ta tv:TE}{t:TA}{pos b9 aU aO p:Pos}{k:Nat}{ps:List Str}{sp:Sp}{x:Str}
def zqn (C:Addr)(f:Str)(t:TE)(σ:St)(H:Hp)(Q:VK):Prop:=t σ H λx H1=>match x with
 | .ref a=>∃dx fs v,H1 a=some (.ins C dx fs)/\fs.lookup f=some v/\Q v H1
 | _=>False
theorem z1k (F:ClsF X.K C f)(he:PE X e ta)(hb:attributeBase e f X.env (eval e X.env)=eval e X.env:=by rfl):PE X (.Attribute e f pos) (zqn C f ta) :=
 z57 (zon (z1p he) hb) fun σ H Q h=>⟨_,h,λx H1 q=>by
  split at q
  ·obtain⟨dx,fs,v,h1,h2,h3⟩:=q;exact⟨_,C,dx,fs,v,rfl,h1,F.cl,F.no,h2,h3⟩
  ·exact q.elim⟩
def zmk (C:Addr)(f:Str)(ta tv:TE)(D:Ends)(σ:St)(H:Hp):Prop:=tv σ H λy H1=>ta σ H1 λx H2=>match x with
 | .ref a=>∃dx fs,H2 a=some (.ins C dx fs)/\fs.length<1000/\D.nx σ (upd H2 a (.ins C dx (z8z f y fs)))
 | _=>False
theorem zc1 (F:ClsF X.K C f)(ha:PE X o ta)(hv:PE X value tv)(hs:swapsWith value (some (.Attribute o f b9)) pos.line X.env=pure false:=by rfl):PS X (.Assign [.Attribute o f b9] value pos) (zmk C f ta tv) :=
 zlc (zoc (z1p ha) (z1p hv) hs) λD σ H h=>⟨_,h,λy H1 q=>⟨_,q,λx H2 q2=>by
  split at q2
  ·obtain⟨dx,fs,h1,h2,h3⟩:=q2;exact⟨_,C,dx,fs,rfl,h1,F.cl,F.no,h2,h3⟩
  ·exact q2.elim⟩⟩
def zko (C:Addr)(m:Str)(sp:Sp)(ta:TE)(t:TA)(σ:St)(H:Hp)(Q:VK):Prop:=ta σ H λx H1=>match x with
 | .ref a=>∃dx fs,H1 a=some (.ins C dx fs)/\fs.lookup m=none/\t σ H1 λvs H2=>sp (.ref a::vs) H2 Q E0
 | _=>False
theorem z2d {pl:Sem Bool}(D:MDef X.prog X.w X.K X.mg X.base C m k ps sp)(hr:Room k X.A)(he:PE X o ta)(ha:PA X (e::es) t)
  (hst:starEach (e::es) X.env=(false,eval e X.env)::starEach es X.env:=by rfl) (hpl:(backTo pos (starEach es X.env)).any (·.1)=false:=by rfl)
  (ht:eval (.Call (.Attribute o m aU) (e::es) [] pos) X.env=(do
   let ov ←eval o X.env
   standAt aU.atName
   let (f,first) ←holding [ov] (getMethod ov m pl)
   callWith pos f first (backTo pos (starEach (e::es) X.env)) (backToKw pos (keywordEach [] X.env))):=by rfl) :
  PE X (.Call (.Attribute o m aU) (e::es) [] pos) (zko C m sp ta t):=by
 obtain⟨f,fd,F,hb,hm⟩:=D.is;refine z57 (zms (pl:=pl) (dvs:=[]) (z1p he) D.cl hm F hr hb .nil zj9 (z6s ha) hst hpl ht) fun σ H Q h=>⟨_,h,λx H1 q=>?_⟩
 split at q
 ·obtain⟨dx,fs,h1,h2,h3⟩:=q;exact⟨_,dx,fs,rfl,h1,h2,_,h3,λvs H2 q2=>by
   show sp (V.ref _::(vs ++ [])) H2 Q E0;rw[y2s];exact q2⟩
 ·exact q.elim
theorem z6j {pl:Sem Bool}(D:MDef X.prog X.w X.K X.mg X.base C m k ps sp)(hr:Room k X.A)(he:PE X o ta)
  (ht:eval (.Call (.Attribute o m aU) [] [] pos) X.env=(do
   let ov ←eval o X.env
   standAt aU.atName
   let (f,first) ←holding [ov] (getMethod ov m pl)
   callWith pos f first (backTo pos (starEach [] X.env)) (backToKw pos (keywordEach [] X.env))):=by rfl) :
  PE X (.Call (.Attribute o m aU) [] [] pos) (zko C m sp ta zlz):=by
 obtain⟨f,fd,F,hb,hm⟩:=D.is;refine z57 (zj4 (pl:=pl) (dvs:=[]) (z1p he) D.cl hm F hr hb .nil zj9 ht) fun σ H Q h=>⟨_,h,λx H1 q=>?_⟩
 split at q
 ·obtain⟨dx,fs,h1,h2,h3⟩:=q;exact⟨_,dx,fs,rfl,h1,h2,h3⟩
 ·exact q.elim
def zmq (C:Addr)(sp:Sp)(t:TA)(σ:St)(H:Hp)(Q:VK):Prop:=t σ H λvs H1=>∀x dx,H1 x=none->H1 dx=none->dx≠x ->
 sp (.ref x::vs) (upd (upd H1 dx (.own x)) x (.ins C dx [])) (λv H2=>v = .non/\Q (.ref x) H2) E0
theorem zmt (D:CDef X.prog X.w X.K X.mg X.base x C k ps sp)(hr:Room (k+1) X.A)(ha:PA X (e::es) t)(hg:Gl X x:=by rfl)
  (hdb:(x==("__debug__":Str))=false:=by decide) (he:starEach (e::es) X.env=(false,eval e X.env)::starEach es X.env:=by rfl) (hpl:(backTo pos (starEach es X.env)).any (·.1)=false:=by rfl) :
  PE X (.Call (.Name x p) (e::es) [] pos) (zmq C sp t):=by
 obtain⟨f,fd,F,hb,M⟩:=D.is;exact z57 (zm7 (dvs:=[]) M F hr hg D.mg hb .nil zj9 (z6s ha) hdb he hpl) fun σ H Q h=>⟨_,h,λvs H1 q y dy h1 h2 h3=>by rw[y2s];exact q y dy h1 h2 h3⟩
variable {P:Program}{w:World}{K:y03}{mg:Str->Option Value}{base:Heap}{N:List Str}{st:Stmt}{aR:Str}
theorem z38 (T:MTop K C m aR st ps)(S:FnScope N ps (z05 st))(len:∀vs H Q E,sp vs H Q E->vs.length=ps.length)
  (body:∀(f:Addr) (cdv:Value) (A:Around) (outer:List Env) (s:Shared) (H:Hp) (vs:List V) (Q:VK) (E:XK),Room k (A.deeper (envOfC aR (z05 st) s.heap.objs.size f cdv))->sp vs H Q E ->
   ∃t,PSs (ziu CX0 P w K mg base N aR (z05 st) f cdv A outer s H E).nox (z0c st) t/\t { nx:=λ_ H'=>Q .non H',rt:=Q } (start N vs) H):MDef P w K mg base C m (k+1) ps sp:=by
 obtain⟨f,fd,F,hb,hm⟩:=T.is;exact⟨⟨f,fd,F.ok S len λcdv A outer s H vs Q E hr h=>body f cdv A outer s H vs Q E hr h,hb,hm⟩,T.cl⟩
@[reducible] def zrj (o i v:V)(H:Hp)(Q:Hp->Prop):Prop:=match o,i with
 | .ref p,.int k=>∃xs j,H p=some (.lst xs)/\ixN xs.length k=some j/\Q (upd H p (.lst (xs.set j v)))
 | _,_=>False
theorem z4t:zpx X zrj:=by
 intro ao s σ H o i v ov iv u Q I ro ri rv h;unfold zrj at h
 split at h
 ·obtain⟨xs,j,h1,h2,h3⟩:=h;exact zj0 ao s σ H _ _ v ov iv u Q I ro ri rv ⟨_,xs,_,j,rfl,rfl,h1,h2,h3⟩
 ·exact h.elim
def zpr (o i:V)(H:Hp)(Q:VK):Prop:=match o,i with
 | .ref p,.int k=>∃xs v,H p=some (.lst xs)/\0≤k/\xs[k.toNat]?=some v/\Q v H
 | _,_=>False
theorem z7y:zrg X zpr:=by
 intro ao s σ H o i ov iv Q I ro ri h;unfold zpr at h
 split at h
 ·rename_i p k;obtain⟨xs,v,h1,h2,h3,h4⟩:=h;cases ro;obtain⟨t,rfl⟩:=ri;obtain⟨its,r,pl,hz⟩:=I.list (SqL.of h1);obtain⟨w,ew,rw'⟩:=r.get h3;have hl:=r.length;have hn:=zbv
  have hk:k.toNat<xs.length:=(y00.mp h3).1;exact wpAny_getItem_list pl.isList h2 (by lia) (by simpa using ew) ⟨v,H,I,rw',h4⟩
 ·exact h.elim
def zdl (x y:V)(H:Hp)(Q:VK):Prop:=match x,y with
 | .int i,.int j=>Q (.int (i+j)) H
 | _,_=>False
def zeb (x y:V)(H:Hp)(Q:VK):Prop:=match x,y with
 | .int i,.int j=>Q (.int (i - j)) H
 | _,_=>False
theorem zct:PIp X .Add zdl:=by
 intro ao s σ H x y v u Q I r1 r2 h;unfold zdl at h
 split at h
 ·exact zou ao s σ H _ _ v u Q I r1 r2 ⟨_,_,rfl,rfl,h⟩
 ·exact h.elim
theorem z9z:PIp X .Sub zeb:=by
 intro ao s σ H x y v u Q I r1 r2 h;unfold zeb at h
 split at h
 ·exact zoi ao s σ H _ _ v u Q I r1 r2 ⟨_,_,rfl,rfl,h⟩
 ·exact h.elim
def zr4 (ta:TE)(t:TA)(σ:St)(H:Hp)(Q:VK):Prop:=ta σ H λx H1=>match x with
 | .ref l=>(∃xs,H1 l=some (.lst xs))/\t σ H1 λvs H2=>match vs with
  | [y]=>∃xs,H2 l=some (.lst xs)/\xs.length<sizeLine/\Q .non (upd H2 l (.lst (xs ++ [y])))
  | _=>False
 | _=>False
theorem z0z (ho:PE X o ta)(ha:PA X (e::es) t)(bE:attributeBase o "append" X.env (eval o X.env)=eval o X.env:=by rfl)
  (hfew:((backTo aO (starEach (e::es) X.env)).all (λx=>!x.1)&&(backToKw aO (keywordEach [] X.env)).all (λx=>x.1.isSome)
  &&decide ((e::es).length+([]:List Keyword).length+(if ([]:List Keyword).isEmpty then 0 else 1)<30))=true:=by rfl)
  (bD:(aU.endLine==aO.line)=true:=by rfl) (hs:starEach (e::es) X.env=(false,eval e X.env)::starEach es X.env:=by rfl) (bY:(backTo aO (starEach es X.env)).any (·.1)=false:=by rfl) :
  PE X (.Call (.Attribute o "append" aU) (e::es) [] aO) (zr4 ta t) :=
 z57 (zn6 y2z PySem.F.slot_list_append PySem.F.type_list_append zhg (z1p ho) (z6s ha) bE hfew bD hs bY) fun σ H Q h=>⟨_,h,λx H1 q=>by
  split at q
  ·obtain⟨⟨xs,h1⟩,h2⟩:=q;refine⟨.inl ⟨rfl,_,SqL.of h1⟩,_,h2,λvs H2 q2=>?_⟩
   split at q2
   ·obtain⟨ys,h3,h4,h5⟩:=q2;exact⟨_,ys,_,rfl,rfl,h3,h4,h5⟩
   ·exact q2.elim
  ·exact q.elim⟩
def zqt (ta:TE)(σ:St)(H:Hp)(Q:VK):Prop:=ta σ H λx H1=>match x with
 | .ref l=>∃xs y,H1 l=some (.lst xs)/\xs[xs.length - 1]?=some y/\Q y (upd H1 l (.lst xs.dropLast))
 | _=>False
theorem z8k (ho:PE X o ta)(bE:attributeBase o "pop" X.env (eval o X.env)=eval o X.env:=by rfl)(bD:(aU.endLine==aO.line)=true:=by rfl):PE X (.Call (.Attribute o "pop" aU) [] [] aO) (zqt ta) :=
 z57 (zlq y2z PySem.F.slot_list_pop PySem.F.type_list_pop zpe (z1p ho) bE bD) fun σ H Q h=>⟨_,h,λx H1 q=>by
  split at q
  ·obtain⟨xs,y,h1,h2,h3⟩:=q;exact⟨.inl ⟨rfl,_,SqL.of h1⟩,_,xs,y,rfl,rfl,h1,h2,h3⟩
  ·exact q.elim⟩
def zhi (ta:TE)(σ:St)(H:Hp)(Q:VK):Prop:=ta σ H λx H1=>match x with
 | .ref l=>∃xs,H1 l=some (.lst xs)/\Q .non (upd H1 l (.lst []))
 | _=>False
theorem zck (ho:PE X o ta)(bE:attributeBase o "clear" X.env (eval o X.env)=eval o X.env:=by rfl)(bD:(aU.endLine==aO.line)=true:=by rfl):PE X (.Call (.Attribute o "clear" aU) [] [] aO) (zhi ta) :=
 z57 (zlq y2z PySem.F.slot_list_clear PySem.F.type_list_clear ziv (z1p ho) bE bD) fun σ H Q h=>⟨_,h,λx H1 q=>by
  split at q
  ·obtain⟨xs,h1,h2⟩:=q;exact⟨.inl ⟨rfl,_,SqL.of h1⟩,_,xs,rfl,rfl,h1,h2⟩
  ·exact q.elim⟩
theorem z2o (h:PE X e ta):PO X (some e) (znq ta):=by
 intro ao s σ H Q I hq;have g:=zmh (z1p h) ao s σ H Q I ⟨_,hq,λx H1 q=>by
  split at q
  ·exact⟨_,rfl,q⟩
  ·exact q.elim⟩
 exact g
theorem zqs:SlR X (uSl X.K):=by
 intro ao s σ H x v vl vu lo hi sl Q I rx hs pl pu q;unfold uSl at q
 split at q
 ·obtain⟨xs,h1,h2⟩:=q;exact znh ao s σ H _ v vl vu lo hi sl Q I rx hs pl pu ⟨_,xs,rfl,h1,h2⟩
 ·exact q.elim
def xSl (K:y03)(te:TE)(tl th:TO)(σ:St)(H:Hp)(Q:VK):Prop:=te σ H λx H1=>tl σ H1 λl H2=>th σ H2 λu H3=>uSl K x l u H3 Q
theorem zfa {lo hi:Option Expr}{p2:Pos}{tl th:TO}(he:PE X e ta)(hl:PO X lo tl)(hu:PO X hi th):PE X (.Subscript e (.Slice lo hi none p2) pos) (xSl X.K ta tl th):=zjj zqs he hl hu
end
end L2.EX
namespace L2.EX
open PySem PySem.Spec PyProof.Rows
theorem z04 {H:Hp}{p:Addr}(h:H p=none)(o:HO):Same H (upd H p o):=λb u q=>by rw[z0a (z08 q h)];exact q
mutual
def Is (K:y03)(H:Hp):V->PyData->Prop
 | v,.none=>v = .non
 | v,.bool b=>v = .bl b
 | v,.int i=>v = .int i
 | v,.str x=>v = .str x
 | v,.list ds=>∃a xs,v = .ref a/\H a=some (.lst xs)/\IsAll K H xs ds
 | v,.tuple ds=>∃a xs,v = .ref a/\H a=some (.tup xs)/\IsAll K H xs ds
 | _,.dict _=>False
def IsAll (K:y03)(H:Hp):List V->List PyData->Prop
 | xs,[]=>xs = []
 | xs,d::ds=>∃v vs,xs=v::vs/\Is K H v d/\IsAll K H vs ds
end
mutual
theorem Is.same {K:y03}{H H':Hp}(s:Same H H'):∀(d:PyData) (v:V),Is K H v d->Is K H' v d
 | .none,v,h=>by simp only[Is] at h ⊢;exact h
 | .bool b,v,h=>by simp only[Is] at h ⊢;exact h
 | .int i,v,h=>by simp only[Is] at h ⊢;exact h
 | .str x,v,h=>by simp only[Is] at h ⊢;exact h
 | .list ds,v,h=>by
  simp only[Is] at h ⊢
  obtain⟨a,xs,e,q,r⟩:=h;exact⟨a,xs,e,s _ _ q,IsAll.same s ds xs r⟩
 | .tuple ds,v,h=>by
  simp only[Is] at h ⊢
  obtain⟨a,xs,e,q,r⟩:=h;exact⟨a,xs,e,s _ _ q,IsAll.same s ds xs r⟩
 | .dict _,v,h=>by simp only[Is] at h
theorem IsAll.same {K:y03}{H H':Hp}(s:Same H H'):∀(ds:List PyData) (xs:List V),IsAll K H xs ds->IsAll K H' xs ds
 | [],xs,h=>by simp only[IsAll] at h ⊢;exact h
 | d::ds,xs,h=>by
  simp only[IsAll] at h ⊢
  obtain⟨v,vs,e,q,r⟩:=h;exact⟨v,vs,e,Is.same s d v q,IsAll.same s ds vs r⟩
end
section
variable {X:Cx}{ao:List (Addr×Obj)}{σ:St}{H:Hp}{s:Shared}
mutual
theorem Is.reads (I:Inv X ao σ H s):∀(d:PyData) (v:V) (u:Value),Is X.K H v d->RelV v u->∃as,Reads s.heap u d as
 | .none,v,u,h,r=>by
  simp only[Is] at h;subst h;cases r;exact⟨_,.none⟩
 | .bool b,v,u,h,r=>by
  simp only[Is] at h;subst h;cases r;exact⟨_,.bool b⟩
 | .int i,v,u,h,r=>by
  simp only[Is] at h;subst h;obtain⟨t,rfl⟩:=r;exact⟨_,.int i t⟩
 | .str x,v,u,h,r=>by
  simp only[Is] at h;subst h;obtain⟨t,rfl⟩:=r;exact⟨_,.str x t⟩
 | .list ds,v,u,h,r=>by
  simp only[Is] at h;obtain⟨a,xs,rfl,q,al⟩:=h;cases r;obtain⟨its,rv,⟨o,n,e,c,_,hd⟩,_⟩:=I.list (SqL.of q);obtain⟨as,ra⟩:=IsAll.reads I ds xs its al rv;exact⟨_,.list e c hd (by simpa using ra)⟩
 | .tuple ds,v,u,h,r=>by
  simp only[Is] at h;obtain⟨a,xs,rfl,q,al⟩:=h;cases r;obtain⟨its,rv,⟨o,e,c,n,hd⟩,_⟩:=I.tuple (SqT.of q);obtain⟨as,ra⟩:=IsAll.reads I ds xs its al rv;exact⟨_,.tuple e c hd (by simpa using ra)⟩
 | .dict _,v,u,h,r=>by simp only[Is] at h
theorem IsAll.reads (I:Inv X ao σ H s):∀(ds:List PyData) (xs:List V) (us:List Value),IsAll X.K H xs ds->Vals xs us->∃as,ReadsAll s.heap us ds as
 | [],xs,us,h,r=>by
  simp only[IsAll] at h;subst h;cases r;exact⟨_,.nil⟩
 | d::ds,xs,us,h,r=>by
  simp only[IsAll] at h;obtain⟨v,vs,rfl,q,al⟩:=h;cases r with
  | cons r1 r2 =>
   obtain⟨as,ra⟩:=Is.reads I d v _ q r1;obtain⟨bs,rb⟩:=IsAll.reads I ds vs _ al r2;exact⟨_,.cons ra rb⟩
end
end
theorem z0g {K:y03}{H:Hp}:∀{ds:List PyData} {xs:List V},IsAll K H xs ds->xs.length=ds.length
 | [],xs,h=>by simp only[IsAll] at h;subst h;rfl
 | d::ds,xs,h=>by
  simp only[IsAll] at h;obtain⟨v,vs,rfl,q,al⟩:=h;simp[z0g al]
theorem z4r {K:y03}{H:Hp}:∀{ds:List PyData} {xs:List V} {i:Nat} {x:V},IsAll K H xs ds->xs[i]?=some x->∃d,ds[i]?=some d/\Is K H x d
 | [],xs,i,x,h,e=>by simp only[IsAll] at h;subst h;simp at e
 | d::ds,xs,i,x,h,e=>by
  simp only[IsAll] at h;obtain⟨v,vs,rfl,q,al⟩:=h;cases i with
  | zero=>simp at e;subst e;exact⟨d,rfl,q⟩
  | succ i =>
   obtain⟨d',h1,h2⟩:=z4r (i:=i) al (by simpa using e)
   exact⟨d',by simpa using h1,h2⟩
theorem z1m {K:y03}{H:Hp}:∀{ds:List PyData} {xs:List V} {i:Nat} {d:PyData},IsAll K H xs ds->ds[i]?=some d->∃x,xs[i]?=some x/\Is K H x d
 | [],xs,i,x,h,e=>by simp at e
 | d::ds,xs,i,x,h,e=>by
  simp only[IsAll] at h;obtain⟨v,vs,rfl,q,al⟩:=h;cases i with
  | zero=>simp at e;subst e;exact⟨v,rfl,q⟩
  | succ i =>
   obtain⟨d',h1,h2⟩:=z1m (i:=i) al (by simpa using e)
   exact⟨d',by simpa using h1,h2⟩
theorem z7v {K:y03}{H:Hp}:∀{ds es:List PyData} {xs ys:List V},IsAll K H xs ds->IsAll K H ys es->IsAll K H (xs++ys) (ds++es)
 | [],es,xs,ys,h,g=>by simp only[IsAll] at h;subst h;exact g
 | d::ds,es,xs,ys,h,g=>by
  simp only[IsAll] at h;obtain⟨v,vs,rfl,q,al⟩:=h;show IsAll K H (v::(vs++ys)) (d::(ds++es));simp only[IsAll];exact⟨v,vs++ys,rfl,q,z7v al g⟩
theorem z46 {K:y03}{H:Hp}{v:V}{d:PyData}(h:Is K H v d):IsAll K H [v] [d]:=by
 simp only[IsAll];exact⟨v,[],rfl,h,rfl⟩
theorem z0r {K:y03}{H:Hp}:IsAll K H [] []:=by simp only[IsAll]
theorem z1c {K:y03}{H:Hp}{v:V}{vs:List V}{d:PyData}{ds:List PyData}(h:Is K H v d)(g:IsAll K H vs ds):IsAll K H (v::vs) (d::ds):=by
 simp only[IsAll];exact⟨v,vs,rfl,h,g⟩
theorem z1j {K:y03}{H:Hp}{v:V}{vs:List V}{d:PyData}{ds:List PyData}(g:IsAll K H vs ds)(h:Is K H v d):IsAll K H (vs ++ [v]) (ds ++ [d]):=z7v g (z46 h)
theorem z35 {K:y03}{H:Hp}:∀(ns:List Int),IsAll K H (ns.map V.int) (ns.map PyData.int)
 | []=>z0r
 | n::ns=>z1c (by simp only[Is]) (z35 ns)
theorem z9q {K:y03}{H:Hp}:∀{ns:List Int} {xs:List V},IsAll K H xs (ns.map PyData.int)->xs=ns.map V.int
 | [],xs,h=>by simpa only[IsAll,y3l] using h
 | n::ns,xs,h=>by
  simp only[IsAll,y0l,Is] at h;obtain⟨v,vs,rfl,rfl,al⟩:=h;rw[z9q al];rfl
theorem z9p {K:y03}{H:Hp}:∀{ds:List PyData} {xs:List V} (n:Nat),IsAll K H xs ds->IsAll K H (xs.take n) (ds.take n)
 | [],xs,n,h=>by simp only[IsAll] at h;subst h;simp[z0r]
 | d::ds,xs,n,h=>by
  simp only[IsAll] at h;obtain⟨v,vs,rfl,q,al⟩:=h;cases n with
  | zero=>simp[z0r]
  | succ n=>simpa using z1c q (z9p n al)
theorem is_int {K:y03}{H:Hp}{v:V}{i:Int}:Is K H v (.int i)↔v = .int i:=by simp only[Is]
theorem is_list {K:y03}{H:Hp}{v:V}{ds:List PyData}:Is K H v (.list ds)↔∃a xs,v = .ref a/\H a=some (.lst xs)/\IsAll K H xs ds:=by simp only[Is]
theorem is_tuple {K:y03}{H:Hp}{v:V}{ds:List PyData}:Is K H v (.tuple ds)↔∃a xs,v = .ref a/\H a=some (.tup xs)/\IsAll K H xs ds:=by simp only[Is]
def z3l (n d:Int):PyData:=.tuple [.int n,.int d]
theorem is_frac {K:y03}{H:Hp}{v:V}{n d:Int}:Is K H v (z3l n d)↔∃a,v = .ref a/\H a=some (.tup [.int n,.int d]):=by
 unfold z3l;rw[is_tuple];constructor
 ·rintro⟨a,xs,rfl,h,al⟩;simp only[IsAll,Is] at al;obtain⟨_,_,rfl,rfl,_,_,rfl,rfl,rfl⟩:=al;exact⟨a,rfl,h⟩
 ·rintro⟨a,rfl,h⟩;exact⟨a,_,rfl,h,z35 [n,d]⟩
def Sh (n:Nat)(d:PyData):Prop:=d.canLay0=true/\d.depth≤n
theorem z8j {n:Nat}(i:Int):Sh n (.int i):=⟨by simp only[PyData.canLay0],by simp only[PyData.depth];lia⟩
theorem zdm {n:Nat}{ds:List PyData}(h:∀d∈ds,Sh n d):PyData.canLayAll0 ds=true/\PyData.depthAll ds≤n:=by
 induction ds with
 | nil=>exact⟨by simp only[PyData.canLayAll0],by simp only[PyData.depthAll];lia⟩
 | cons d ds ih =>
  obtain⟨h1,h2⟩:=h d y0d;obtain⟨h3,h4⟩:=ih λx hx=>h x (y0a _ hx);refine⟨by simp only[PyData.canLayAll0,h1,h3,Bool.and_self],?_⟩
  simp only[PyData.depthAll];lia
theorem z54 {n:Nat}{ds:List PyData}(h:∀d∈ds,Sh n d):Sh (n+1) (.list ds):=⟨by simp only[PyData.canLay0];exact(zdm h).1,by simp only[PyData.depth];have:=(zdm h).2;lia⟩
theorem zk6 {n:Nat}{ds:List PyData}(h:∀d∈ds,Sh n d):Sh (n+1) (.tuple ds):=⟨by simp only[PyData.canLay0];exact(zdm h).1,by simp only[PyData.depth];have:=(zdm h).2;lia⟩
theorem za5 {n:Nat}(a b:Int):Sh (n+1) (z3l a b):=zk6 λd hd=>by
 simp only[y0k,y15,or_false] at hd;rcases hd with rfl | rfl<;>exact z8j _
theorem zn2 {n:Nat}(ns:List Int):Sh (n+1) (.list (ns.map PyData.int)):=z54 λd hd=>by
 obtain⟨i,_,rfl⟩:=y1i.mp hd;exact z8j _
theorem Sh.shaped {d:PyData}(h:Sh 60 d):y6h d=true:=by
 unfold y6h;rw[h.1,decide_eq_true (y17 h.2 (by decide))]
 rfl
theorem Sh.le {m n:Nat}{d:PyData}(h:Sh m d)(k:m≤n):Sh n d:=⟨h.1,y17 h.2 k⟩
theorem z4p {d:PyData}(h:Sh 60 d):PyData.eqv d d=true:=PySem.SeqAt.eqv_refl d h.1
theorem zk0 (a b c d:Int):PyData.eqv (z3l a b) (z3l c d)=(decide (a=c)&&decide (b=d)):=by
 unfold z3l;simp only[PyData.eqv,PyData.eqvAll];rw[y2h];simp
section
variable {X:Cx}
def zq9 (K:y03)(x y:V)(H:Hp)(Q:VK):Prop:=∃d d',Is K H x d/\Is K H y d'/\Sh 60 d/\Sh 60 d'/\Q (.bl (PyData.eqv d d')) H
def zqj (K:y03)(x y:V)(H:Hp)(Q:VK):Prop:=∃d d',Is K H x d/\Is K H y d'/\Sh 60 d/\Sh 60 d'/\Q (.bl (!PyData.eqv d d')) H
theorem zq4 {k:Nat}{A:Around}(hr:Room k A):A.units+64<cLine:=by have:=hr.un;lia
theorem zec {k:Nat}(hr:Room k X.A):OpR X (compareOp .Eq) (zq9 X.K):=by
 intro ao s σ H x y v u Q I rx ry h;obtain⟨d,d',h1,h2,s1,s2,q⟩:=h;obtain⟨as,ra⟩:=Is.reads I d x v h1 rx;obtain⟨bs,rb⟩:=Is.reads I d' y u h2 ry;exact PySem.SeqAt.compareEq_shaped ra rb s1.shaped s2.shaped (zq4 hr) ⟨.bl (PyData.eqv d d'),H,I,rfl,q⟩
theorem zli {k:Nat}(hr:Room k X.A):OpR X (compareOp .NotEq) (zqj X.K):=by
 intro ao s σ H x y v u Q I rx ry h;obtain⟨d,d',h1,h2,s1,s2,q⟩:=h;obtain⟨as,ra⟩:=Is.reads I d x v h1 rx;obtain⟨bs,rb⟩:=Is.reads I d' y u h2 ry;exact PySem.SeqAt.compareNe_shaped ra rb s1.shaped s2.shaped (zq4 hr) ⟨.bl (!PyData.eqv d d'),H,I,rfl,q⟩
def zi0:TS:=λ_ _ _=>False
theorem zkd {st:Stmt}:PS X st zi0:=λ_ _ _ _ _ _ h=>h.elim
def zcv (c:TT)(tb:TS)(D:Ends)(σ:St)(H:Hp):Prop:=∃W:Nat->St->Hp->Prop,(∃m,W m σ H)/\∀m σ H,W m σ H ->
 c σ H λb H1=>if b=true then tb { D with nx:=fun σ' H'=>∃m',m'<m/\W m' σ' H',ct:=fun σ' H'=>∃m',m'<m/\W m' σ' H',bk:=D.nx } σ H1 else D.nx σ H1
theorem z49 {c:Expr}{body:List Stmt}{tc:TT}{tb:TS}{pos:Pos}(hc:PT X c tc)(hb:PSs X body tb)(hp:PassesOwn (model X.prog X.w) X.A X.env X.xe:=by exact PassesOwn.never):PS X (.While c body [] pos) (zcv tc tb):=by
 intro ao s σ H D I h;obtain⟨W,⟨m0,w0⟩,turn⟩:=h;refine wpAny_While (codeAny_whileLoop (λn s'=>∃ σ' H',Inv X ao σ' H' s'/\W n σ' H') ?_ m0 ⟨σ,H,I,w0⟩);rintro n s1 ⟨σ1,H1,I1,w1⟩;refine wpAny_passesOwn hp (thn (hc ao s1 σ1 H1 _ I1 (turn n σ1 H1 w1)) λb s2 h2=>?_);obtain⟨H2,I2,q2⟩:=h2;cases b with
 | true =>
  rw[if_pos rfl] at q2 ⊢
  refine wpAny_passesOwn hp (thn (hb ao s2 σ1 H2 _ I2 q2) λf s3 q3=>?_);cases f with
  | next =>
   obtain⟨σ3,H3,I3,m',l3,n3⟩:=q3;exact⟨m',l3,σ3,H3,I3,n3⟩
  | cont =>
   obtain⟨σ3,H3,I3,m',l3,n3⟩:=q3;exact⟨m',l3,σ3,H3,I3,n3⟩
  | brk=>exact q3
  | ret v=>exact q3
 | false =>
  rw[if_neg y0z] at q2 ⊢
  exact wpAny_execs_nil ⟨σ1,H2,I2,q2⟩
end
end L2.EX
set_option Elab.async false
set_option linter.all false
set_option maxRecDepth 100000
namespace L2.EX
open PySem PySem.Spec PyProof.Rows
section
variable {X:Cx}
theorem zg6 {A:Around}(h:A.handled=none):A.in1.handled=none:=h
theorem walked {ao:List (Addr×Obj)}{σ:St}{H:Hp}{s:Shared}(I:Inv X ao σ H s){o:Obj}{h':Heap}{tk:Nat}(hk:∀b ob,b ∉ [s.heap.objs.size]->(s.heap.push o).get? b=some ob->h'.get? b=some ob):Inv X ao σ H { s with heap:=h',toks:=tk } :=
 I.kept (t':=tk) λb ob e=>hk b ob (by
  intro z;have e1:b=s.heap.objs.size:=y09.mp z;have e2:=Heap.lt_size e
  rw[e1] at e2;exact y2y _ e2) (Heap.get?_push_of_some _ e)
theorem zie:∀{bs:List Bool} {us:List Value},Vals (bs.map V.bl) us->us=bs.map Value.bool
 | [],_,.nil=>rfl
 | b::bs,_,.cons r t=>by
  cases r;rw[zie t];rfl
theorem z2y:∀{ns:List Int} {us:List Value} {i:Nat} {u:Value},Vals (ns.map V.int) us->us[i]?=some u->∃t,u = .int (ns.getD i 0) t
 | [],_,_,_,.nil,h=>by simp at h
 | n::ns,_,0,_,.cons r t,h=>by
  simp at h;subst h;exact r
 | n::ns,_,i+1,_,.cons r t,h=>by
  obtain⟨t',e⟩:=z2y (i:=i) t (by simpa using h)
  exact⟨t',by simpa using e⟩
def zpu (K:y03)(xs:List V)(H:Hp)(Q:VK):Prop:=match xs with
 | [.ref p]=>∃bs:List Bool,SqL K H p (bs.map V.bl)/\Q (.bl (bs.any id)) H
 | _=>False
theorem zfw (bs:List Bool):((y0f bs.length).any λi=>bs.getD i false)=bs.any id:=by
 rw[y2h,y1t,y1t];constructor
 ·rintro⟨i,hi,e⟩;have hl:=y1d.mp hi;refine⟨true,?_,rfl⟩;have:bs[i]?=some true:=by
   rw[y05,y01 hl] at e;rw[y01 hl];exact congrArg some e
  exact y02 this
 ·rintro⟨b,hb,e⟩;obtain⟨i,hi⟩:=y08 hb;refine⟨i,y1d.mpr (y00.mp hi).1,?_⟩;rw[y05,hi];exact e
theorem zlb (hc:X.calm=true:=by rfl):z4i X (.builtin "any") (zpu X.K):=by
 intro ao s σ H xs us Q I r h;unfold zpu at h
 split at h
 ·rename_i p;obtain⟨bs,hS,q⟩:=h;obtain⟨u,rfl,ru⟩:=z7l r;cases ru;obtain⟨its,rv,pl,hz⟩:=I.list hS;have e:=zie rv;subst e;have hlt:p<s.heap.objs.size:=by
   obtain⟨o,n,e,_⟩:=pl;exact Heap.lt_size e
  refine call_any_walk (wpAny_pyIter_list pl.isList ?_);refine⟨s.heap.objs.size,_,_,_,_,_,λi=>bs.getD i false,rfl,Walks.list (zg6 (I.ok.hd hc)) s.heap.objs.size p (y0p hlt) _,⟨⟨_,Heap.get?_push_size _ rfl,rfl,rfl⟩,pl.isList.push _⟩,λi v s' Q' E' hv hq=>?_,λh' tk hk=>?_⟩
  ·have hv':(bs.map Value.bool)[i]?=some v:=by simpa using hv
   rw[y06] at hv';cases hb:bs[i]? with
   | none=>rw[hb] at hv';cases hv'
   | some b =>
    rw[hb] at hv';cases hv';have hq':Q' (bs.getD i false) s':=hq;rw[y05,hb] at hq';exact wpAny_truthy_bool hq'
  ·refine⟨.bl (bs.any id),H,walked I hk,?_,q⟩;rw[←zfw bs];simp[RelV]
 ·exact h.elim
@[reducible] def zrf (K:y03)(xs:List V)(H:Hp)(Q:VK):Prop:=match xs with
 | [.ref p]=>∃ns:List Int,(SqL K H p (ns.map V.int))/\Q (.int ns.sum) H
 | _=>False
theorem z81 (ns:List Int):∀n,n≤ns.length->preSum (λi=>ns.getD i 0) n=(ns.take n).sum
 | 0,_=>by simp[preSum]
 | n+1,h=>by
  have ih:=z81 ns n (by lia)
  have hn:n<ns.length:=by lia
  have e:ns.take (n+1)=ns.take n ++ [ns[n]]:=(y5d hn).symm;rw[preSum,ih,y05,y01 hn,e,y1x];simp
theorem zfh (ns:List Int):preSum (λi=>ns.getD i 0) ns.length=ns.sum:=by
 rw[z81 ns _ (y0b _),List.take_length]
theorem zoj (hc:X.calm=true:=by rfl):z4i X (.builtin "sum") (zrf X.K):=by
 intro ao s σ H xs us Q I r h;unfold zrf at h
 split at h
 ·rename_i p;obtain⟨ns,hS,q⟩:=h;obtain⟨u,rfl,ru⟩:=z7l r;cases ru;obtain⟨its,rv,pl,hz⟩:=I.list hS;have hlen:=rv.length;have hlt:p<s.heap.objs.size:=by
   obtain⟨o,n,e,_⟩:=pl;exact Heap.lt_size e
  refine call_sum_walkG (wpAny_pyIter_list pl.isList ?_);refine⟨s.heap.objs.size,_,_,_,_,_,λi=>ns.getD i 0,rfl,Walks.list (zg6 (I.ok.hd hc)) s.heap.objs.size p (y0p hlt) _,⟨⟨_,Heap.get?_push_size _ rfl,rfl,rfl⟩,pl.isList.push _⟩,λb hb=>?_,λi v hv=>?_,λh' tk t' hk=>?_⟩
  ·rw[Heap.size_push];simp only[y0k,y15,or_false] at hb;rcases hb with rfl | rfl
   ·exact y2x _
   ·exact y2p hlt
  ·exact z2y rv (by simpa using hv)
  ·refine⟨.int ns.sum,H,walked I hk,⟨t',?_⟩,q⟩;have e:its.toArray.size=ns.length:=by simpa using hlen.symm
   rw[e,zfh]
 ·exact h.elim
@[reducible] def zp9 (K:y03)(xs:List V)(H:Hp)(Q:VK):Prop:=match xs with
 | [.ref p]=>∃ns:List Int,SqL K H p (ns.map V.int)/\ns ≠ []/\∀z,z∈ns->(∀y∈ns,z≤y)->Q (.int z) H
 | _=>False
theorem z9h (bt:Nat->Nat->Bool):∀k,argBest bt k≤k
 | 0=>y0b _
 | k+1=>by
  have:=z9h bt k;unfold argBest
  split<;>lia
theorem z6o (ns:List Int):∀k,∀j≤k,ns.getD (argBest (λi j=>decide (ns.getD i 0<ns.getD j 0)) k) 0≤ns.getD j 0
 | 0,j,h=>by
  have:j=0:=by lia
  subst this;exact y20 _
 | k+1,j,h=>by
  have ih:=z6o ns k;unfold argBest
  split
  ·rename_i c;have c':=of_decide_eq_true c
   by_cases e:j=k+1
   ·subst e;exact y20 _
   ·have:=ih j (by lia)
    lia
  ·rename_i c
   by_cases e:j=k+1
   ·subst e;have:¬ns.getD (k+1) 0<ns.getD (argBest (λi j=>decide (ns.getD i 0<ns.getD j 0)) k) 0:=λz=>c (decide_eq_true z);lia
   ·exact ih j (by lia)
theorem zos (hc:X.calm=true:=by rfl):z4i X (.builtin "min") (zp9 X.K):=by
 intro ao s σ H xs us Q I r h;unfold zp9 at h
 split at h
 ·rename_i p;obtain⟨ns,hS,hne,q⟩:=h;obtain⟨u,rfl,ru⟩:=z7l r;cases ru;obtain⟨its,rv,pl,hz⟩:=I.list hS;have hlen:=rv.length;have esz:its.toArray.size=ns.length:=by simpa using hlen.symm
  have hpos:0<ns.length:=y0x.mpr hne;have hlt:p<s.heap.objs.size:=by
   obtain⟨o,n,e,_⟩:=pl;exact Heap.lt_size e
  refine call_min_walk (wpAny_pyIter_list pl.isList ?_);refine⟨s.heap.objs.size,_,_,_,_,_,λi j=>decide (ns.getD i 0<ns.getD j 0),rfl,Walks.list (zg6 (I.ok.hd hc)) s.heap.objs.size p (y0p hlt) _,⟨⟨_,Heap.get?_push_size _ rfl,rfl,rfl⟩,pl.isList.push _⟩,λb hb=>?_,by lia,λi j vi vj s' Q' E' hi hj hq=>?_,λv h' tk hv hk=>?_⟩
  ·rw[Heap.size_push];simp only[y0k,y15,or_false] at hb;rcases hb with rfl | rfl
   ·exact y2x _
   ·exact y2p hlt
  ·obtain⟨t1,rfl⟩:=z2y rv (by simpa using hi)
   obtain⟨t2,rfl⟩:=z2y rv (by simpa using hj)
   exact lt_int hq
  ·have hv':its[argBest (λi j=>decide (ns.getD i 0<ns.getD j 0)) (its.length - 1)]?=some v:=by simpa using hv
   obtain⟨t,rfl⟩:=z2y rv hv';have esz':its.length=ns.length:=by simpa using esz
   rw[esz'];have hb:=z9h (λi j=>decide (ns.getD i 0<ns.getD j 0)) (ns.length - 1);refine⟨.int _,H,walked I hk,⟨t,rfl⟩,q _ ?_ λy hy=>?_⟩
   ·rw[y05,y01 (by lia)]
    exact y2i _
   ·obtain⟨j,hj⟩:=y08 hy;have hjl:=(y00.mp hj).1;have:=z6o ns (ns.length - 1) j (by lia)
    rw[show ns.getD j 0=y by rw[y05,hj];rfl] at this
    exact this
 ·exact h.elim
end
end L2.EX
namespace PM
structure Net where
 G:Nat
 nE:Nat
 ends:List (Nat×Nat)
 at':List (List Nat)
structure Net.WF (N:Net):Prop where
 gle:N.G≤N.nE
 len:N.at'.length=N.nE
 lo:∀(k:Nat) p,N.ends[k]?=some p->p.1<N.G/\N.G≤p.2/\p.2<N.nE
 mem:∀(e:Nat) l k,N.at'[e]?=some l->(k∈l↔∃p,N.ends[k]?=some p/\(p.1=e∨p.2=e))
def inc (p:Nat×Nat)(e:Nat):Bool:=decide (p.1=e∨p.2=e)
def load:List (Nat×Nat)->List Int->Nat->Int
 | p::r,s::q,e=>(if inc p e then s else 0)+load r q e
 | _,_,_=>0
theorem zdo:∀{ends:List (Nat×Nat)} {ap:List Int} {k:Nat} {v s:Int} {p:Nat×Nat} {e:Nat},ends[k]?=some p->ap[k]?=some s->load ends (ap.set k v) e=load ends ap e+(if inc p e then v - s else 0)
 | [],_,_,_,_,_,_,h,_=>by simp at h
 | _::_,[],_,_,_,_,_,_,h=>by simp at h
 | p::r,s::q,0,v,s',p',e,h1,h2=>by
  simp at h1 h2;subst h1 h2;simp only[y40,load]
  split<;>lia
 | p::r,s::q,k+1,v,s',p',e,h1,h2=>by
  have ih:=zdo (ends:=r) (ap:=q) (k:=k) (v:=v) (s:=s') (p:=p') (e:=e) (by simpa using h1) (by simpa using h2)
  simp only[y41,load,ih];lia
def addAll (a:Int)(ap:List Int)(l:List Nat):List Int:=l.foldl (λs k=>s.set k (s.getD k 0+a)) ap
theorem addAll_len (a:Int):∀(l:List Nat) (ap:List Int),(addAll a ap l).length=ap.length
 | [],_=>rfl
 | k::r,ap=>by
  show(addAll a (ap.set k _) r).length=_;rw[addAll_len a r,y2a]
def z3h (ends:List (Nat×Nat))(e:Nat):List Nat->Int
 | []=>0
 | k::r=>(match ends[k]? with | some p=>if inc p e then 1 else 0 | none=>0)+z3h ends e r
theorem z5n {ends:List (Nat×Nat)}{a:Int}{e:Nat}:∀{l:List Nat} {ap:List Int},ap.length=ends.length->(∀k∈l,k<ends.length)->load ends (addAll a ap l) e=load ends ap e+a*z3h ends e l
 | [],ap,_,_=>by simp[addAll,z3h]
 | k::r,ap,hl,hk=>by
  have hk0:k<ends.length:=hk k y0d;have hs:ap[k]?=some (ap[k]'(by lia)):=y01 (by lia)
  have hp:ends[k]?=some ends[k]:=y01 hk0;have ih:=z5n (ends:=ends) (a:=a) (e:=e) (l:=r) (ap:=ap.set k (ap.getD k 0+a)) (by simpa using hl) (λj hj=>hk j (y0a _ hj))
  show load ends (addAll a (ap.set k (ap.getD k 0+a)) r) e=_;rw[ih,zdo hp hs,z3h,hp];have hg:ap.getD k 0=ap[k]'(by lia):=by simp[y1l,hs]
  rw[hg]
  by_cases hc:inc ends[k] e=true
  ·simp only[hc,if_true,y5m,y4s];lia
  ·simp only[hc,if_false,y5m,Int.mul_zero];simp
theorem z5z {a:Int}:∀{l:List Nat} {ap:List Int} {k:Nat} {s:Int},ap[k]?=some s->(addAll a ap l)[k]?=some (s+a*(l.count k:Int))
 | [],ap,k,s,h=>by simp[addAll,h]
 | j::r,ap,k,s,h=>by
  have hk:k<ap.length:=(y00.mp h).1;show(addAll a (ap.set j (ap.getD j 0+a)) r)[k]?=_
  by_cases e:j=k
  ·subst e;have h':(ap.set j (ap.getD j 0+a))[j]?=some (s+a):=by
    rw[y0v hk];simp[y1l,h]
   rw[z5z h',List.count_cons_self]
   push_cast
   rw[y5m];simp;lia
  ·have h':(ap.set j (ap.getD j 0+a))[k]?=some s:=by rw[y13 e];exact h
   rw[z5z h',List.count_cons_of_ne (by simpa using e)]
def alt {α:Type}:Bool->List α->List α
 | _,[]=>[]
 | true,x::r=>x::alt false r
 | false,_::r=>alt true r
theorem alt_mem {α:Type}{x:α}:∀{b:Bool} {l:List α},x∈alt b l->x∈l
 | _,[],h=>by cases ‹Bool›<;>simp[alt] at h
 | true,y::r,h=>by
  rcases y0k.mp h with rfl | h
  ·exact y0d
  ·exact y0a _ (alt_mem h)
 | false,y::r,h=>y0a _ (alt_mem (b:=true) h)
theorem zej {α:Type}{x:α}:∀{b:Bool} {l:List α},x∈alt b l->∃i,l[i]?=some x/\i % 2=(if b then 0 else 1)
 | b,[],h=>by cases b<;>simp[alt] at h
 | true,y::r,h=>by
  rcases y0k.mp h with rfl | h
  ·exact⟨0,rfl,rfl⟩
  ·obtain⟨i,h1,h2⟩:=zej (b:=false) h;exact⟨i+1,by simpa using h1,by simp at h2 ⊢;lia⟩
 | false,y::r,h=>by
  obtain⟨i,h1,h2⟩:=zej (b:=true) h;exact⟨i+1,by simpa using h1,by simp at h2 ⊢;lia⟩
theorem zg3 {l:List Nat}(hn:l.Nodup)(b:Bool)(k:Nat):(alt b l).count k≤1:=by
 have hs:∀(b:Bool) (l:List Nat),(alt b l).Sublist l:=by
  intro b l
  induction l generalizing b with
  | nil=>cases b<;>simp[alt]
  | cons x r ih =>
   cases b
   ·exact List.Sublist.cons _ (ih true)
   ·exact List.Sublist.cons_cons _ (ih false)
 exact y4p.mp (hn.sublist (hs b l)) k
def Tie (N:Net)(a k b:Nat):Prop:=∃p,N.ends[k]?=some p/\((p.1=a/\p.2=b)∨(p.2=a/\p.1=b))
def zme (N:Net):Nat->List Nat->Nat->Prop
 | e,[],f=>e=f
 | e,k::r,f=>∃b,Tie N e k b/\zme N b r f
def one (c:Prop) [Decidable c]:Int:=if c then 1 else 0
theorem zm3 {N:Net}(W:N.WF){a k b x:Nat}(h:Tie N a k b):(match N.ends[k]? with | some p=>if inc p x then (1:Int) else 0 | none=>0)=one (x=a)+one (x=b):=by
 obtain⟨p,e,h⟩:=h;have hw:=W.lo k p e;rw[e];simp only[inc,one,decide_eq_true_eq];rcases h with ⟨rfl,rfl⟩ | ⟨rfl,rfl⟩
 ·by_cases h1:p.1=x<;>by_cases h2:p.2=x<;>simp[h1,h2,eq_comm]<;>lia
 ·by_cases h1:p.1=x<;>by_cases h2:p.2=x<;>simp[h1,h2,eq_comm]<;>lia
theorem z90 {N:Net}(W:N.WF){f x:Nat}:∀{way:List Nat} {e:Nat},zme N e way f->z3h N.ends x (alt true way) - z3h N.ends x (alt false way)=one (x=e)+(if way.length % 2=0 then - one (x=f) else one (x=f))
 | [],e,h=>by
  have h':e=f:=h;subst h';simp[alt,z3h];lia
 | k::r,e,h=>by
  obtain⟨b,t,c⟩:=h;have ih:=z90 W (x:=x) c;have hi:=zm3 W (x:=x) t
  show((match N.ends[k]? with | some p=>if inc p x then (1:Int) else 0 | none=>0)+z3h N.ends x (alt false r)) - z3h N.ends x (alt true r)=_
  rw[hi];simp only[y1a]
  by_cases hp:r.length % 2=0
  ·rw[if_pos hp] at ih;rw[if_neg (by lia)]
   lia
  ·rw[if_neg hp] at ih;rw[if_pos (by lia)]
   lia
structure Flow (N:Net)(cap ap aj:List Int):Prop where
 ls:ap.length=N.ends.length
 lc:cap.length=N.nE
 lp:aj.length=N.nE
 nn:∀(k:Nat) s,ap[k]?=some s->0≤s
 eq:∀(e:Nat) c s,cap[e]?=some c->aj[e]?=some s->s=c - load N.ends ap e
 sp:∀(e:Nat) s,aj[e]?=some s->0≤s
def Go (N:Net)(ap:List Int)(a k:Nat):Prop:=a<N.G∨∃s,ap[k]?=some s/\0<s
def Lv (aa:List Int)(e:Nat):Int:=aa.getD e (-1)
structure Path (N:Net)(aa ap:List Int)(es way:List Nat):Prop where
 len:es.length=way.length+1
 link:∀(i:Nat) k,way[i]?=some k->∃a b,es[i]?=some a/\es[i+1]?=some b/\Tie N a k b/\Go N ap a k/\Lv aa b=Lv aa a+1
theorem zea {N:Net}:∀{way es:List Nat} {g f:Nat},es.length=way.length+1->es[0]?=some g->es[way.length]?=some f->(∀(i:Nat) k,way[i]?=some k->∃a b,es[i]?=some a/\es[i+1]?=some b/\Tie N a k b)->zme N g way f
 | [],es,g,f,_,h0,h1,_=>by
  have h1':es[0]?=some f:=h1;rw[h0] at h1';exact y12 h1'
 | k::r,[],g,f,hl,_,_,_=>by simp at hl
 | k::r,e::es,g,f,hl,h0,h1,h=>by
  obtain⟨a,b,ea,eb,t⟩:=h 0 k rfl;have e1:e=g:=by simpa using h0
  have e2:e=a:=by simpa using ea
  subst e1 e2;refine⟨b,t,zea (es:=es) (by simpa using hl) (by simpa using eb) (by simpa using h1) λi k' hk=>?_⟩
  obtain⟨a',b',ea',eb',t'⟩:=h (i+1) k' (by simpa using hk)
  exact⟨a',b',by simpa using ea',by simpa using eb',t'⟩
theorem Path.lev {N:Net}{aa ap:List Int}{es way:List Nat}(P:Path N aa ap es way){g:Nat}(h0:es[0]?=some g):∀{i e:Nat},es[i]?=some e->Lv aa e=Lv aa g+i
 | 0,e,h=>by
  rw[h0] at h;cases h;simp
 | i+1,e,h=>by
  have hi:i+1<es.length:=(y00.mp h).1;have hw:i<way.length:=by have:=P.len;lia
  obtain⟨a,b,ea,eb,_,_,hl⟩:=P.link i way[i] (y01 hw);rw[h] at eb;cases eb;have:=P.lev h0 ea;rw[hl,this]
  push_cast
  lia
theorem Tie.side {N:Net}(W:N.WF){a k b:Nat}(t:Tie N a k b):(a<N.G↔¬b<N.G):=by
 obtain⟨p,e,h⟩:=t;have:=W.lo k p e;rcases h with ⟨rfl,rfl⟩ | ⟨rfl,rfl⟩<;>lia
theorem Path.side {N:Net}(W:N.WF){aa ap:List Int}{es way:List Nat}(P:Path N aa ap es way){g:Nat}(h0:es[0]?=some g)(hg:g<N.G):∀{i e:Nat},es[i]?=some e->(e<N.G↔i % 2=0)
 | 0,e,h=>by
  rw[h0] at h;cases h;simp[hg]
 | i+1,e,h=>by
  have hi:i+1<es.length:=(y00.mp h).1;have hw:i<way.length:=by have:=P.len;lia
  obtain⟨a,b,ea,eb,t,_,_⟩:=P.link i way[i] (y01 hw);rw[h] at eb;cases eb;have h1:=P.side W h0 hg ea;have h2:=t.side W
  by_cases ha:a<N.G
  ·have:¬e<N.G:=h2.mp ha;have:i % 2=0:=h1.mp ha
   constructor<;>intro q<;>lia
  ·have q1:e<N.G:=Classical.byContradiction λz=>ha (h2.mpr z);have q2:¬i % 2=0:=λz=>ha (h1.mpr z)
   constructor
   ·intro _;lia
   ·intro _;exact q1
theorem Path.nodup {N:Net}{aa ap:List Int}{es way:List Nat}(P:Path N aa ap es way):way.Nodup:=by
 cases h0:es[0]? with
 | none =>
  have:=P.len;rw[y39] at h0;lia
 | some g =>
  rw[List.Nodup,y2b];intro i j hi hj hij e;obtain⟨a,b,ea,eb,⟨p,ep,hp⟩,_,l1⟩:=P.link i way[i] (y01 hi);obtain⟨c,d,ec,ed,⟨q,eq,hq⟩,_,l2⟩:=P.link j way[j] (y01 hj);rw[←e,ep] at eq;cases eq;have v1:=P.lev h0 ea;have v2:=P.lev h0 ec
  rcases hp with ⟨rfl,rfl⟩ | ⟨rfl,rfl⟩<;>rcases hq with ⟨rfl,rfl⟩ | ⟨rfl,rfl⟩<;>lia
theorem Path.lt {N:Net}{aa ap:List Int}{es way:List Nat}(P:Path N aa ap es way){k:Nat}(h:k∈way):k<N.ends.length:=by
 obtain⟨i,hi⟩:=y08 h;obtain⟨a,b,_,_,⟨p,ep,_⟩,_,_⟩:=P.link i k hi;exact(y00.mp ep).1
def sendBy (a:Int)(ap:List Int)(way:List Nat):List Int:=addAll (-a) (addAll a ap (alt true way)) (alt false way)
theorem send_len (a:Int)(ap:List Int)(way:List Nat):(sendBy a ap way).length=ap.length:=by
 unfold sendBy;rw[addAll_len,addAll_len]
theorem zik {N:Net}(W:N.WF){aa ap:List Int}{es way:List Nat}(P:Path N aa ap es way){g f:Nat}{a:Int}(h0:es[0]?=some g)(h1:es[way.length]?=some f)(hg:g<N.G)(hf:¬f<N.G)(hl:ap.length=N.ends.length)(x:Nat) :
  load N.ends (sendBy a ap way) x=load N.ends ap x+a*(one (x=g)+one (x=f)):=by
 have c:=zea P.len h0 h1 λi k hk=>let ⟨a,b,e1,e2,t,_⟩:=P.link i k hk;⟨a,b,e1,e2,t⟩
 have d:=z90 W (x:=x) c;have hodd:way.length % 2=1:=by
  have:=P.side W h0 hg h1;have:¬way.length % 2=0:=λz=>hf (this.mpr z)
  lia
 rw[if_neg (by lia)] at d
 unfold sendBy;rw[z5n (by rw[addAll_len];exact hl) (λk hk=>P.lt (alt_mem hk)),z5n hl (λk hk=>P.lt (alt_mem hk))]
 rw[←d,Int.mul_sub,y7e];lia
theorem zga {a:Int}{ap:List Int}{way:List Nat}{k:Nat}{s:Int}(h:ap[k]?=some s):(sendBy a ap way)[k]?=some (s+a*((alt true way).count k:Int) - a*((alt false way).count k:Int)):=by
 unfold sendBy;rw[z5z (z5z h),y7e];rfl
theorem Flow.send {N:Net}(W:N.WF){cap aa ap aj:List Int}{es way:List Nat}(F:Flow N cap ap aj)(P:Path N aa ap es way){g f:Nat}{a x y:Int}(h0:es[0]?=some g)(h1:es[way.length]?=some f)(hg:g<N.G)(hf:¬f<N.G)
  (hx:aj[g]?=some x) (hy:aj[f]?=some y) (ha:0≤a) (hax:a≤x) (hay:a≤y) (hb:∀k∈alt false way,∀s,ap[k]?=some s->a≤s):Flow N cap (sendBy a ap way) ((aj.set g (x - a)).set f (y - a)):=by
 have hne:g≠f:=by lia
 have hgl:g<aj.length:=(y00.mp hx).1;have hfl:f<aj.length:=(y00.mp hy).1
 refine⟨by rw[send_len];exact F.ls,F.lc,by simpa using F.lp,λk s' h=>?_,λe c s' hc h=>?_,λe s' h=>?_⟩
 ·have hk:k<ap.length:=by
   have:=(y00.mp h).1;rw[send_len] at this;exact this
  have hs:ap[k]?=some ap[k]:=y01 hk;rw[zga hs] at h;cases h;have n0:=F.nn k _ hs
  have c1:(0:Int)≤a*((alt true way).count k:Int):=y2g ha (y6i _)
  by_cases hm:k∈alt false way
  ·have hq:=hb k hm _ hs;have h2:=zg3 P.nodup false k
   have c2:a*((alt false way).count k:Int)≤a*1:=y2c (by lia) ha
   lia
  ·have z:(alt false way).count k=0:=y6j.mpr hm;rw[z];simp;lia
 ·rw[zik W P h0 h1 hg hf F.ls]
  by_cases e1:e=f
  ·subst e1;rw[y0v (by simpa using hfl)] at h
   cases h;have:=F.eq e c y hc hy;simp[one,Ne.symm hne];lia
  ·rw[y13 (Ne.symm e1)] at h
   by_cases e2:e=g
   ·subst e2;rw[y0v hgl] at h;cases h;have:=F.eq e c x hc hx;simp[one,hne];lia
   ·rw[y13 (Ne.symm e2)] at h;have:=F.eq e c s' hc h;simp[one,e1,e2];lia
 ·by_cases e1:e=f
  ·subst e1;rw[y0v (by simpa using hfl)] at h
   cases h;lia
  ·rw[y13 (Ne.symm e1)] at h
   by_cases e2:e=g
   ·subst e2;rw[y0v hgl] at h;cases h;lia
   ·rw[y13 (Ne.symm e2)] at h;exact F.sp e s' h
structure Steps (N:Net)(ap aj aa:List Int):Prop where
 len:aa.length=N.nE
 zero:∀e,Lv aa e=0->e<N.G/\∃x,aj[e]?=some x/\0<x
 src:∀(g:Nat) x,g<N.G->aj[g]?=some x->0<x->Lv aa g=0
 pred:∀e,1≤Lv aa e->∃a k,Tie N a k e/\Go N ap a k/\Lv aa a+1=Lv aa e
def Room (N:Net)(aj:List Int)(e:Nat):Prop:=N.G≤e/\∃x,aj[e]?=some x/\0<x
def zo9 (N:Net)(ap aa:List Int):Prop:=∀a k b,Tie N a k b->Go N ap a k->0≤Lv aa a->0≤Lv aa b
def Leads (N:Net)(ap aa:List Int)(a k b:Nat):Prop:=Tie N a k b/\Go N ap a k/\Lv aa b=Lv aa a+1
def Exh (N:Net)(aj aB:List Int)(e:Nat):Prop:=¬Room N aj e/\∃l,N.at'[e]?=some l/\aB[e]?=some (l.length:Int)
def Dead (N:Net)(ap aj aa aB:List Int):Prop:=∀(e:Nat) l (j:Nat) k t,N.at'[e]?=some l->l[j]?=some k->aB[e]?=some t->(j:Int)<t->∀b,Leads N ap aa e k b->Exh N aj aB b
theorem Tie.mem {N:Net}(W:N.WF){a k b:Nat}{l:List Nat}(t:Tie N a k b)(h:N.at'[a]?=some l):k∈l:=by
 obtain⟨p,e,q⟩:=t;refine(W.mem a l k h).mpr ⟨p,e,?_⟩;rcases q with ⟨q,_⟩ | ⟨q,_⟩
 ·exact .inl q
 ·exact .inr q
theorem Dead.next {N:Net}(W:N.WF){ap aj aa aB:List Int}(D:Dead N ap aj aa aB){a k b:Nat}(x:Exh N aj aB a)(h:Leads N ap aa a k b):Exh N aj aB b:=by
 obtain⟨_,l,h1,h2⟩:=x;have hm:=h.1.mem W h1;obtain⟨j,hj⟩:=y08 hm;have hjl:j<l.length:=(y00.mp hj).1
 exact D a l j k _ h1 hj h2 (by lia) b h
theorem Dead.all {N:Net}(W:N.WF){ap aj aa aB:List Int}(S:Steps N ap aj aa)(D:Dead N ap aj aa aB)(h:∀g,Lv aa g=0->Exh N aj aB g):∀(d:Nat) e,Lv aa e=d->Exh N aj aB e
 | 0,e,he=>h e (by simpa using he)
 | d+1,e,he=>by
  obtain⟨a,k,t,g,l⟩:=S.pred e (by rw[he];push_cast;lia)
  have ha:Lv aa a=d:=by push_cast at he;lia
  exact D.next W (Dead.all W S D h d a ha) ⟨t,g,by lia⟩
theorem Steps.least {N:Net}{ap aj aa:List Int}(S:Steps N ap aj aa)(T:Nat->Prop)(h1:∀(g:Nat) x,g<N.G->aj[g]?=some x->0<x->T g)(h2:∀a k b,Tie N a k b->Go N ap a k->T a->T b):∀(d:Nat) e,Lv aa e=d->T e
 | 0,e,he=>by
  obtain⟨hg,x,hx,h0⟩:=S.zero e (by simpa using he)
  exact h1 e x hg hx h0
 | d+1,e,he=>by
  obtain⟨a,k,t,g,l⟩:=S.pred e (by rw[he];push_cast;lia)
  exact h2 a k e t g (Steps.least S T h1 h2 d a (by push_cast at he;lia))
theorem Tie.symm {N:Net}{a k b:Nat}(t:Tie N a k b):Tie N b k a:=by
 obtain⟨p,e,h⟩:=t;exact⟨p,e,h.symm.imp (λz=>⟨z.2,z.1⟩) (λz=>⟨z.2,z.1⟩)⟩
structure Rows (N:Net)(ap aj:List Int)(d:Nat)(row:List Nat)(aa:List Int):Prop where
 st:Steps N ap aj aa
 row:∀e,e∈row↔Lv aa e=d
 top:∀e,Lv aa e≤d
 exp:∀a k b,Tie N a k b->Go N ap a k->0≤Lv aa a->Lv aa a<d->0≤Lv aa b
 dry:∀e,0≤Lv aa e->Lv aa e<d->¬Room N aj e
structure Behind (N:Net)(ap:List Int)(d:Nat)(row:List Nat)(aE:List Int)(done:Nat->Nat->Prop)(aa:List Int)(aD:List Nat):Prop where
 len:aa.length=aE.length
 old:∀e,0≤Lv aE e->Lv aa e=Lv aE e
 new:∀e,Lv aE e<0->(Lv aa e=d+1/\e∈aD/\∃a k,a∈row/\Tie N a k e/\Go N ap a k)∨(Lv aa e<0/\e ∉ aD)
 beh:∀e∈aD,Lv aE e<0
 cl:∀a k b,done a k->Tie N a k b->Go N ap a k->0≤Lv aa b
theorem lv_set {aa:List Int}{i e:Nat}{v:Int}(h:i<aa.length):Lv (aa.set i v) e=if e=i then v else Lv aa e:=by
 unfold Lv;rw[y05,y05]
 by_cases he:e=i
 ·subst he;rw[y0v h,if_pos rfl];rfl
 ·rw[y13 (Ne.symm he),if_neg he]
theorem Behind.start {N:Net}{ap:List Int}{d:Nat}{row:List Nat}{aE:List Int}:Behind N ap d row aE (λ_ _=>False) aE [] :=
 ⟨rfl,λ_ _=>rfl,λe h=>.inr ⟨h,by simp⟩,λe h=>by simp at h,λ_ _ _ h=>h.elim⟩
theorem Behind.weak {N:Net}{ap:List Int}{d:Nat}{row:List Nat}{aE aa:List Int}{aD:List Nat}{P Q:Nat->Nat->Prop}(B:Behind N ap d row aE P aa aD)(h:∀a k,Q a k->P a k):Behind N ap d row aE Q aa aD :=
 ⟨B.len,B.old,B.new,B.beh,λa k b q=>B.cl a k b (h a k q)⟩
theorem Behind.skip {N:Net}(W:N.WF){ap:List Int}{d:Nat}{row:List Nat}{aE aa:List Int}{aD:List Nat}{P:Nat->Nat->Prop}{a k b:Nat}(B:Behind N ap d row aE P aa aD)(t:Tie N a k b)(h:0≤Lv aa b∨¬Go N ap a k) :
  Behind N ap d row aE (λx y=>P x y∨(x=a/\y=k)) aa aD:=by
 refine⟨B.len,B.old,B.new,B.beh,λx y z q t' g=>?_⟩;rcases q with q | ⟨rfl,rfl⟩
 ·exact B.cl x y z q t' g
 ·have e:z=b:=by
   obtain⟨p,e1,h1⟩:=t;obtain⟨p',e2,h2⟩:=t';rw[e1] at e2;cases e2;have:=W.lo y p e1;rcases h1 with ⟨h1,h1'⟩ | ⟨h1,h1'⟩<;>rcases h2 with ⟨h2,h2'⟩ | ⟨h2,h2'⟩<;>lia
  subst e;rcases h with h | h
  ·exact h
  ·exact absurd g h
theorem Behind.mark {N:Net}(W:N.WF){ap:List Int}{d:Nat}{row:List Nat}{aE aa:List Int}{aD:List Nat}{P:Nat->Nat->Prop}{a k b:Nat}(B:Behind N ap d row aE P aa aD)(t:Tie N a k b)(g:Go N ap a k)(ha:a∈row)(hb:Lv aa b<0)(hl:b<aa.length) :
  Behind N ap d row aE (λx y=>P x y∨(x=a/\y=k)) (aa.set b (d+1)) (aD ++ [b]):=by
 have hb0:Lv aE b<0:=by
  rcases y2t (Lv aE b) 0 with z | z
  ·exact z
  ·have:=B.old b z;lia
 refine⟨by simpa using B.len,λe he=>?_,λe he=>?_,λe he=>?_,λx y z q t' g'=>?_⟩
 ·rw[lv_set hl,if_neg (by rintro rfl;lia)]
  exact B.old e he
 ·rw[lv_set hl]
  by_cases e1:e=b
  ·subst e1;rw[if_pos rfl];exact .inl ⟨rfl,by simp,a,k,ha,t,g⟩
  ·rw[if_neg e1];rcases B.new e he with ⟨h1,h2,h3⟩ | ⟨h1,h2⟩
   ·exact .inl ⟨h1,by simp[h2],h3⟩
   ·exact .inr ⟨h1,by simp[h2,e1]⟩
 ·rcases y0y.mp he with he | he
  ·exact B.beh e he
  ·have:e=b:=by simpa using he
   subst this;exact hb0
 ·rw[lv_set hl]
  split
  ·lia
  ·rename_i hz;rcases q with q | ⟨rfl,rfl⟩
   ·exact B.cl x y z q t' g'
   ·exfalso;apply hz;obtain⟨p,e1,h1⟩:=t;obtain⟨p',e2,h2⟩:=t';rw[e1] at e2;cases e2;have:=W.lo y p e1;rcases h1 with ⟨h1,h1'⟩ | ⟨h1,h1'⟩<;>rcases h2 with ⟨h2,h2'⟩ | ⟨h2,h2'⟩<;>lia
theorem Rows.next {N:Net}{ap aj:List Int}{d:Nat}{row:List Nat}{aE aa:List Int}{aD:List Nat}(R:Rows N ap aj d row aE)(B:Behind N ap d row aE (λa _=>a∈row) aa aD)(hd:∀e∈row,¬Room N aj e):Rows N ap aj (d+1) aD aa:=by
 have up:∀e,0≤Lv aa e->0≤Lv aE e∨(Lv aa e=d+1/\e∈aD/\∃a k,a∈row/\Tie N a k e/\Go N ap a k):=λe he=>by
  rcases y2t (Lv aE e) 0 with z | z
  ·rcases B.new e z with h | ⟨h,_⟩
   ·exact .inr h
   ·lia
  ·exact .inl z
 refine⟨⟨by rw[B.len];exact R.st.len,λe he=>?_,λg x hg hx h0=>?_,λe he=>?_⟩,λe=>⟨λhe=>?_,λhe=>?_⟩,λe=>?_,λa k b t g h0 h1=>?_,λe h0 h1=>?_⟩
 ·rcases up e (by lia) with z | ⟨z,_⟩
  ·exact R.st.zero e (by rw[←B.old e z];exact he)
  ·lia
 ·have:=R.st.src g x hg hx h0;rw[B.old g (by lia)]
  exact this
 ·rcases up e (by lia) with z | ⟨z,_,a,k,ha,t,g⟩
  ·obtain⟨a,k,t,g,l⟩:=R.st.pred e (by rw[←B.old e z];exact he)
   have h1:=B.old e z;have h2:=B.old a (by lia)
   exact⟨a,k,t,g,by lia⟩
  ·have h1:=(R.row a).mp ha;have h2:=B.old a (by lia)
   exact⟨a,k,t,g,by lia⟩
 ·rcases B.new e (B.beh e he) with ⟨h,_⟩ | ⟨_,h⟩
  ·push_cast;exact h
  ·exact absurd he h
 ·push_cast at he
  rcases up e (by lia) with z | ⟨_,z,_⟩
  ·have:=B.old e z;have:=R.top e
   lia
  ·exact z
 ·rcases y2t (Lv aa e) 0 with z | z
  ·lia
  ·rcases up e z with z' | ⟨z',_⟩
   ·have:=B.old e z';have:=R.top e
    push_cast;lia
   ·push_cast;lia
 ·push_cast at h1
  rcases up a h0 with z | ⟨z,_⟩
  ·have h2:=B.old a z;rcases y2t (Lv aa a) d with h3 | h3
   ·have:=R.exp a k b t g z (by lia)
    have:=B.old b this;lia
   ·exact B.cl a k b ((R.row a).mpr (by lia)) t g
  ·lia
 ·push_cast at h1
  rcases up e h0 with z | ⟨z,_⟩
  ·have h2:=B.old e z;rcases y2t (Lv aa e) d with h3 | h3
   ·exact R.dry e z (by lia)
   ·exact hd e ((R.row e).mpr (by lia))
  ·lia
def unr (aa:List Int):Nat:=aa.countP λs=>decide (s<0)
end PM
set_option linter.all false
namespace PM
structure Tr (N:Net)(aB:List Int):Prop where
 len:aB.length=N.nE
 ok:∀(e:Nat) l t,N.at'[e]?=some l->aB[e]?=some t->0≤t/\t≤l.length
theorem set_at {l:List Int}{e b:Nat}{v:Int}(h:b≠e):(l.set e v)[b]?=l[b]?:=y13 (Ne.symm h)
theorem Exh.keep {N:Net}{aj aB:List Int}{e b:Nat}{l:List Nat}{t v:Int}(x:Exh N aj aB b)(h1:N.at'[e]?=some l)(h2:aB[e]?=some t)(h3:t<l.length):Exh N aj (aB.set e v) b:=by
 obtain⟨n,l',h4,h5⟩:=x;refine⟨n,l',h4,?_⟩;have hne:b≠e:=by
  rintro rfl;rw[h1] at h4;cases h4;rw[h2] at h5;cases h5;lia
 rw[set_at hne];exact h5
theorem Dead.step {N:Net}{ap aj aa aB:List Int}(D:Dead N ap aj aa aB){e:Nat}{l:List Nat}{t k:Nat}(h1:N.at'[e]?=some l)(h2:aB[e]?=some (t:Int))(h3:l[t]?=some k)
  (h:∀b,Leads N ap aa e k b->Exh N aj aB b):Dead N ap aj aa (aB.set e ((t:Int)+1)):=by
 have hl:t<l.length:=(y00.mp h3).1;have he:e<aB.length:=(y00.mp h2).1
 intro e' l' j k' t' g1 g2 g3 g4 b L;have kp:Exh N aj aB b->Exh N aj (aB.set e ((t:Int)+1)) b:=λx=>x.keep h1 h2 (by lia)
 by_cases q:e'=e
 ·subst q;rw[h1] at g1;cases g1;rw[y0v he] at g3;cases g3
  by_cases q:j=t
  ·subst q;rw[h3] at g2;cases g2;exact kp (h b L)
  ·exact kp (D e' l j k' t h1 g2 h2 (by lia) b L)
 ·rw[set_at q] at g3;exact kp (D e' l' j k' t' g1 g2 g3 g4 b L)
theorem Tr.step {N:Net}{aB:List Int}(T:Tr N aB){e:Nat}{l:List Nat}{t:Nat}(h1:N.at'[e]?=some l)(h2:aB[e]?=some (t:Int))(h3:t<l.length):Tr N (aB.set e ((t:Int)+1)):=by
 have he:e<aB.length:=(y00.mp h2).1;refine⟨by simpa using T.len,λe' l' t' g1 g2=>?_⟩
 by_cases q:e'=e
 ·subst q;rw[h1] at g1;cases g1;rw[y0v he] at g2;cases g2;constructor<;>lia
 ·rw[set_at q] at g2;exact T.ok e' l' t' g1 g2
def pot:List (List Nat)->List Int->Nat
 | l::r,t::q=>(l.length - t.toNat)+pot r q
 | _,_=>0
theorem pot_step:∀{at':List (List Nat)} {aB:List Int} {e:Nat} {l:List Nat} {t:Nat},at'[e]?=some l->aB[e]?=some (t:Int)->t<l.length->pot at' (aB.set e ((t:Int)+1))+1=pot at' aB
 | [],_,_,_,_,h,_,_=>by simp at h
 | _::_,[],_,_,_,_,h,_=>by simp at h
 | l::r,x::q,0,l',t,h1,h2,h3=>by
  simp at h1 h2;subst h1 h2;simp only[y40,pot];lia
 | l::r,x::q,e+1,l',t,h1,h2,h3=>by
  have ih:=pot_step (at':=r) (aB:=q) (e:=e) (l:=l') (t:=t) (by simpa using h1) (by simpa using h2) h3
  simp only[y41,pot];lia
theorem lv_top:∀(aa:List Int),∃B:Nat,∀e,Lv aa e≤B
 | []=>⟨0,λe=>by simp[Lv]⟩
 | x::r=>by
  obtain⟨B,h⟩:=lv_top r;refine⟨B+x.toNat,λe=>?_⟩;cases e with
  | zero=>simp[Lv];lia
  | succ e =>
   have:=h e;simp[Lv] at this ⊢
   lia
structure Walk (N:Net)(ap aj aa:List Int)(g:Nat)(aB:List Int)(es way:List Nat):Prop where
 tr:Tr N aB
 dead:Dead N ap aj aa aB
 path:es ≠ []->Path N aa ap es way/\es[0]?=some g
 none:es = []->way = []/\Exh N aj aB g
 on:∀(i:Nat) k e,way[i]?=some k->es[i]?=some e->¬Room N aj e/\∃l t,N.at'[e]?=some l/\aB[e]?=some ((t:Nat):Int)/\l[t]?=some k
theorem Tie.uniq {N:Net}(W:N.WF){a k b c:Nat}(t:Tie N a k b)(t':Tie N a k c):b=c:=by
 obtain⟨p,e1,h1⟩:=t;obtain⟨p',e2,h2⟩:=t';rw[e1] at e2;cases e2;have:=W.lo k p e1;rcases h1 with ⟨h1,h1'⟩ | ⟨h1,h1'⟩<;>rcases h2 with ⟨h2,h2'⟩ | ⟨h2,h2'⟩<;>lia
theorem Path.inj {N:Net}{aa ap:List Int}{es way:List Nat}(P:Path N aa ap es way){g:Nat}(h0:es[0]?=some g){i j e:Nat}(h1:es[i]?=some e)(h2:es[j]?=some e):i=j:=by
 have a:=P.lev h0 h1;have b:=P.lev h0 h2
 lia
theorem Walk.skip {N:Net}{ap aj aa aB:List Int}{g:Nat}{es way:List Nat}(w:Walk N ap aj aa g aB es way){e:Nat}{l:List Nat}{t k:Nat}(he:es.getLast?=some e)(h1:N.at'[e]?=some l)(h2:aB[e]?=some (t:Int))(h3:l[t]?=some k)
  (h:∀b,¬Leads N ap aa e k b):Walk N ap aj aa g (aB.set e ((t:Int)+1)) es way:=by
 have hl:t<l.length:=(y00.mp h3).1;have hne:es ≠ []:=by
  rintro rfl;simp at he
 obtain⟨P,h0⟩:=w.path hne;refine⟨w.tr.step h1 h2 hl,w.dead.step h1 h2 h3 λb L=>absurd L (h b),w.path,λq=>absurd q hne,λi k' e' hk hi=>?_⟩;obtain⟨n,l',t',g1,g2,g3⟩:=w.on i k' e' hk hi;refine⟨n,l',t',g1,?_,g3⟩;have hw:i<way.length:=(y00.mp hk).1;have hlast:es[way.length]?=some e:=by
  rw[y1e] at he;have:=P.len;rw[show es.length - 1=way.length by lia] at he
  exact he
 rw[set_at (by rintro rfl;have:=P.inj h0 hi hlast;lia)]
 exact g2
theorem Walk.push {N:Net}{ap aj aa aB:List Int}{g:Nat}{es way:List Nat}(w:Walk N ap aj aa g aB es way){e b:Nat}{l:List Nat}{t k:Nat}(he:es.getLast?=some e)(h1:N.at'[e]?=some l)(h2:aB[e]?=some (t:Int))(h3:l[t]?=some k)
  (h:Leads N ap aa e k b) (hr:¬Room N aj e):Walk N ap aj aa g aB (es ++ [b]) (way ++ [k]):=by
 have hne:es ≠ []:=by
  rintro rfl;simp at he
 obtain⟨P,h0⟩:=w.path hne;have hlast:es[way.length]?=some e:=by
  rw[y1e] at he;have:=P.len;rw[show es.length - 1=way.length by lia] at he
  exact he
 have hpos:0<es.length:=y0x.mpr hne;refine⟨w.tr,w.dead,λ_=>⟨⟨by simp[P.len],λi k' hk=>?_⟩,?_⟩,λq=>absurd q (by simp),λi k' e' hk hi=>?_⟩
 ·rcases y33 i way.length with q | q | q
  ·rw[y0s q] at hk;obtain⟨a,c,ea,ec,r⟩:=P.link i k' hk;have:=P.len;exact⟨a,c,by rw[y0s (by lia)];exact ea,by rw[y0s (by lia)];exact ec,r⟩
  ·subst q;rw[y10 (y0b _)] at hk;simp at hk;subst hk;have:=P.len;refine⟨e,b,by rw[y0s (by lia)];exact hlast,?_,h.1,h.2.1,h.2.2⟩
   rw[y10 (by lia),show way.length+1 - es.length=0 by lia]
   rfl
  ·rw[y10 (by lia)] at hk
   rw[y0u (by simp;lia)] at hk
   cases hk
 ·rw[y0s hpos];exact h0
 ·rcases y33 i way.length with q | q | q
  ·rw[y0s q] at hk;have:=P.len;rw[y0s (by lia)] at hi
   exact w.on i k' e' hk hi
  ·subst q;rw[y10 (y0b _)] at hk;simp at hk;subst hk;have:=P.len;rw[y0s (by lia),hlast] at hi
   cases hi;exact⟨hr,l,t,h1,h2,h3⟩
  ·rw[y10 (by lia)] at hk
   rw[y0u (by simp;lia)] at hk
   cases hk
theorem Walk.pop {N:Net}(W:N.WF){ap aj aa aB:List Int}{g:Nat}{es way:List Nat}(w:Walk N ap aj aa g aB es way){e f:Nat}{l:List Nat}(hes:es.getLast?=some e)(he:es.dropLast.getLast?=some f)(h1:N.at'[e]?=some l)(h2:aB[e]?=some (l.length:Int))
  (hr:¬Room N aj e):∃(t:Nat) (l':List Nat),N.at'[f]?=some l'/\aB[f]?=some (t:Int)/\t<l'.length/\Walk N ap aj aa g (aB.set f ((t:Int)+1)) es.dropLast way.dropLast:=by
 have hne:es ≠ []:=by
  rintro rfl;simp at hes
 obtain⟨P,h0⟩:=w.path hne;have pl:=P.len;have hlast:es[way.length]?=some e:=by
  rw[y1e] at hes;rw[show es.length - 1=way.length by lia] at hes
  exact hes
 have hd:es.dropLast.length=way.length:=by simp;lia
 have hwpos:0<way.length:=by
  rcases y21 way.length with z | z
  ·rw[z] at hd;rw[y1j.mp hd] at he;simp at he
  ·exact z
 have hf:es[way.length - 1]?=some f:=by
  rw[y1e,hd] at he;rw[y2n,if_pos (by lia)] at he
  exact he
 obtain⟨k,hk⟩:∃k,way[way.length - 1]?=some k:=⟨_,y01 (by lia)⟩
 obtain⟨a,b,ea,eb,t,gg,lv⟩:=P.link _ k hk;rw[hf] at ea;cases ea;rw[show way.length - 1+1=way.length by lia,hlast] at eb
 cases eb;obtain⟨n,l',t',g1,g2,g3⟩:=w.on _ k f hk hf;have htl:t'<l'.length:=(y00.mp g3).1;have hx:Exh N aj aB e:=⟨hr,l,h1,h2⟩
 refine⟨t',l',g1,g2,htl,w.tr.step g1 g2 htl,w.dead.step g1 g2 g3 λb L=>?_,λ_=>⟨⟨by simp;lia,λi k' hk'=>?_⟩,?_⟩,λq=>?_,λi k' e' hk' hi=>?_⟩
 ·have:=t.uniq W L.1;subst this;exact hx
 ·rw[y2n] at hk'
  split at hk'
  ·rename_i hi;obtain⟨a,c,ea,ec,r⟩:=P.link i k' hk';exact⟨a,c,by rw[y2n,if_pos (by lia)];exact ea,by rw[y2n,if_pos (by lia)];exact ec,r⟩
  ·cases hk'
 ·rw[y2n,if_pos (by lia)]
  exact h0
 ·have:=congrArg y6a q;simp at this;lia
 ·rw[y2n] at hk' hi
  split at hk'
  ·rename_i hi';rw[if_pos (by lia)] at hi
   obtain⟨n',l2,t2,q1,q2,q3⟩:=w.on i k' e' hk' hi;refine⟨n',l2,t2,q1,?_,q3⟩;rw[set_at (by rintro rfl;have:=P.inj h0 hi hf;lia)]
   exact q2
  ·cases hk'
theorem Walk.fin {N:Net}{ap aj aa aB:List Int}{g:Nat}{es way:List Nat}(w:Walk N ap aj aa g aB es way){e:Nat}{l:List Nat}(hes:es.getLast?=some e)(he:es.dropLast = [])(h1:N.at'[e]?=some l)(h2:aB[e]?=some (l.length:Int))
  (hr:¬Room N aj e):way = []/\Walk N ap aj aa g aB [] []:=by
 have hne:es ≠ []:=by
  rintro rfl;simp at hes
 obtain⟨P,h0⟩:=w.path hne;have pl:=P.len;have hl:es.length=1:=by
  have:=congrArg y6a he;simp at this;have:0<es.length:=y0x.mpr hne
  lia
 have hw:way = []:=y1j.mp (by lia)
 have hg:e=g:=by
  rw[y1e,hl] at hes;have:es[0]?=some e:=hes;rw[h0] at this;cases this;rfl
 subst hg;exact⟨hw,w.tr,w.dead,λq=>absurd rfl q,λ_=>⟨rfl,hr,l,h1,h2⟩,λi k e' hk=>by simp at hk⟩
theorem Walk.short {N:Net}{ap aj aa aB:List Int}{g:Nat}{es way:List Nat}(w:Walk N ap aj aa g aB es way)(hg:Lv aa g=0){B:Nat}(hB:∀e,Lv aa e≤B):es.length≤B+1:=by
 by_cases hne:es = []
 ·subst hne;simp
 ·obtain⟨P,h0⟩:=w.path hne;have hpos:0<es.length:=y0x.mpr hne;have h:=P.lev h0 (i:=es.length - 1) (y01 (by lia))
  have:=hB (es[es.length - 1]'(by lia))
  lia
def wm (B:Nat)(at':List (List Nat))(aB:List Int)(es:List Nat):Nat:=if es = [] then 0 else pot at' aB*(B+3)+(B+2 - es.length)+1
end PM
set_option linter.all false
namespace PM
theorem zng {α:Type}{x:α}{way:List α}(h:x∈alt false way):∃i,way[i]?=some x/\i % 2=1:=by
 obtain⟨i,h1,h2⟩:=zej h;exact⟨i,h1,by simpa using h2⟩
theorem zjh {α:Type}{x:α}{way:List α}(h:x∈alt true way):∃i,way[i]?=some x/\i % 2=0:=by
 obtain⟨i,h1,h2⟩:=zej h;exact⟨i,h1,by simpa using h2⟩
theorem Path.back {N:Net}(W:N.WF){aa ap:List Int}{es way:List Nat}(P:Path N aa ap es way){g:Nat}(h0:es[0]?=some g)(hg:g<N.G){k:Nat}(h:k∈alt false way):∃s,ap[k]?=some s/\0<s:=by
 obtain⟨i,hk,hi⟩:=zng h;obtain⟨a,b,ea,eb,t,go,_⟩:=P.link i k hk;have:=P.side W h0 hg ea;rcases go with go | go
 ·lia
 ·exact go
theorem Leads.before {N:Net}(W:N.WF){aa ap:List Int}{es way:List Nat}(P:Path N aa ap es way){g:Nat}(h0:es[0]?=some g)(hg:g<N.G){x:Int}(hx:0≤x)(hl:ap.length=N.ends.length){a k b:Nat}(L:Leads N (sendBy x ap way) aa a k b):Leads N ap aa a k b:=by
 obtain⟨t,go,lv⟩:=L;refine⟨t,?_,lv⟩;rcases go with go | ⟨s',h1,h2⟩
 ·exact .inl go
 by_cases ha:a<N.G
 ·exact .inl ha
 have hk:k<ap.length:=by
  have:=(y00.mp h1).1;rw[send_len] at this;exact this
 have hs:ap[k]?=some ap[k]:=y01 hk;refine .inr ⟨_,hs,?_⟩;rw[zga hs] at h1;cases h1;have c2:(0:Int)≤x*((alt false way).count k:Int):=y2g hx (y6i _)
 by_cases hm:k∈alt true way
 ·exfalso;obtain⟨i,hk',hi⟩:=zjh hm;obtain⟨c,d,ec,ed,t',_,lv'⟩:=P.link i k hk';have hc:c<N.G:=(P.side W h0 hg ec).mpr hi;obtain⟨p,e1,q1⟩:=t;obtain⟨p',e2,q2⟩:=t';rw[e1] at e2;cases e2;have:=W.lo k p e1
  have hcb:c=b/\d=a:=by
   rcases q1 with ⟨q1,q1'⟩ | ⟨q1,q1'⟩<;>rcases q2 with ⟨q2,q2'⟩ | ⟨q2,q2'⟩<;>constructor<;>lia
  obtain⟨rfl,rfl⟩:=hcb;lia
 ·have z:(alt true way).count k=0:=y6j.mpr hm;rw[z] at h2;simp at h2;lia
theorem Room.le {N:Net}{aj aG:List Int}(h:∀(e:Nat) x y,aj[e]?=some x->aG[e]?=some y->y≤x)(hl:aj.length=aG.length){e:Nat}(r:Room N aG e):Room N aj e:=by
 obtain⟨h1,y,h2,h3⟩:=r;have he:e<aj.length:=by
  have:=(y00.mp h2).1;lia
 have hx:aj[e]?=some aj[e]:=y01 he;have:=h e _ _ hx h2
 exact⟨h1,_,hx,by lia⟩
theorem Dead.send {N:Net}(W:N.WF){aa ap aj aG aB:List Int}{es way:List Nat}(P:Path N aa ap es way){g:Nat}(h0:es[0]?=some g)(hg:g<N.G){x:Int}(hx:0≤x)(hl:ap.length=N.ends.length)
  (h:∀(e:Nat) x y,aj[e]?=some x->aG[e]?=some y->y≤x) (hl':aj.length=aG.length) (D:Dead N ap aj aa aB):Dead N (sendBy x ap way) aG aa aB:=by
 intro e l j k t h1 h2 h3 h4 b L;obtain⟨n,r⟩:=D e l j k t h1 h2 h3 h4 b (L.before W P h0 hg hx hl);exact⟨λq=>n (q.le h hl'),r⟩
theorem zd1:∀{l:List Int} {i:Nat} {x v:Int},l[i]?=some x->(l.set i v).sum=l.sum+v - x
 | [],_,_,_,h=>by simp at h
 | y::r,0,x,v,h=>by
  simp at h;subst h;simp only[y40,y0q];lia
 | y::r,i+1,x,v,h=>by
  have ih:=zd1 (l:=r) (i:=i) (x:=x) (v:=v) (by simpa using h)
  simp only[y41,y0q,ih];lia
theorem sum_nn:∀{l:List Int},(∀(i:Nat) x,l[i]?=some x->0≤x)->0≤l.sum
 | [],_=>by simp
 | y::r,h=>by
  have h0:=h 0 y rfl;have ih:=sum_nn (l:=r) λi x hx=>h (i+1) x (by simpa using hx)
  simp only[y0q];lia
structure Sent (N:Net)(cap:List Int)(ap aj:List Int)(way:List Nat)(g f:Nat)(a:Int)(aG:List Int):Prop where
 flow:Flow N cap (sendBy a ap way) aG
 le:∀(e:Nat) x y,aj[e]?=some x->aG[e]?=some y->y≤x
 sum:aG.sum=aj.sum - 2*a
theorem Flow.ap {N:Net}(W:N.WF){cap aa ap aj:List Int}{es way:List Nat}(F:Flow N cap ap aj)(P:Path N aa ap es way){g f:Nat}{a x y:Int}(h0:es[0]?=some g)(h1:es[way.length]?=some f)(hg:g<N.G)(hf:¬f<N.G)
  (hx:aj[g]?=some x) (hy:aj[f]?=some y) (ha:0≤a) (hax:a≤x) (hay:a≤y) (hb:∀k∈alt false way,∀s,ap[k]?=some s->a≤s):Sent N cap ap aj way g f a ((aj.set g (x - a)).set f (y - a)):=by
 have hne:f≠g:=by lia
 have hgl:g<aj.length:=(y00.mp hx).1;have hfl:f<aj.length:=(y00.mp hy).1
 have hy':(aj.set g (x - a))[f]?=some y:=by rw[set_at hne];exact hy
 refine⟨F.send W P h0 h1 hg hf hx hy ha hax hay hb,λe u v hu hv=>?_,?_⟩
 ·by_cases e1:e=f
  ·subst e1;rw[y0v (by simpa using hfl)] at hv
   cases hv;rw[hy] at hu;cases hu;lia
  ·rw[set_at e1] at hv
   by_cases e2:e=g
   ·subst e2;rw[y0v hgl] at hv;cases hv;rw[hx] at hu;cases hu;lia
   ·rw[set_at e2,hu] at hv;cases hv;lia
 ·rw[zd1 hy',zd1 hx];lia
structure Phase (N:Net)(cap aa aN aC:List Int)(done:List Nat)(ap aj aB:List Int):Prop where
 flow:Flow N cap ap aj
 tr:Tr N aB
 dead:Dead N ap aj aa aB
 le:∀(e:Nat) x y,aC[e]?=some x->aj[e]?=some y->y≤x
 prog:(ap=aN/\aj=aC/\∀g∈done,Exh N aj aB g)∨aj.sum<aC.sum
theorem Phase.walked {N:Net}{cap aa aN aC ap aj aB aH:List Int}{done:List Nat}(p:Phase N cap aa aN aC done ap aj aB)(T:Tr N aH)(D:Dead N ap aj aa aH)(h:∀b,Exh N aj aB b->Exh N aj aH b) :
  Phase N cap aa aN aC done ap aj aH :=
 ⟨p.flow,T,D,p.le,p.prog.imp (λ⟨a,b,c⟩=>⟨a,b,λg hg=>h g (c g hg)⟩) id⟩
theorem Phase.ap {N:Net}(W:N.WF){cap aa aN aC ap aj aB aG:List Int}{done:List Nat}(p:Phase N cap aa aN aC done ap aj aB){es way:List Nat}(P:Path N aa ap es way){g f:Nat}{a:Int}(h0:es[0]?=some g)(hg:g<N.G)(ha:0<a)
  (S:Sent N cap ap aj way g f a aG):Phase N cap aa aN aC done (sendBy a ap way) aG aB:=by
 have hl:aj.length=aG.length:=by rw[p.flow.lp,S.flow.lp]
 refine⟨S.flow,p.tr,p.dead.send W P h0 hg (y2e ha) p.flow.ls S.le hl,λe x y hx hy=>?_,.inr ?_⟩
 ·have he:e<aj.length:=by
   have:=(y00.mp hy).1;lia
  have hz:aj[e]?=some aj[e]:=y01 he;have h1:=p.le e _ _ hx hz
  have h2:=S.le e _ _ hz hy;lia
 ·have:=S.sum;rcases p.prog with ⟨_,rfl,_⟩ | q
  ·lia
  ·lia
theorem Phase.one {N:Net}{cap aa aN aC ap aj aB:List Int}{done:List Nat}(p:Phase N cap aa aN aC done ap aj aB){g:Nat}(h:Exh N aj aB g∨aj.sum<aC.sum):Phase N cap aa aN aC (done ++ [g]) ap aj aB:=by
 refine⟨p.flow,p.tr,p.dead,p.le,?_⟩;rcases p.prog with ⟨a,b,c⟩ | q
 ·rcases h with h | h
  ·refine .inl ⟨a,b,λx hx=>?_⟩;rcases y0y.mp hx with hx | hx
   ·exact c x hx
   ·have:x=g:=by simpa using hx
    subst this;exact h
  ·exact .inr h
 ·exact .inr q
theorem Phase.less {N:Net}(W:N.WF){cap aa aN aC ap aj aB:List Int}{done:List Nat}(p:Phase N cap aa aN aC done ap aj aB)(S:Steps N aN aC aa)(hd:∀g,Lv aa g=0->g∈done){e:Nat}(he:0≤Lv aa e)(hr:Room N aC e):aj.sum<aC.sum:=by
 rcases p.prog with ⟨rfl,rfl,c⟩ | q
 ·exact absurd hr (Dead.all W S p.dead (λg hg=>c g (hd g hg)) (Lv aa e).toNat e (by lia)).1
 ·exact q
structure Done (N:Net)(cap ap aj aa:List Int):Prop where
 flow:Flow N cap ap aj
 st:Steps N ap aj aa
 cl:zo9 N ap aa
 dry:∀e,0≤Lv aa e->¬Room N aj e
theorem Rows.done {N:Net}{cap ap aj aa:List Int}{d:Nat}{row:List Nat}(R:Rows N ap aj d row aa)(F:Flow N cap ap aj)(h:row = []∨∃e∈row,Room N aj e)(hd:∀e,0≤Lv aa e->¬Room N aj e):Done N cap ap aj aa:=by
 have hr:row = []:=by
  rcases h with h | ⟨e,he,hr⟩
  ·exact h
  ·exact absurd hr (hd e (by rw[(R.row e).mp he];lia))
 subst hr;refine⟨F,R.st,λa k b t g h0=>?_,hd⟩;have h1:=R.top a;have h2:Lv aa a≠d:=λq=>by
  have:=(R.row a).mpr q;simp at this
 exact R.exp a k b t g h0 (by lia)
def nr (aa:List Int)(e:Nat):Bool:=decide (0≤Lv aa e)
def upTo (f:Nat->Int):Nat->Int
 | 0=>0
 | n+1=>upTo f n+f n
theorem za7 (f g:Nat->Int):∀n,upTo (λe=>f e+g e) n=upTo f n+upTo g n
 | 0=>rfl
 | n+1=>by
  simp only[upTo,za7 f g n];lia
theorem upTo_zero:∀n,upTo (λ_=>0) n=0
 | 0=>rfl
 | n+1=>by simp[upTo,upTo_zero n]
theorem za2 (a:Nat)(v:Int):∀n,upTo (λe=>if e=a then v else 0) n=if a<n then v else 0
 | 0=>rfl
 | n+1=>by
  simp only[upTo,za2 a v n]
  by_cases h1:a<n
  ·have h2:n≠a:=by lia
   have h3:a<n+1:=by lia
   simp[h1,h2,h3]
  ·by_cases h2:n=a
   ·subst h2;simp
   ·have h3:¬a<n+1:=by lia
    simp[h1,h2,h3]
theorem upTo_congr {f g:Nat->Int}:∀{n},(∀e<n,f e=g e)->upTo f n=upTo g n
 | 0,_=>rfl
 | n+1,h=>by
  simp only[upTo];rw[upTo_congr (n:=n) λe he=>h e (by lia),h n (by lia)]
theorem load_over {S:Nat->Bool}{n:Nat}:∀{ends:List (Nat×Nat)} {ap:List Int},(∀p∈ends,p.1≠p.2/\p.1<n/\p.2<n)->ap.length=ends.length ->
  upTo (λe=>if S e then load ends ap e else 0) n=((ends.zip ap).map λq=>(if S q.1.1 then q.2 else 0)+(if S q.1.2 then q.2 else 0)).sum
 | [],[],_,_=>by
  simp[load,upTo_zero]
 | [],_::_,_,h=>by simp at h
 | _::_,[],_,h=>by simp at h
 | p::r,s::q,h,hl=>by
  have ih:=load_over (S:=S) (n:=n) (ends:=r) (ap:=q) (λx hx=>h x (y0a _ hx)) (by simpa using hl)
  obtain⟨h1,h2,h3⟩:=h p y0d;have e:(λe=>if S e then load (p::r) (s::q) e else 0)=λe=>((if e=p.1 then (if S p.1 then s else 0) else 0)+(if e=p.2 then (if S p.2 then s else 0) else 0))+(if S e then load r q e else 0):=by
   funext e;simp only[load,inc]
   by_cases a:e=p.1
   ·subst a
    by_cases c:S p.1=true<;>simp[c,h1]
   ·by_cases b:e=p.2
    ·subst b
     by_cases c:S p.2=true<;>simp[c,a]
    ·have a':¬p.1=e:=λz=>a z.symm;have b':¬p.2=e:=λz=>b z.symm
     simp[a,b,a',b']
  rw[e,za7,za7,ih,za2,za2,if_pos h2,if_pos h3];simp
theorem z1l {α:Type}{f g:α->Int}:∀{l:List α},(∀x∈l,f x=g x)->(l.map f).sum=(l.map g).sum
 | [],_=>rfl
 | x::r,h=>by
  simp only[y0l,y0q];rw[h x y0d,z1l λy hy=>h y (y0a _ hy)]
theorem zip_snd:∀{α:Type} {xs:List α} {ys:List Int},ys.length=xs.length->((xs.zip ys).map λq=>q.2).sum=ys.sum
 | _,[],[],_=>rfl
 | _,[],_::_,h=>by simp at h
 | _,_::_,[],h=>by simp at h
 | _,x::r,y::q,h=>by
  have ih:=zip_snd (xs:=r) (ys:=q) (by simpa using h)
  simp only[y55,y0l,y0q,ih]
theorem Done.bound {N:Net}(W:N.WF){cap ap aj aa:List Int}(D:Done N cap ap aj aa) :
  ap.sum=upTo (λe=>if (if e<N.G then !nr aa e else nr aa e) then cap.getD e 0 else 0) N.nE:=by
 have hw:∀p∈N.ends,p.1≠p.2/\p.1<N.nE/\p.2<N.nE:=λp hp=>by
  obtain⟨k,hk⟩:=y08 hp;have:=W.lo k p hk;have:=W.gle
  refine⟨?_,?_,?_⟩<;>lia
 have h1:upTo (λe=>if (if e<N.G then !nr aa e else nr aa e) then cap.getD e 0 else 0) N.nE=upTo (λe=>if (if e<N.G then !nr aa e else nr aa e) then load N.ends ap e else 0) N.nE:=by
  refine upTo_congr λe he=>?_
  by_cases c:(if e<N.G then !nr aa e else nr aa e)=true
  ·rw[if_pos c,if_pos c];have hc:cap[e]?=some (cap[e]'(by rw[D.flow.lc];exact he)):=y01 _
   have hs:aj[e]?=some (aj[e]'(by rw[D.flow.lp];exact he)):=y01 _
   have q:=D.flow.eq e _ _ hc hs;have n0:=D.flow.sp e _ hs
   have hz:(aj[e]'(by rw[D.flow.lp];exact he))=0:=by
    by_cases hg:e<N.G
    ·rw[if_pos hg] at c;have c':¬ 0≤Lv aa e:=by simpa [nr] using c
     rcases y2t 0 (aj[e]'(by rw[D.flow.lp];exact he)) with z | z
     ·have:=D.st.src e _ hg hs z;lia
     ·lia
    ·rw[if_neg hg] at c;have c':0≤Lv aa e:=by simpa [nr] using c
     rcases y2t 0 (aj[e]'(by rw[D.flow.lp];exact he)) with z | z
     ·exact absurd ⟨by lia,_,hs,z⟩ (D.dry e c')
     ·lia
   have:cap.getD e 0=cap[e]'(by rw[D.flow.lc];exact he):=by simp[y1l,hc]
   lia
  ·rw[if_neg c,if_neg c]
 rw[h1,load_over hw D.flow.ls,←zip_snd D.flow.ls];refine z1l λq hq=>?_;obtain⟨k,hk⟩:=y08 hq;obtain⟨p,s⟩:=q;have hz:=y0w.mp hk;obtain⟨hp,hs⟩:=hz;have hlo:=W.lo k p hp
 have n0:=D.flow.nn k s hs;have t:Tie N p.1 k p.2:=⟨p,hp,.inl ⟨rfl,rfl⟩⟩
 have c1:=D.cl p.1 k p.2 t (.inl hlo.1);have c2:0≤Lv aa p.2->0<s->0≤Lv aa p.1:=λh z=>D.cl p.2 k p.1 t.symm (.inr ⟨s,hs,z⟩) h
 have g1:p.1<N.G:=hlo.1;have g2:¬p.2<N.G:=by lia
 simp only[g1,g2,if_true,if_false,nr]
 by_cases a:0≤Lv aa p.1<;>by_cases b:0≤Lv aa p.2<;>simp[a,b]
 ·exact absurd (c1 a) b
 ·have:¬ 0<s:=λz=>a (c2 b z);lia
end PM
set_option linter.all false
namespace PM
theorem z9r {α:Type}{f g:α->Int}:∀{l:List α},(∀x∈l,f x≤g x)->(l.map f).sum≤(l.map g).sum
 | [],_=>by simp
 | x::r,h=>by
  have:=h x y0d;have:=z9r (f:=f) (g:=g) (l:=r) λy hy=>h y (y0a _ hy)
  simp only[y0l,y0q];lia
theorem zll {α:Type}{f g:α->Int}:∀{l:List α},(∀x∈l,f x≤g x)->(l.map g).sum≤(l.map f).sum->∀x∈l,f x=g x
 | [],_,_=>λ_ h=>by simp at h
 | x::r,h,e=>by
  have h0:=h x y0d;have hr:∀y∈r,f y≤g y:=λy hy=>h y (y0a _ hy)
  have h1:=z9r hr;simp only[y0l,y0q] at e;have ih:=zll hr (by lia)
  intro y hy;rcases y0k.mp hy with rfl | hy
  ·lia
  ·exact ih y hy
theorem za1 {f g:Nat->Int}:∀{n},(∀e<n,f e≤g e)->upTo f n≤upTo g n
 | 0,_=>y20 _
 | n+1,h=>by
  have:=za1 (f:=f) (g:=g) (n:=n) λe he=>h e (by lia)
  have:=h n (by lia)
  simp only[upTo];lia
theorem z6y {f g:Nat->Int}:∀{n},(∀e<n,f e≤g e)->upTo g n≤upTo f n->∀e<n,f e=g e
 | 0,_,_=>λe he=>by lia
 | n+1,h,q=>by
  have h0:∀e<n,f e≤g e:=λe he=>h e (by lia)
  have h1:=za1 h0;have h2:=h n (by lia)
  simp only[upTo] at q;have ih:=z6y h0 (by lia)
  intro e he
  by_cases c:e=n
  ·subst c;lia
  ·exact ih e (by lia)
def side (N:Net)(S:Nat->Bool)(e:Nat):Bool:=if e<N.G then !S e else S e
def bnd (N:Net)(cap:List Int)(S:Nat->Bool):Int:=upTo (λe=>if side N S e then cap.getD e 0 else 0) N.nE
theorem Flow.load_le {N:Net}{cap ap aj:List Int}(F:Flow N cap ap aj){e:Nat}(he:e<N.nE):load N.ends ap e≤cap.getD e 0/\(aj.getD e 0=cap.getD e 0 - load N.ends ap e):=by
 have hc:cap[e]?=some (cap[e]'(by rw[F.lc];exact he)):=y01 _
 have hs:aj[e]?=some (aj[e]'(by rw[F.lp];exact he)):=y01 _
 have q:=F.eq e _ _ hc hs;have n0:=F.sp e _ hs
 have:cap.getD e 0=cap[e]'(by rw[F.lc];exact he):=by simp[y1l,hc]
 have:aj.getD e 0=aj[e]'(by rw[F.lp];exact he):=by simp[y1l,hs]
 lia
theorem Net.WF.two {N:Net}(W:N.WF):∀p∈N.ends,p.1≠p.2/\p.1<N.nE/\p.2<N.nE:=λp hp=>by
 obtain⟨k,hk⟩:=y08 hp;have:=W.lo k p hk;have:=W.gle
 refine⟨?_,?_,?_⟩<;>lia
theorem Done.bnd {N:Net}(W:N.WF){cap ap aj aa:List Int}(D:Done N cap ap aj aa):ap.sum=bnd N cap (nr aa):=D.bound W
theorem Done.az {N:Net}{cap ap aj aa:List Int}(D:Done N cap ap aj aa):∀a k b,Tie N a k b->a<N.G->nr aa a=true->nr aa b=true:=λa k b t hg h =>
 decide_eq_true (D.cl a k b t (.inl hg) (of_decide_eq_true h))
theorem Done.sub {N:Net}{cap ap aj aa:List Int}(D:Done N cap ap aj aa){S:Nat->Bool}(h1:∀(g:Nat) x,g<N.G->aj[g]?=some x->0<x->S g=true)(h2:∀a k b,Tie N a k b->Go N ap a k->S a=true->S b=true){e:Nat}(h:nr aa e=true):S e=true:=by
 have h':0≤Lv aa e:=of_decide_eq_true h;exact D.st.least (λe=>S e=true) h1 h2 (Lv aa e).toNat e (by lia)
end PM
set_option linter.all false
namespace PM
def z42 (f:Nat->Int)(S:Nat->Bool)(n:Nat):Int:=upTo (λe=>if S e then f e else 0) n
theorem zmc {f g:Nat->Int}{S:Nat->Bool}{n:Nat}(h:∀e<n,S e=true->f e≤g e):z42 f S n≤z42 g S n:=za1 λe he=>by
 by_cases c:S e=true
 ·simp only[c,if_true];exact h e he c
 ·simp[c]
theorem zcn {f g:Nat->Int}{S:Nat->Bool}{n:Nat}(h:∀e<n,S e=true->f e=g e):z42 f S n=z42 g S n:=upTo_congr λe he=>by
 by_cases c:S e=true
 ·simp only[c,if_true];exact h e he c
 ·simp[c]
theorem z6t {N:Net}(W:N.WF){cap ap aj:List Int}(F:Flow N cap ap aj)(S T:Nat->Bool)(hS:∀e,S e=true->e<N.G)(hT:∀e,T e=true->¬e<N.G) :
  z42 (load N.ends ap) S N.nE=((N.ends.zip ap).map λq=>if S q.1.1 then q.2 else 0).sum/\z42 (load N.ends ap) T N.nE=((N.ends.zip ap).map λq=>if T q.1.2 then q.2 else 0).sum:=by
 constructor
 ·unfold z42;rw[load_over W.two F.ls];refine z1l λq hq=>?_;obtain⟨k,hk⟩:=y08 hq;obtain⟨p,s⟩:=q;obtain⟨hp,_⟩:=y0w.mp hk;have:=W.lo k p hp;have hn:S p.2=false:=by
   rcases y1o (S p.2) with z | z
   ·have:=hS _ z;lia
   ·exact z
  simp[hn]
 ·unfold z42;rw[load_over W.two F.ls];refine z1l λq hq=>?_;obtain⟨k,hk⟩:=y08 hq;obtain⟨p,s⟩:=q;obtain⟨hp,_⟩:=y0w.mp hk;have:=W.lo k p hp;have hn:T p.1=false:=by
   rcases y1o (T p.1) with z | z
   ·exact absurd this.1 (hT _ z)
   ·exact z
  simp[hn]
theorem Done.full {N:Net}(W:N.WF){cap ap aj aa:List Int}(D:Done N cap ap aj aa){e:Nat}(he:e<N.nE)(h:(e<N.G/\nr aa e=false)∨(¬e<N.G/\nr aa e=true)):load N.ends ap e=cap.getD e 0:=by
 have q:=(D.flow.load_le he).2;have hs:aj[e]?=some (aj[e]'(by rw[D.flow.lp];exact he)):=y01 _
 have n0:=D.flow.sp e _ hs;have hg:aj.getD e 0=aj[e]'(by rw[D.flow.lp];exact he):=by simp[y1l,hs]
 have hz:¬ 0<(aj[e]'(by rw[D.flow.lp];exact he)):=λz=>by
  rcases h with ⟨h1,h2⟩ | ⟨h1,h2⟩
  ·have:=D.st.src e _ h1 hs z;have:¬ 0≤Lv aa e:=of_decide_eq_false h2
   lia
  ·exact D.dry e (of_decide_eq_true h2) ⟨by lia,_,hs,z⟩
 lia
theorem Done.none_sent {N:Net}(W:N.WF){cap ap aj aa:List Int}(D:Done N cap ap aj aa){k:Nat}{p:Nat×Nat}{s:Int}(hp:N.ends[k]?=some p)(hs:ap[k]?=some s)(h1:nr aa p.1=false)(h2:nr aa p.2=true):s=0:=by
 have n0:=D.flow.nn k s hs;rcases y2t 0 s with z | z
 ·have t:Tie N p.2 k p.1:=⟨p,hp,.inr ⟨rfl,rfl⟩⟩;have:=D.cl p.2 k p.1 t (.inr ⟨s,hs,z⟩) (of_decide_eq_true h2)
  have:¬ 0≤Lv aa p.1:=of_decide_eq_false h1;lia
 ·lia
theorem Done.hi {N:Net}(W:N.WF){cap ap aj aa:List Int}(D:Done N cap ap aj aa)(S T:Nat->Bool)(hS:∀e,S e=true->e<N.G/\nr aa e=false)(hT:∀e,T e=true->¬e<N.G)
  (h:∀(k:Nat) (p:Nat×Nat),N.ends[k]?=some p->S p.1=true->nr aa p.2=false->T p.2=true):z42 (λe=>cap.getD e 0) S N.nE≤z42 (λe=>cap.getD e 0) T N.nE:=by
 obtain⟨l1,l2⟩:=z6t W D.flow S T (λe he=>(hS e he).1) hT;have e1:z42 (λe=>cap.getD e 0) S N.nE=z42 (load N.ends ap) S N.nE:=zcn λe he c=>(D.full W he (.inl (hS e c))).symm;have e2:z42 (load N.ends ap) T N.nE≤z42 (λe=>cap.getD e 0) T N.nE:=zmc λe he _=>(D.flow.load_le he).1
 rw[e1,l1];refine y3e ?_ e2;rw[l2];refine z9r λq hq=>?_;obtain⟨k,hk⟩:=y08 hq;obtain⟨p,s⟩:=q;obtain⟨hp,hs⟩:=y0w.mp hk;have n0:=D.flow.nn k s hs
 by_cases a:S p.1=true
 ·rcases y1o (nr aa p.2) with z | z
  ·have:=D.none_sent W hp hs (hS _ a).2 z;subst this;simp
  ·have:=h k p hp a z;simp[a,this]
 ·by_cases b:T p.2=true<;>simp[a,b]<;>lia
theorem Done.lo {N:Net}(W:N.WF){cap ap aj aa:List Int}(D:Done N cap ap aj aa)(S T:Nat->Bool)(hS:∀e,S e=true->e<N.G)(hT:∀e,T e=true->¬e<N.G/\nr aa e=true)
  (h:∀(k:Nat) (p:Nat×Nat),N.ends[k]?=some p->nr aa p.1=true->T p.2=true->S p.1=true) (hne:∃e,e<N.nE/\T e=true):z42 (λe=>cap.getD e 0) T N.nE<z42 (λe=>cap.getD e 0) S N.nE:=by
 obtain⟨l1,l2⟩:=z6t W D.flow S T hS (λe he=>(hT e he).1);have e1:z42 (λe=>cap.getD e 0) T N.nE=z42 (load N.ends ap) T N.nE:=zcn λe he c=>(D.full W he (.inr (hT e c))).symm;have le2:∀e<N.nE,(if S e then load N.ends ap e else 0)≤(if S e then cap.getD e 0 else 0):=λe he=>by
  by_cases c:S e=true
  ·simp only[c,if_true];exact(D.flow.load_le he).1
  ·simp[c]
 have e2:z42 (load N.ends ap) S N.nE≤z42 (λe=>cap.getD e 0) S N.nE:=za1 le2;have tm:∀q∈N.ends.zip ap,(if T q.1.2 then q.2 else 0)≤(if S q.1.1 then q.2 else 0):=λq hq=>by
  obtain⟨k,hk⟩:=y08 hq;obtain⟨p,s⟩:=q;obtain⟨hp,hs⟩:=y0w.mp hk;have n0:=D.flow.nn k s hs
  by_cases b:T p.2=true
  ·rcases y1o (nr aa p.1) with z | z
   ·have:=h k p hp z b;simp[b,this]
   ·have:=D.none_sent W hp hs z (hT _ b).2;subst this;simp
  ·by_cases a:S p.1=true<;>simp[a,b]<;>lia
 have e3:=z9r tm;rw[←l1,←l2] at e3;rcases y2t (z42 (λe=>cap.getD e 0) T N.nE) (z42 (λe=>cap.getD e 0) S N.nE) with z | z
 ·exact z
 exfalso;have q1:=z6y le2 (by show z42 _ S _≤z42 _ S _;lia)
 have q2:=zll tm (by rw[←l1,←l2];lia)
 obtain⟨t,ht,hTt⟩:=hne;have near:=(hT t hTt).2;have sub:=D.sub (S:=λe=>nr aa e && !S e && !T e) (λg x hg hx h0=>?_) (λa k b tie go ha=>?_) near
 ·simp[hTt] at sub
 ·have n:nr aa g=true:=decide_eq_true (by rw[D.st.src g x hg hx h0];exact y20 _)
  have hgl:g<N.nE:=by have:=W.gle;lia
  have nT:T g=false:=by
   rcases y1o (T g) with z | z
   ·exact absurd hg (hT g z).1
   ·exact z
  have nS:S g=false:=by
   rcases y1o (S g) with z | z
   ·have:=q1 g hgl;simp only[z,if_true] at this;have w:=(D.flow.load_le hgl).2
    have:aj.getD g 0=x:=by simp[y1l,hx]
    lia
   ·exact z
  simp[n,nT,nS]
 ·simp only[y1b,y5e] at ha ⊢
  obtain⟨⟨a1,a2⟩,a3⟩:=ha;have nb:nr aa b=true:=decide_eq_true (D.cl a k b tie go (of_decide_eq_true a1));obtain⟨p,hp,q⟩:=tie;have hlo:=W.lo k p hp
  refine⟨⟨nb,?_⟩,?_⟩
  ·rcases y1o (S b) with z | z
   ·exfalso;have hb:=hS b z;have hab:p.2=a/\p.1=b:=by
     rcases q with ⟨q1,q2⟩ | q
     ·lia
     ·exact q
    obtain⟨rfl,rfl⟩:=hab;rcases go with go | ⟨s,hs,h0⟩
    ·lia
    ·have hm:(p,s)∈N.ends.zip ap:=y02 (i:=k) (y0w.mpr ⟨hp,hs⟩);have:=q2 _ hm
     simp only[z,a3,if_true] at this;simp at this;lia
   ·exact z
  ·rcases y1o (T b) with z | z
   ·exfalso;have hb:=(hT b z).1;have hab:p.1=a/\p.2=b:=by
     rcases q with q | ⟨q1,q2⟩
     ·exact q
     ·lia
    obtain⟨rfl,rfl⟩:=hab;have:=h k p hp a1 z;rw[a2] at this;cases this
   ·exact z
theorem zk9 {N:Net}(W:N.WF){cap ap aj:List Int}(F:Flow N cap ap aj):z42 (load N.ends ap) (λe=>decide (e<N.G)) N.nE=ap.sum/\z42 (load N.ends ap) (λe=>!decide (e<N.G)) N.nE=ap.sum:=by
 obtain⟨l1,l2⟩:=z6t W F (λe=>decide (e<N.G)) (λe=>!decide (e<N.G)) (λe h=>of_decide_eq_true h) (λe h=>by simpa using h)
 have c1:((N.ends.zip ap).map λq=>if (decide (q.1.1<N.G))=true then q.2 else 0).sum=ap.sum:=by
  rw[←zip_snd F.ls];refine z1l λq hq=>?_;obtain⟨k,hk⟩:=y08 hq;obtain⟨p,s⟩:=q;obtain⟨hp,hs⟩:=y0w.mp hk;have:=W.lo k p hp;simp[this.1]
 have c2:((N.ends.zip ap).map λq=>if (!decide (q.1.2<N.G))=true then q.2 else 0).sum=ap.sum:=by
  rw[←zip_snd F.ls];refine z1l λq hq=>?_;obtain⟨k,hk⟩:=y08 hq;obtain⟨p,s⟩:=q;obtain⟨hp,hs⟩:=y0w.mp hk;have:=W.lo k p hp;have:¬p.2<N.G:=by lia
  simp[this]
 exact⟨l1.trans c1,l2.trans c2⟩
theorem Done.far {N:Net}(W:N.WF){cap ap aj aa:List Int}(D:Done N cap ap aj aa)(hs:z42 (λe=>cap.getD e 0) (λe=>decide (e<N.G)) N.nE≤z42 (λe=>cap.getD e 0) (λe=>!decide (e<N.G)) N.nE)
  (hn:∃e,nr aa e=true):∃e,¬e<N.G/\e<N.nE/\nr aa e=false:=by
 apply Classical.byContradiction;intro hc;have hall:∀e,¬e<N.G->e<N.nE->nr aa e=true:=λe h1 h2=>by
  rcases y1o (nr aa e) with z | z
  ·exact z
  ·exact absurd ⟨e,h1,h2,z⟩ hc
 obtain⟨a1,a2⟩:=zk9 W D.flow;have e1:z42 (λe=>cap.getD e 0) (λe=>!decide (e<N.G)) N.nE=ap.sum:=by
  rw[←a2];refine zcn λe he c=>(D.full W he (.inr ⟨?_,hall e ?_ he⟩)).symm
  ·simpa using c
  ·simpa using c
 have le:∀e<N.nE,(if (decide (e<N.G))=true then load N.ends ap e else 0)≤(if (decide (e<N.G))=true then cap.getD e 0 else 0):=λe he=>by
  by_cases c:(decide (e<N.G))=true
  ·simp only[c,if_true];exact(D.flow.load_le he).1
  ·simp[c]
 have q:=z6y le (by show z42 _ _ _≤z42 _ _ _;rw[a1];lia)
 obtain⟨e,he⟩:=hn;have hl:0≤Lv aa e:=of_decide_eq_true he;have:∀(d:Nat) e,Lv aa e=d->False:=by
  intro d
  induction d with
  | zero =>
   intro e h;obtain⟨hg,x,hx,h0⟩:=D.st.zero e (by simpa using h)
   have hgl:e<N.nE:=by have:=W.gle;lia
   have:=q e hgl;simp only[hg,decide_true,if_true] at this;have w:=(D.flow.load_le hgl).2
   have:aj.getD e 0=x:=by simp[y1l,hx]
   lia
  | succ d ih =>
   intro e h;obtain⟨a,k,t,g,l⟩:=D.st.pred e (by rw[h];push_cast;lia)
   exact ih a (by push_cast at h;lia)
 exact this (Lv aa e).toNat e (by lia)
end PM
set_option linter.all false
namespace PM
theorem z9k (f:Nat->Int):∀n,upTo f (n+1)=f 0+upTo (λe=>f (e+1)) n
 | 0=>by simp[upTo]
 | n+1=>by
  rw[upTo,z9k f n];simp only[upTo];lia
theorem upTo_split (f:Nat->Int)(a:Nat):∀b,upTo f (a+b)=upTo f a+upTo (λe=>f (a+e)) b
 | 0=>by simp[upTo]
 | b+1=>by
  rw[←Nat.add_assoc,upTo,upTo_split f a b];simp only[upTo];lia
theorem upTo_list {φ:Nat->Int}:∀(l:List Nat),upTo (λe=>φ (l.getD e 0)) l.length=(l.map φ).sum
 | []=>rfl
 | x::r=>by
  rw[y1a,z9k];have ih:=upTo_list (φ:=φ) r;simp only[y0l,y0q,←ih];congr 1
def netOf (g t:Nat)(az:List (Nat×Nat))(at':List (List Nat)):Net:=⟨g,g+t,az.map λp=>(p.1,g+p.2),at'⟩
theorem zhx {f:Nat->Int}{A:Nat->Bool}{l:List Nat}{t:Nat}{φ:Nat->Int}(h:∀e<l.length,f e = φ (l.getD e 0)):z42 f (λe=>decide (e<l.length)&&A (l.getD e 0)) (l.length+t)=(l.map λc=>if A c then φ c else 0).sum:=by
 unfold z42;rw[upTo_split,←upTo_list (φ:=λc=>if A c then φ c else 0)]
 have z:upTo (λe=>if (decide (l.length+e<l.length)&&A (l.getD (l.length+e) 0))=true then f (l.length+e) else 0) t=0:=by
  refine(upTo_congr λe _=>?_).trans (upTo_zero t);have:¬l.length+e<l.length:=by lia
  simp[this]
 rw[z,y60];refine upTo_congr λe he=>?_;simp[he,h e he]
theorem zi7 {f:Nat->Int}{A:Nat->Bool}{l:List Nat}{g:Nat}{φ:Nat->Int}(h:∀e<l.length,f (g+e) = φ (l.getD e 0)):z42 f (λe=>!decide (e<g)&&A (l.getD (e - g) 0)) (g+l.length)=(l.map λc=>if A c then φ c else 0).sum:=by
 unfold z42;rw[upTo_split,←upTo_list (φ:=λc=>if A c then φ c else 0)]
 have z:upTo (λe=>if (!decide (e<g)&&A (l.getD (e - g) 0))=true then f e else 0) g=0:=by
  refine(upTo_congr λe he=>?_).trans (upTo_zero g);simp[he]
 rw[z,y3f];refine upTo_congr λe he=>?_;have:¬g+e<g:=by lia
 have k:g+e - g=e:=by lia
 simp[this,k,h e he]
section
variable {wk:Nat->Int}{dr:Nat->List Nat}{av aq:List Nat}
def TiesOk (dr:Nat->List Nat)(av aq:List Nat)(az:List (Nat×Nat)):Prop:=∀g t:Nat,(g,t)∈az↔∃c h,aq[g]?=some c/\av[t]?=some h/\h∈dr c
structure Cut (wk:Nat->Int)(dr:Nat->List Nat)(av aq:List Nat)(m W:Int)(nc nh:Nat->Bool):Prop where
 up:∀c∈aq,∀h∈av,h∈dr c->nc c=true->nh h=true
 hi:∀T:Nat->Bool,(aq.map λc=>if (!nc c&&av.all λh=>(nh h || !(dr c).contains h||T h)) then wk c*m else 0).sum≤(av.map λh=>if (!nh h&&T h) then W else 0).sum
 lo:∀T:Nat->Bool,(∃h∈av,nh h=true/\T h=true)->(av.map λh=>if (nh h&&T h) then W else 0).sum<(aq.map λc=>if (nc c&&av.any λh=>((dr c).contains h&&T h)) then wk c*m else 0).sum
 far:(∃h∈av,nh h=true)->∃h∈av,nh h=false
theorem getD_of {l:List Nat}{i x:Nat}(h:l[i]?=some x):l.getD i 0=x:=by simp[y1l,h]
theorem get_of_lt {l:List Nat}{i:Nat}(h:i<l.length):l[i]?=some (l.getD i 0):=by
 rw[y01 h];simp[y1l,y01 h]
theorem zrw {m:Int}{W:Int}:(∀e<aq.length,(aq.map (λc=>wk c*m)++y07 av.length W).getD e 0=wk (aq.getD e 0)*m)/\∀e<av.length,(aq.map (λc=>wk c*m)++y07 av.length W).getD (aq.length+e) 0=W:=by
 constructor
 ·intro e he;rw[y05,y0s (by simpa using he),y06,get_of_lt he]
  rfl
 ·intro e he;rw[y05,y10 (by simp),y04,Nat.add_sub_cancel_left,y1f,if_pos he]
  rfl
theorem cut_of {m W:Int}{az:List (Nat×Nat)}{at':List (List Nat)}{ap aj aa:List Int}{nc nh:Nat->Bool}(hok:TiesOk dr av aq az)(WF:(netOf aq.length av.length az at').WF)
  (D:Done (netOf aq.length av.length az at') (aq.map (λc=>wk c*m)++y07 av.length W) ap aj aa) (hc:∀(i c:Nat),aq[i]?=some c->nc c=nr aa i) (hh:∀(i h:Nat),av[i]?=some h->nh h=nr aa (aq.length+i))
  (hsum:(aq.map λc=>wk c*m).sum=(av.map λ_=>W).sum):Cut wk dr av aq m W nc nh:=by
 obtain⟨cp1,cp2⟩:=zrw (wk:=wk) (av:=av) (aq:=aq) (m:=m) (W:=W);have tie:∀(k:Nat) (p:Nat×Nat),(netOf aq.length av.length az at').ends[k]?=some p->∃t c h,p.2=aq.length+t/\aq[p.1]?=some c/\av[t]?=some h/\h∈dr c:=λk p hp=>by
  have hp':(az.map λp=>(p.1,aq.length+p.2))[k]?=some p:=hp;rw[y06] at hp';cases q:az[k]? with
  | none=>rw[q] at hp';cases hp'
  | some x =>
   rw[q] at hp';cases hp';obtain⟨c,h,h1,h2,h3⟩:=(hok x.1 x.2).mp (y02 q);exact⟨x.2,c,h,rfl,h1,h2,h3⟩
 have mk:∀(g t c h:Nat),aq[g]?=some c->av[t]?=some h->h∈dr c->∃k:Nat,(netOf aq.length av.length az at').ends[k]?=some (g,aq.length+t):=λg t c h h1 h2 h3=>by
  obtain⟨k,hk⟩:=y08 ((hok g t).mpr ⟨c,h,h1,h2,h3⟩);refine⟨k,?_⟩;show(az.map λp=>(p.1,aq.length+p.2))[k]?=_;rw[y06,hk];rfl
 refine⟨λc hc' h hh' hd hn=>?_,λT=>?_,λT hT=>?_,λhn=>?_⟩
 ·obtain⟨g,hg⟩:=y08 hc';obtain⟨t,ht⟩:=y08 hh';obtain⟨k,hk⟩:=mk g t c h hg ht hd;rw[hh t h ht];refine D.az g k (aq.length+t) ⟨_,hk,.inl ⟨rfl,rfl⟩⟩ (y00.mp hg).1 ?_;rw[←hc g c hg];exact hn
 ·have q:=D.hi WF (λe=>decide (e<aq.length)&&(λc=>!nc c&&av.all λh=>(nh h || !(dr c).contains h||T h)) (aq.getD e 0)) (λe=>!decide (e<aq.length)&&(λh=>!nh h&&T h) (av.getD (e - aq.length) 0)) (λe he=>?_) (λe he=>?_) (λk p hp hS hn=>?_)
  ·have g1:=zhx (f:=λe=>(aq.map (λc=>wk c*m)++y07 av.length W).getD e 0) (A:=λc=>!nc c&&av.all λh=>(nh h || !(dr c).contains h||T h)) (l:=aq) (t:=av.length) (φ:=λc=>wk c*m) cp1
   have g2:=zi7 (f:=λe=>(aq.map (λc=>wk c*m)++y07 av.length W).getD e 0) (A:=λh=>!nh h&&T h) (l:=av) (g:=aq.length) (φ:=λ_=>W) cp2;exact y3e (y3m g1.symm) (y3e q (y3m g2))
  ·rw[y1b] at he;have h1:e<aq.length:=of_decide_eq_true he.1;refine⟨h1,?_⟩;have h2:=he.2
   simp only[y1b,y5e] at h2;rw[←hc e _ (get_of_lt h1)];exact h2.1
  ·rw[y1b] at he;show ¬e<aq.length;simpa using he.1
  ·obtain⟨t,c,h,e2,h1,h2,h3⟩:=tie k p hp;rw[y1b] at hS;have hS2:=hS.2;rw[getD_of h1] at hS2;simp only[y1b,y2j,y5x,y5e] at hS2;have nn:nh h=false:=by rw[hh t h h2,←e2];exact hn
   have hx:=hS2.2 h (y02 h2);have hT:T h=true:=by
    rcases hx with (z | z) | z
    ·rw[nn] at z;cases z
    ·rw[y1v.mpr h3] at z;cases z
    ·exact z
   have hlt:¬p.2<aq.length:=by lia
   have hsub:p.2 - aq.length=t:=by lia
   show(!decide (p.2<aq.length)&&(!nh (av.getD (p.2 - aq.length) 0)&&T (av.getD (p.2 - aq.length) 0)))=true;rw[hsub,getD_of h2,nn,hT,decide_eq_false hlt];rfl
 ·have q:=D.lo WF (λe=>decide (e<aq.length)&&(λc=>nc c&&av.any λh=>((dr c).contains h&&T h)) (aq.getD e 0)) (λe=>!decide (e<aq.length)&&decide (e<aq.length+av.length)&&(λh=>nh h&&T h) (av.getD (e - aq.length) 0)) (λe he=>?_) (λe he=>?_) (λk p hp hn hS=>?_) ?_
  ·have g1:=zhx (f:=λe=>(aq.map (λc=>wk c*m)++y07 av.length W).getD e 0) (A:=λc=>nc c&&av.any λh=>((dr c).contains h&&T h)) (l:=aq) (t:=av.length) (φ:=λc=>wk c*m) cp1;have g2:=zi7 (f:=λe=>(aq.map (λc=>wk c*m)++y07 av.length W).getD e 0) (A:=λh=>nh h&&T h) (l:=av) (g:=aq.length) (φ:=λ_=>W) cp2
   have e2:z42 (λe=>(aq.map (λc=>wk c*m)++y07 av.length W).getD e 0) (λe=>!decide (e<aq.length)&&decide (e<aq.length+av.length)&&(λh=>nh h&&T h) (av.getD (e - aq.length) 0)) (aq.length+av.length)
    =z42 (λe=>(aq.map (λc=>wk c*m)++y07 av.length W).getD e 0) (λe=>!decide (e<aq.length)&&(λh=>nh h&&T h) (av.getD (e - aq.length) 0)) (aq.length+av.length):=by
    refine upTo_congr λe he=>?_;simp[he]
   exact Int.lt_of_le_of_lt (y3m (g2.symm.trans e2.symm)) (y42 q (y3m g1))
  ·rw[y1b] at he;exact of_decide_eq_true he.1
  ·rw[y1b,y1b] at he;have h1:¬e<aq.length:=by simpa using he.1.1
   have h0:e<aq.length+av.length:=of_decide_eq_true he.1.2;refine⟨h1,?_⟩;have h2:=he.2
   simp only[y1b] at h2;have h3:=hh (e - aq.length) _ (get_of_lt (by lia))
   rw[show aq.length+(e - aq.length)=e by lia] at h3
   rw[←h3];exact h2.1
  ·obtain⟨t,c,h,e2,h1,h2,h3⟩:=tie k p hp;rw[y1b] at hS;have hS2:=hS.2;have hsub:p.2 - aq.length=t:=by lia
   rw[hsub,getD_of h2] at hS2;simp only[y1b] at hS2;have hlt:p.1<aq.length:=(y00.mp h1).1;have nc1:nc c=true:=by rw[hc p.1 c h1];exact hn
   have an:(av.any λh=>((dr c).contains h&&T h))=true:=y1t.mpr ⟨h,y02 h2,by rw[y1v.mpr h3,hS2.2];rfl⟩
   simp only[hlt,decide_true,y6k,getD_of h1,nc1,an]
  ·obtain⟨h,h1,h2,h3⟩:=hT;obtain⟨t,ht⟩:=y08 h1;have htl:=(y00.mp ht).1;refine⟨aq.length+t,by show _<aq.length+av.length;lia,?_⟩
   have:¬aq.length+t<aq.length:=by lia
   have k2:aq.length+t - aq.length=t:=by lia
   have k3:aq.length+t<aq.length+av.length:=by lia
   show(!decide (aq.length+t<aq.length)&&decide (aq.length+t<aq.length+av.length)&&(nh (av.getD (aq.length+t - aq.length) 0)&&T (av.getD (aq.length+t - aq.length) 0)))=true;rw[k2,getD_of ht,h2,h3,decide_eq_false this,decide_eq_true k3];rfl
 ·obtain⟨h,h1,h2⟩:=hn;obtain⟨t,ht⟩:=y08 h1;have hside:z42 (λe=>(aq.map (λc=>wk c*m)++y07 av.length W).getD e 0) (λe=>decide (e<(netOf aq.length av.length az at').G)) (netOf aq.length av.length az at').nE≤z42 (λe=>(aq.map (λc=>wk c*m)++y07 av.length W).getD e 0) (λe=>!decide (e<(netOf aq.length av.length az at').G)) (netOf aq.length av.length az at').nE:=by
   show z42 _ _ (aq.length+av.length)≤z42 _ _ (aq.length+av.length);have g1:=zhx (f:=λe=>(aq.map (λc=>wk c*m)++y07 av.length W).getD e 0) (A:=λ_=>true) (l:=aq) (t:=av.length) (φ:=λc=>wk c*m) cp1;have g2:=zi7 (f:=λe=>(aq.map (λc=>wk c*m)++y07 av.length W).getD e 0) (A:=λ_=>true) (l:=av) (g:=aq.length) (φ:=λ_=>W) cp2
   simp only[Bool.and_true,if_true] at g1 g2;have g1':z42 (λe=>(aq.map (λc=>wk c*m)++y07 av.length W).getD e 0) (λe=>decide (e<(netOf aq.length av.length az at').G)) (aq.length+av.length)=_:=g1;have g2':z42 (λe=>(aq.map (λc=>wk c*m)++y07 av.length W).getD e 0) (λe=>!decide (e<(netOf aq.length av.length az at').G)) (aq.length+av.length)=_:=g2
   rw[g1',g2',hsum];exact y20 _
  obtain⟨e,e1,e2,e3⟩:=D.far WF hside ⟨aq.length+t,by rw[←hh t h ht];exact h2⟩
  have e1':¬e<aq.length:=e1;have e2':e<aq.length+av.length:=e2
  have hg:=get_of_lt (l:=av) (i:=e - aq.length) (by lia)
  refine⟨_,y02 hg,?_⟩;rw[hh _ _ hg,show aq.length+(e - aq.length)=e by lia]
  exact e3
end
end PM
set_option linter.all false
namespace PM
abbrev Cr:=List Nat×List Nat
section
variable (wk:Nat->Int)(dr:Nat->List Nat)
def zfj (c:Cr)(T:Nat->Bool):Int:=(c.2.map λx=>if (c.1.any λh=>((dr x).contains h&&T h)) then wk x else 0).sum
def inside (c:Cr)(T:Nat->Bool):Int:=(c.2.map λx=>if (c.1.all λh=>(!(dr x).contains h||T h)) then wk x else 0).sum
def cnt (c:Cr)(T:Nat->Bool):Int:=(c.1.map λh=>if T h then 1 else 0).sum
def tot (c:Cr):Int:=(c.2.map wk).sum
def Lo (c:Cr)(p q:Int):Prop:=∀T:Nat->Bool,(∃h∈c.1,T h=true)->p*cnt c T<q*zfj wk dr c T
def Hi (c:Cr)(p q:Int):Prop:=∀T:Nat->Bool,q*inside wk dr c T≤p*cnt c T
def zr1 (x y:Cr):Prop:=∃p q:Int,0<q/\Lo wk dr x p q/\Hi wk dr y p q
end
def nearOf (c:Cr)(nc nh:Nat->Bool):Cr:=(c.1.filter nh,c.2.filter nc)
def restOf (c:Cr)(nc nh:Nat->Bool):Cr:=(c.1.filter λh=>!nh h,c.2.filter λx=>!nc x)
theorem z2f {p:Nat->Bool}{f:Nat->Int}:∀(l:List Nat),((l.filter p).map f).sum=(l.map λx=>if p x then f x else 0).sum
 | []=>rfl
 | x::r=>by
  rw[y3h]
  by_cases h:p x=true
  ·simp[h,z2f r]
  ·simp[h,z2f r]
theorem mul_sum (k:Int)(f:Nat->Int):∀(l:List Nat),k*(l.map f).sum=(l.map λx=>k*f x).sum
 | []=>by simp
 | x::r=>by
  simp only[y0l,y0q,y5m,mul_sum k f r]
theorem any_filter {p q:Nat->Bool}(l:List Nat):((l.filter p).any q)=l.any λh=>(p h&&q h):=by
 rw[List.any_filter]
theorem all_filter {p q:Nat->Bool}(l:List Nat):((l.filter p).all q)=l.all λh=>(!p h||q h):=by
 rw[List.all_filter]
theorem zc0 {p q:Nat->Bool}{l:List Nat}(h:∀x∈l,p x=q x):l.any p=l.any q:=by
 rw[y2h,y1t,y1t];constructor
 ·rintro⟨x,hx,e⟩;exact⟨x,hx,by rw[←h x hx];exact e⟩
 ·rintro⟨x,hx,e⟩;exact⟨x,hx,by rw[h x hx];exact e⟩
theorem zap {p q:Nat->Bool}{l:List Nat}(h:∀x∈l,p x=q x):l.all p=l.all q:=by
 rw[y2h,y2j,y2j];constructor
 ·intro g x hx;rw[←h x hx];exact g x hx
 ·intro g x hx;rw[h x hx];exact g x hx
section
variable {wk:Nat->Int}{dr:Nat->List Nat}{c:Cr}{m W:Int}{nc nh:Nat->Bool}
theorem zel (T:Nat->Bool):cnt (nearOf c nc nh) T=cnt c (λh=>nh h&&T h):=by
 unfold cnt nearOf;rw[z2f];refine z1l λh _=>?_
 by_cases a:nh h=true<;>simp[a]
theorem ze8 (T:Nat->Bool):cnt (restOf c nc nh) T=cnt c (λh=>!nh h&&T h):=by
 unfold cnt restOf;rw[z2f];refine z1l λh _=>?_
 by_cases a:nh h=true<;>simp[a]
theorem zho:cnt c (λ_=>true)=c.1.length:=by
 have g:∀l:List Nat,(l.map λ_=>(1:Int)).sum=l.length:=λl=>by
  induction l with
  | nil=>rfl
  | cons x r ih =>
   simp only[y0l,y0q,y1a,ih];lia
 unfold cnt;simp only[if_true];exact g _
theorem zp4 (T:Nat->Bool):W*cnt c T=(c.1.map λh=>if T h then W else 0).sum:=by
 unfold cnt;rw[mul_sum];refine z1l λh _=>?_
 by_cases a:T h=true<;>simp[a]
theorem Cut.touch_near (C:Cut wk dr c.1 c.2 m W nc nh)(T:Nat->Bool):zfj wk dr (nearOf c nc nh) T=(c.2.map λx=>if (nc x&&c.1.any λh=>((dr x).contains h&&T h)) then wk x else 0).sum:=by
 unfold zfj nearOf;rw[z2f];refine z1l λx hx=>?_
 by_cases a:nc x=true
 ·have e:(c.1.filter nh).any (λh=>((dr x).contains h&&T h))=c.1.any (λh=>((dr x).contains h&&T h)):=by
   rw[any_filter];refine zc0 λh hh=>?_
   by_cases d:(dr x).contains h=true
   ·rw[C.up x hx h hh (y1v.mp d) a];rfl
   ·have d':(dr x).contains h=false:=by simpa using d
    rw[d'];simp
  rw[a,e];simp
 ·simp[a]
theorem Cut.lo_near (C:Cut wk dr c.1 c.2 m W nc nh):Lo wk dr (nearOf c nc nh) W m:=by
 intro T hT;obtain⟨h,h1,h2⟩:=hT;have h1':h∈c.1.filter nh:=h1;obtain⟨h3,h4⟩:=y18.mp h1';have q:=C.lo T ⟨h,h3,h4,h2⟩
 rw[zel,zp4,C.touch_near,mul_sum];refine y42 q (y3m (z1l λx _=>?_))
 split<;>simp[y28]
theorem Cut.hi_rest (C:Cut wk dr c.1 c.2 m W nc nh):Hi wk dr (restOf c nc nh) W m:=by
 intro T;have q:=C.hi T;rw[ze8,zp4];refine y3e (y3m ?_) q;unfold inside restOf;rw[z2f,mul_sum];refine z1l λx hx=>?_;have e:(c.1.filter λh=>!nh h).all (λh=>(!(dr x).contains h||T h))=c.1.all (λh=>(nh h || !(dr x).contains h||T h)):=by
  rw[all_filter];refine zap λh _=>?_
  by_cases a:nh h=true<;>simp[a]
 rw[e]
 by_cases a:nc x=true
 ·simp[a]
 ·have a':nc x=false:=by simpa using a
  by_cases b:c.1.all (λh=>(nh h || !(dr x).contains h||T h))=true
  ·rw[b,a'];simp[y28]
  ·rw[eq_false_of_ne_true b,a'];simp
theorem zks (hw:∀x∈c.2,0≤wk x)(T:Nat->Bool):zfj wk dr c T≤tot wk c:=by
 unfold zfj tot;refine z9r λx hx=>?_;have:=hw x hx
 split<;>lia
theorem zfr:inside wk dr c (λ_=>true)=tot wk c:=by
 unfold inside tot;refine z1l λx _=>?_;have:(c.1.all λh=>(!(dr x).contains h||true))=true:=by simp
 rw[if_pos this]
theorem Lo.avg {p q:Int}(h:Lo wk dr c p q)(hq:0<q)(hne:c.1 ≠ [])(hw:∀x∈c.2,0≤wk x):p*c.1.length<q*tot wk c:=by
 obtain⟨x,hx⟩:=List.exists_mem_of_ne_nil _ hne;have:=h (λ_=>true) ⟨x,hx,rfl⟩;rw[zho] at this;exact y42 this (y2c (zks hw _) (y2e hq))
theorem Hi.avg {p q:Int}(h:Hi wk dr c p q):q*tot wk c≤p*c.1.length:=by
 have:=h (λ_=>true);rw[zho,zfr] at this;exact this
theorem Cut.lo_rest (C:Cut wk dr c.1 c.2 m W nc nh){p q:Int}(h:Lo wk dr c p q):Lo wk dr (restOf c nc nh) p q:=by
 intro T hT;obtain⟨k,h1,h2⟩:=hT;have h1':k∈c.1.filter λh=>!nh h:=h1;obtain⟨h3,h4⟩:=y18.mp h1';have g:=h (λh=>!nh h&&T h) ⟨k,h3,by rw[h4,h2];rfl⟩
 rw[ze8];refine y42 g (y3m ?_);congr 1;unfold zfj restOf;rw[z2f];refine z1l λx hx=>?_
 by_cases a:nc x=true
 ·have e:c.1.any (λh=>((dr x).contains h&&(!nh h&&T h)))=false:=by
   rw[y6q];intro h hh
   by_cases d:(dr x).contains h=true
   ·rw[C.up x hx h hh (y1v.mp d) a];simp
   ·have d':(dr x).contains h=false:=by simpa using d
    rw[d'];simp
  rw[e];simp[a]
 ·have e:(c.1.filter λh=>!nh h).any (λh=>((dr x).contains h&&T h))=c.1.any (λh=>((dr x).contains h&&(!nh h&&T h))):=by
   rw[any_filter];refine zc0 λh _=>?_;cases (dr x).contains h<;>cases nh h<;>cases T h<;>rfl
  rw[e];simp[a]
theorem Cut.hi_near (C:Cut wk dr c.1 c.2 m W nc nh){p q:Int}(hq:0<q)(hw:∀x∈c.2,0≤wk x)(h:Hi wk dr c p q):Hi wk dr (nearOf c nc nh) p q:=by
 intro T;have g:=h (λh=>nh h&&T h);rw[zel];refine y3e (y2c ?_ (y2e hq)) g;unfold inside nearOf;rw[z2f];refine z9r λx hx=>?_;have w0:=hw x hx
 by_cases a:nc x=true
 ·have e:(c.1.filter nh).all (λh=>(!(dr x).contains h||T h))=c.1.all (λh=>(!(dr x).contains h||(nh h&&T h))):=by
   rw[all_filter];refine zap λh hh=>?_
   by_cases d:(dr x).contains h=true
   ·rw[C.up x hx h hh (y1v.mp d) a,d];simp
   ·have d':(dr x).contains h=false:=by simpa using d
    rw[d'];simp
  rw[e,if_pos a];exact y20 _
 ·rw[if_neg a]
  split<;>lia
end
structure Crowds (wk:Nat->Int)(dr:Nat->List Nat)(au aq:Nat)(L:List Cr):Prop where
 ord:∀(i:Nat) x y,L[i]?=some x->L[i+1]?=some y->zr1 wk dr x y
 ne:∀c∈L,c.1 ≠ []
 own:∀c∈L,∀x∈c.2,∃h∈c.1,h∈dr x
 up:∀(i:Nat) c,L[i]?=some c->∀x∈c.2,∀h∈dr x,∃(j:Nat) (d:Cr),j≤i/\L[j]?=some d/\h∈d.1
 hs:∀h:Nat,(L.map λc=>c.1.count h).sum=if h<au then 1 else 0
 cs:∀x:Nat,(L.map λc=>c.2.count x).sum=if x<aq then 1 else 0
 hr:∀c∈L,c.1.Pairwise (· < ·)
 cr:∀c∈L,c.2.Pairwise (· < ·)
theorem z7z {p:Nat->Bool}{l:List Nat}(h:Nat):(l.filter p).count h+(l.filter λx=>!p x).count h=l.count h:=by
 induction l with
 | nil=>rfl
 | cons x r ih =>
  rw[y3h,y3h]
  by_cases a:p x=true
  ·simp only[a,if_true,y4q,y27,if_false,y61];lia
  ·have a':p x=false:=by simpa using a
   simp only[a',y27,if_false,y7m,if_true,y61];lia
theorem z2e {α:Type}{A B:List α}{c:α}(i:Nat):(A++c::B)[i]?=if i<A.length then A[i]? else if i=A.length then some c else B[i - A.length - 1]?:=by
 split
 ·rename_i h;exact y0s h
 ·rename_i h;rw[y10 (by lia)]
  split
  ·rename_i h2;subst h2;simp
  ·rename_i h2;rw[show i - A.length=(i - A.length - 1)+1 by lia]
   simp
theorem z59 {α:Type}{A B:List α}{c d:α}(i:Nat):(A++c::d::B)[i]?=if i<A.length then A[i]? else if i=A.length then some c else if i=A.length+1 then some d else B[i - A.length - 2]?:=by
 rw[z2e]
 split
 ·rfl
 ·split
  ·rfl
  ·rename_i h1 h2
   split
   ·rename_i h3;subst h3;simp
   ·rename_i h3;rw[show i - A.length - 1=(i - A.length - 2)+1 by lia]
    simp
theorem Crowds.cut {wk:Nat->Int}{dr:Nat->List Nat}{au aq:Nat}{A B:List Cr}{c:Cr}(hw:∀x,0<wk x)(K:Crowds wk dr au aq (A++c::B)){nc nh:Nat->Bool}(C:Cut wk dr c.1 c.2 c.1.length (tot wk c) nc nh)(hn:∃h∈c.1,nh h=true) :
  Crowds wk dr au aq (A++nearOf c nc nh::restOf c nc nh::B):=by
 have hc:c∈A++c::B:=by simp
 have hcn:=K.ne c hc;have m0:(0:Int)<c.1.length:=by
  have:=y0x.mpr hcn;lia
 have w0:∀x∈c.2,0≤wk x:=λx _=>y2e (hw x);have mem:∀d,d∈A++nearOf c nc nh::restOf c nc nh::B->d=nearOf c nc nh∨d=restOf c nc nh∨d∈A++c::B:=λd hd=>by
  rcases y0y.mp hd with h | h
  ·exact .inr (.inr (y0y.mpr (.inl h)))
  ·rcases y0k.mp h with h | h
   ·exact .inl h
   ·rcases y0k.mp h with h | h
    ·exact .inr (.inl h)
    ·exact .inr (.inr (y0y.mpr (.inr (y0a _ h))))
 obtain⟨hf,hf1,hf2⟩:=C.far hn;obtain⟨hh,hh1,hh2⟩:=hn;have nowork:∀x∈c.2,nc x=false->∃h∈c.1,nh h=false/\h∈dr x:=λx hx hnx=>by
  apply Classical.byContradiction;intro hno;have q:=C.hi (λ_=>false);have z:(c.1.map λh=>if (!nh h&&false)=true then tot wk c else 0).sum=0:=by
   have:(c.1.map λh=>if (!nh h&&false)=true then tot wk c else 0)=c.1.map λ_=>0:=by
    refine y0m λh _=>?_;simp
   rw[this];clear this
   induction c.1 with
   | nil=>rfl
   | cons a r ih=>simp[ih]
  rw[z] at q;have pos:(0:Int)<wk x*c.1.length:=y4w (hw x) m0;have one:wk x*c.1.length≤(c.2.map λy=>if (!nc y&&c.1.all λh=>(nh h || !(dr y).contains h||false))=true then wk y*c.1.length else 0).sum:=by
   have nn:∀y∈c.2,(0:Int)≤(if (!nc y&&c.1.all λh=>(nh h || !(dr y).contains h||false))=true then wk y*c.1.length else 0):=λy _=>by
    split
    ·exact y2g (y2e (hw y)) (y2e m0)
    ·exact y20 _
   have at':(if (!nc x&&c.1.all λh=>(nh h || !(dr x).contains h||false))=true then wk x*c.1.length else 0)=wk x*c.1.length:=by
    have:c.1.all (λh=>(nh h || !(dr x).contains h||false))=true:=by
     rw[y2j];intro h hh'
     by_cases a:nh h=true
     ·simp[a]
     ·by_cases d:(dr x).contains h=true
      ·exact absurd ⟨h,hh',by simpa using a,y1v.mp d⟩ hno
      ·have d':(dr x).contains h=false:=by simpa using d
       rw[d'];simp
    rw[this,hnx];rfl
   have key:∀(l:List Nat) (f:Nat->Int),(∀y∈l,0≤f y)->x∈l->f x≤(l.map f).sum:=by
    intro l f hl hm
    induction l with
    | nil=>simp at hm
    | cons a r ih =>
     simp only[y0l,y0q];have ha:=hl a y0d;have hr:∀y∈r,0≤f y:=λy hy=>hl y (y0a _ hy)
     have hs:0≤(r.map f).sum:=sum_nn λi v hv=>by
      obtain⟨y,hy,rfl⟩:=y1i.mp (y02 hv);exact hr y hy
     rcases y0k.mp hm with rfl | hm
     ·lia
     ·have:=ih hr hm;lia
   exact y3e (y3m at'.symm) (key c.2 (λy=>if (!nc y&&c.1.all λh=>(nh h || !(dr y).contains h||false))=true then wk y*c.1.length else 0) nn hx)
  lia
 refine⟨λi x y hx hy=>?_,λd hd=>?_,λd hd=>?_,λi d hd x hx h hh'=>?_,λh=>?_,λx=>?_,λd hd=>?_,λd hd=>?_⟩
 ·rw[z59] at hx hy;have old:=λ(i:Nat) (x y:Cr) (h1:(A++c::B)[i]?=some x) (h2:(A++c::B)[i+1]?=some y)=>K.ord i x y h1 h2;rcases y33 (i+1) A.length with h | h | h
  ·rw[if_pos (by lia)] at hx
   rw[if_pos (by lia)] at hy
   exact old i x y (by rw[z2e,if_pos (by lia)];exact hx) (by rw[z2e,if_pos (by lia)];exact hy)
  ·rw[if_pos (by lia)] at hx
   rw[if_neg (by lia),if_pos (by lia)] at hy
   cases hy;obtain⟨p,q,q0,l,u⟩:=old i x c (by rw[z2e,if_pos (by lia)];exact hx) (by rw[z2e,if_neg (by lia),if_pos (by lia)])
   exact⟨p,q,q0,l,C.hi_near q0 w0 u⟩
  ·rcases y33 i A.length with h' | h' | h'
   ·lia
   ·rw[if_neg (by lia),if_pos h'] at hx
    rw[if_neg (by lia),if_neg (by lia),if_pos (by lia)] at hy
    cases hx;cases hy;exact⟨tot wk c,c.1.length,m0,C.lo_near,C.hi_rest⟩
   ·rw[if_neg (by lia),if_neg (by lia)] at hx
    rw[if_neg (by lia),if_neg (by lia),if_neg (by lia)] at hy
    by_cases h2:i=A.length+1
    ·rw[if_pos h2] at hx;cases hx;obtain⟨p,q,q0,l,u⟩:=old A.length c y (by rw[z2e,if_neg (by lia),if_pos rfl]) (by rw[z2e,if_neg (by lia),if_neg (by lia)];rw[show i+1 - A.length - 2=A.length+1 - A.length - 1 by lia] at hy;exact hy)
     exact⟨p,q,q0,C.lo_rest l,u⟩
    ·rw[if_neg h2] at hx;refine old (i - 1) x y ?_ ?_
     ·rw[z2e,if_neg (by lia),if_neg (by lia),show i - 1 - A.length - 1=i - A.length - 2 by lia]
      exact hx
     ·rw[z2e,if_neg (by lia),if_neg (by lia),show i - 1+1 - A.length - 1=i+1 - A.length - 2 by lia]
      exact hy
 ·rcases mem d hd with rfl | rfl | h
  ·intro z;have:hh∈(nearOf c nc nh).1:=y18.mpr ⟨hh1,hh2⟩;rw[z] at this;simp at this
  ·intro z;have:hf∈(restOf c nc nh).1:=y18.mpr ⟨hf1,by rw[hf2];rfl⟩
   rw[z] at this;simp at this
  ·exact K.ne d h
 ·rcases mem d hd with rfl | rfl | h
  ·intro x hx;have hx':x∈c.2.filter nc:=hx;obtain⟨h1,h2⟩:=y18.mp hx';obtain⟨h,h3,h4⟩:=K.own c hc x h1;exact⟨h,y18.mpr ⟨h3,C.up x h1 h h3 h4 h2⟩,h4⟩
  ·intro x hx;have hx':x∈c.2.filter λx=>!nc x:=hx;obtain⟨h1,h2⟩:=y18.mp hx';obtain⟨h,h3,h4,h5⟩:=nowork x h1 (by simpa using h2)
   exact⟨h,y18.mpr ⟨h3,by rw[h4];rfl⟩,h5⟩
  ·exact K.own d h
 ·-- where a doer stands
  have place:∀(j:Nat) (d:Cr) (lim:Nat),(A++c::B)[j]?=some d->h∈d.1->(j<A.length->j≤lim)->(j=A.length->A.length+1≤lim∨(nh h=true/\A.length≤lim))->(A.length<j->j+1≤lim)->∃(j:Nat) (d:Cr),j≤lim/\(A++nearOf c nc nh::restOf c nc nh::B)[j]?=some d/\h∈d.1:=by
   intro j d lim hj hd' b1 b2 b3;rw[z2e] at hj;rcases y33 j A.length with q | q | q
   ·rw[if_pos q] at hj;exact⟨j,d,b1 q,by rw[z59,if_pos q];exact hj,hd'⟩
   ·rw[if_neg (by lia),if_pos q] at hj
    cases hj
    by_cases a:nh h=true
    ·refine⟨A.length,nearOf c nc nh,?_,by rw[z59,if_neg (by lia),if_pos rfl],y18.mpr ⟨hd',a⟩⟩
     rcases b2 q with z | z
     ·lia
     ·exact z.2
    ·rcases b2 q with z | z
     ·exact⟨A.length+1,restOf c nc nh,z,by rw[z59,if_neg (by lia),if_neg (by lia),if_pos rfl],y18.mpr ⟨hd',by simpa using a⟩⟩
     ·exact absurd z.1 a
   ·rw[if_neg (by lia),if_neg (by lia)] at hj
    exact⟨j+1,d,b3 q,by rw[z59,if_neg (by lia),if_neg (by lia),if_neg (by lia),show j+1 - A.length - 2=j - A.length - 1 by lia];exact hj,hd'⟩
  rw[z59] at hd;rcases y33 i A.length with q | q | q
  ·rw[if_pos q] at hd;obtain⟨j,e,h1,h2,h3⟩:=K.up i d (by rw[z2e,if_pos q];exact hd) x hx h hh'
   exact place j e i h2 h3 (λ_=>h1) (λz=>by lia) (λz=>by lia)
  ·rw[if_neg (by lia),if_pos q] at hd
   cases hd;have hx':x∈c.2.filter nc:=hx;obtain⟨g1,g2⟩:=y18.mp hx';obtain⟨j,e,h1,h2,h3⟩:=K.up i c (by rw[z2e,if_neg (by lia),if_pos q]) x g1 h hh'
   refine place j e i h2 h3 (λ_=>h1) (λz=>.inr ⟨?_,by lia⟩) (λz=>by lia)
   rw[z2e,if_neg (by lia),if_pos z] at h2
   cases h2;exact C.up x g1 h h3 hh' g2
  ·rw[if_neg (by lia),if_neg (by lia)] at hd
   by_cases h2:i=A.length+1
   ·rw[if_pos h2] at hd;cases hd;have hx':x∈c.2.filter λx=>!nc x:=hx;obtain⟨g1,g2⟩:=y18.mp hx';obtain⟨j,e,h1,h2',h3⟩:=K.up A.length c (by rw[z2e,if_neg (by lia),if_pos rfl]) x g1 h hh'
    exact place j e i h2' h3 (λ_=>by lia) (λz=>.inl (by lia)) (λz=>by lia)
   ·rw[if_neg h2] at hd;obtain⟨j,e,h1,h2',h3⟩:=K.up (i - 1) d (by rw[z2e,if_neg (by lia),if_neg (by lia),show i - 1 - A.length - 1=i - A.length - 2 by lia];exact hd) x hx h hh'
    exact place j e i h2' h3 (λ_=>by lia) (λz=>.inl (by lia)) (λz=>by lia)
 ·have:=K.hs h;rw[←this];simp only[y0g,y0l,y1x,y0q];have:=z7z (p:=nh) (l:=c.1) h
  have e1:(nearOf c nc nh).1=c.1.filter nh:=rfl;have e2:(restOf c nc nh).1=c.1.filter λx=>!nh x:=rfl
  rw[e1,e2];lia
 ·have:=K.cs x;rw[←this];simp only[y0g,y0l,y1x,y0q];have:=z7z (p:=nc) (l:=c.2) x
  have e1:(nearOf c nc nh).2=c.2.filter nc:=rfl;have e2:(restOf c nc nh).2=c.2.filter λx=>!nc x:=rfl
  rw[e1,e2];lia
 ·rcases mem d hd with rfl | rfl | h
  ·exact(K.hr c hc).filter _
  ·exact(K.hr c hc).filter _
  ·exact K.hr d h
 ·rcases mem d hd with rfl | rfl | h
  ·exact(K.cr c hc).filter _
  ·exact(K.cr c hc).filter _
  ·exact K.cr d h
theorem Crowds.fall {wk:Nat->Int}{dr:Nat->List Nat}{au aq:Nat}{L:List Cr}(hw:∀x,0<wk x)(K:Crowds wk dr au aq L){i:Nat}{x y:Cr}(hx:L[i]?=some x)(hy:L[i+1]?=some y):tot wk y*x.1.length<tot wk x*y.1.length:=by
 obtain⟨p,q,q0,l,u⟩:=K.ord i x y hx hy;have a:=l.avg q0 (K.ne x (y02 hx)) (λz _=>y2e (hw z));have b:=u.avg
 have x0:(0:Int)<x.1.length:=by
  have:=y0x.mpr (K.ne x (y02 hx));lia
 have y0:(0:Int)<y.1.length:=by
  have:=y0x.mpr (K.ne y (y02 hy));lia
 have a1:q*tot wk y*x.1.length≤p*y.1.length*x.1.length:=y26 b (y2e x0);have a2:p*x.1.length*y.1.length<q*tot wk x*y.1.length:=y3n a y0
 have a3:q*(tot wk y*x.1.length)<q*(tot wk x*y.1.length):=by
  have e1:q*(tot wk y*x.1.length)=q*tot wk y*x.1.length:=(y2r _ _ _).symm;have e2:q*(tot wk x*y.1.length)=q*tot wk x*y.1.length:=(y2r _ _ _).symm
  have e3:p*(y.1.length:Int)*x.1.length=p*x.1.length*y.1.length:=by rw[y2r,y28 (y.1.length:Int),←y2r]
  lia
 exact Int.lt_of_mul_lt_mul_left a3 (y2e q0)
end PM
set_option Elab.async false
set_option linter.all false
set_option maxRecDepth 100000
namespace L2.EX
open PySem PySem.Spec PyProof.Rows
def zl0 (xs:List V)(lo hi st:Option Int):List V:=(sliceRange (sliceBounds lo hi st xs.length).1 (sliceBounds lo hi st xs.length).2.1 (sliceBounds lo hi st xs.length).2.2).filterMap (xs[·]?)
theorem Vals.pick {xs:List V}{us:List Value}(r:Vals xs us):∀ix:List Nat,Vals (ix.filterMap (xs[·]?)) (ix.filterMap (us[·]?))
 | []=>.nil
 | i::ix=>by
  have ih:=Vals.pick r ix;cases h:xs[i]? with
  | none =>
   have h':=r.none_of h;simp only[y2o,h,h'];exact ih
  | some x =>
   obtain⟨u,h',q⟩:=r.get h;simp only[y2o,h,h'];exact .cons q ih
section
variable {X:Cx}{e ste:Expr}{te:TE}{lo hi:Option Expr}{tl th ts:TO}{pos p2:Pos}
def zq6 (K:y03)(te:TE)(tl th ts:TO)(σ:St)(H:Hp)(Q:VK):Prop:=te σ H λx H1=>tl σ H1 λl H2=>th σ H2 λu H3=>ts σ H3 λst H4=>match x with
 | .ref a=>∃xs,SqL K H4 a xs/\st≠some 0/\∀p,H4 p=none->Q (.ref p) (upd H4 p (.lst (zl0 xs l u st)))
 | _=>False
theorem zcw (he:PE X e te)(hl:PO X lo tl)(hu:PO X hi th)(hs:PO X (some ste) ts):PE X (.Subscript e (.Slice lo hi (some ste) p2) pos) (zq6 X.K te tl th ts):=by
 intro ao s σ H Q I h;refine Subscript_ (thn (he ao s σ H _ I h) λv s1 ⟨x,H1,I1,r1,q1⟩=>?_);refine wpAny_Slice (thn (hl ao s1 σ H1 _ I1 q1) λvl s2 ⟨l,H2,I2,pl,q2⟩=>thn (hu ao s2 σ H2 _ I2 q2) λvu s3 ⟨u,H3,I3,pu,q3⟩=>thn (hs ao s3 σ H3 _ I3 q3) λvs s4 h4=>?_);obtain⟨st,H4,I4,ps,q4⟩:=h4;have I5:Inv X ao σ H4 { s4 with heap:=s4.heap.push { cls:=.type "slice",data:=.fields #[vl,vu,vs] } }:=I4.kept (t':=s4.toks) λb ob q=>Heap.get?_push_of_some _ q
 obtain⟨a,rfl⟩:∃a,x = .ref a:=by cases x<;>first | exact⟨_,rfl⟩ | exact q4.elim
 obtain⟨xs,hx,h0,q⟩:=q4;cases r1;obtain⟨its,r,ht,hz⟩:=I5.list hx;have hlen:=r.length;show wpAny (model X.prog X.w) X.A (subscriptTail e (.Slice lo hi (some ste) p2) (.ref a) (.ref s4.heap.objs.size)) (EP X ao σ Q) X.xe { s4 with heap:=s4.heap.push { cls:=.type "slice",data:=.fields #[vl,vu,vs] } }
 refine tail_any (ops:=[.ref a,.ref s4.heap.objs.size]) ht.isList.typeIs slot_list_getitem.lookup ?_ (by with_unfolding_all rfl)
 refine wpAny_getItem_list_slice ht.isList (Heap.IsSliceOf.new ..) pl pu ps h0 ?_ (by rw[y0h]<;>lia)
 have e2:slicePick its.toArray l u st=((sliceRange (sliceBounds l u st xs.length).1 (sliceBounds l u st xs.length).2.1 (sliceBounds l u st xs.length).2.2).filterMap (its[·]?)).toArray:=by
  unfold slicePick;rw[y0h,←hlen];simp
 rw[e2];have hz':(zl0 xs l u st).length≤sizeLine:=by
  have h1:=slicePick_size_le its.toArray l u st;rw[e2] at h1;have h2:=(Vals.pick r (sliceRange (sliceBounds l u st xs.length).1 (sliceBounds l u st xs.length).2.1 (sliceBounds l u st xs.length).2.2)).length
  simp only[y0h] at h1;have:(zl0 xs l u st).length=((sliceRange (sliceBounds l u st xs.length).1 (sliceBounds l u st xs.length).2.1 (sliceBounds l u st xs.length).2.2).filterMap (its[·]?)).length:=h2;lia
 refine⟨.ref _,_,I5.laid (t':=s4.toks) (o:=.lst (zl0 xs l u st)) (λb ob q=>Heap.get?_push_of_some _ q) (y0b _) ?_,rfl,q _ (I5.hok.fresh (y0b _))⟩;exact⟨hz',_,0,Vals.pick r _,Heap.get?_push_size _ rfl⟩
end
theorem z9e {α:Type}{x y:α}{r:List α}:∀(c k:Nat),((y0f c).map (λi=>k+2+2*i)).filterMap ((x::y::r)[·]?)=((y0f c).map (λi=>k+2*i)).filterMap (r[·]?):=by
 intro c k;rw[y6l,y6l];congr 1;funext i;simp only[Function.comp];rw[show k+2+2*i=(k+2*i)+1+1 by lia]
 simp
theorem z8g {α:Type}:∀(xs:List α),((y0f ((xs.length+1) / 2)).map (λi=>0+2*i)).filterMap (xs[·]?)=PM.alt true xs/\((y0f (xs.length / 2)).map (λi=>1+2*i)).filterMap (xs[·]?)=PM.alt false xs
 | []=>⟨by simp[PM.alt],by simp[PM.alt]⟩
 | [x]=>⟨by simp[PM.alt],by simp[PM.alt]⟩
 | x::y::r=>by
  obtain⟨h1,h2⟩:=z8g r;have e1:((x::y::r).length+1) / 2=(r.length+1) / 2+1:=by simp only[y1a];lia
  have e2:(x::y::r).length / 2=r.length / 2+1:=by simp only[y1a];lia
  constructor
  ·rw[e1,y5s,y0l,y1z,y2o];have e:((λi=>0+2*i)∘Nat.succ)=λi=>0+2+2*i:=by funext i;simp only[Function.comp];lia
   rw[e,z9e,h1];rfl
  ·rw[e2,y5s,y0l,y1z,y2o];have e:((λi=>1+2*i)∘Nat.succ)=λi=>1+2+2*i:=by funext i;simp only[Function.comp];lia
   rw[e,z9e,h2];rfl
theorem ziq (xs:List V):zl0 xs (some 0) none (some 2)=PM.alt true xs:=by
 rw[←(z8g xs).1];unfold zl0 sliceRange;congr 1;have e1:(sliceBounds (some 0) none (some 2) xs.length).1=0:=by
  have:max (0:Int) (min 0 (xs.length:Int))=0:=by lia
  simpa [sliceBounds] using this
 have e2:(sliceBounds (some 0) none (some 2) xs.length).2.1=xs.length:=by simp[sliceBounds]
 have e3:(sliceBounds (some 0) none (some 2) xs.length).2.2=2:=by simp[sliceBounds]
 rw[e1,e2,e3];have c:(if (2:Int)>0 then (if (0:Int)<(xs.length:Int) then ((xs.length:Int) - 0+2 - 1) / 2 else 0) else (if (0:Int)>(xs.length:Int) then (0 - (xs.length:Int) - 2 - 1) / (-2) else 0)).toNat=(xs.length+1) / 2:=by
  rw[if_pos (by decide)]
  split<;>lia
 show(y0f (y3o _)).map _=_;rw[c];refine y0m λk _=>?_;lia
theorem zdp (xs:List V):zl0 xs (some 1) none (some 2)=PM.alt false xs:=by
 rw[←(z8g xs).2];unfold zl0 sliceRange;congr 1;have e2:(sliceBounds (some 1) none (some 2) xs.length).2.1=xs.length:=by simp[sliceBounds]
 have e3:(sliceBounds (some 1) none (some 2) xs.length).2.2=2:=by simp[sliceBounds]
 rw[e2,e3];rcases y21 xs.length with z | z
 ·have c:xs.length / 2=0:=by lia
  rw[c,z];rfl
 ·have e1:(sliceBounds (some 1) none (some 2) xs.length).1=1:=by
   have:max (0:Int) (min 1 (xs.length:Int))=1:=by lia
   simpa [sliceBounds] using this
  rw[e1];have c:(if (2:Int)>0 then (if (1:Int)<(xs.length:Int) then ((xs.length:Int) - 1+2 - 1) / 2 else 0) else (if (1:Int)>(xs.length:Int) then (1 - (xs.length:Int) - 2 - 1) / (-2) else 0)).toNat=xs.length / 2:=by
   rw[if_pos (by decide)]
   split<;>lia
  show(y0f (y3o _)).map _=_;rw[c];refine y0m λk _=>?_;lia
end L2.EX
set_option Elab.async false
set_option linter.all false
set_option maxRecDepth 100000
namespace L2.EX
open PySem PySem.Spec PyProof.Rows
def CNx (Pv:Nat->List V->Hp->Prop)(n i:Nat)(ys:List V)(H:Hp):Prop:=∃m',m'<n+1 - i/\m'=n - i/\i≤n/\Pv i ys H
theorem CNx.mk {Pv:Nat->List V->Hp->Prop}{n i:Nat}{ys:List V}{H:Hp}(h:Pv i ys H)(hi:i≤n):CNx Pv n i ys H:=⟨n - i,by lia,rfl,hi,h⟩
section
variable {K:y03}{g:TG}{tt:TT}{te:TE}{σ0:St}{Q:VK}{H:Hp}
theorem z1r {a:Addr}{xs:List V}(Pv:Nat->List V->Hp->Prop)(h0:Pv 0 [] H)(hz:xs.length<sizeLine)(hl:∀i ys H,i≤xs.length->Pv i ys H->SqL K H a xs/\ys.length≤i)
  (hs:∀i x ys H,xs[i]?=some x->Pv i ys H->g x σ0 H fun σ2 H2=>tt σ2 H2 λb H3=>if b=true then te σ2 H3 λy H4=>CNx Pv xs.length (i+1) (ys ++ [y]) H4 else CNx Pv xs.length (i+1) ys H3)
  (hd:∀ys H,Pv xs.length ys H->∀l,H l=none->Q (.ref l) (upd H l (.lst ys))):z6n (Itl K a) g tt te σ0 Q H:=by
 refine⟨λi m ys H=>m=xs.length - i/\i≤xs.length/\Pv i ys H,⟨xs.length,by simp,y25 _,h0⟩,?_⟩
 rintro i m ys H ⟨rfl,hi,p⟩;obtain⟨q,yl⟩:=hl i ys H hi p
 by_cases hlt:i<xs.length
 ·refine .inr ⟨⟨xs,xs[i],q,by simp[hlt]⟩,by lia,λx H' y=>?_⟩
  obtain⟨e1,e2⟩:=y;have e3:=e2 xs q;subst e1;have hx:xs[i]?=some x:=e3
  have z:=hs i x ys H' hx p;rw[show xs.length - i=xs.length+1 - (i+1) by lia]
  exact z
 ·have e:i=xs.length:=by lia
  subst e;exact .inl ⟨⟨xs,q,y0b _⟩,by lia,hd ys H p⟩
theorem zb3 {a:Addr}{xs:List V}(Pv:Nat->List V->Hp->Prop)(h0:Pv 0 [] H)(hz:xs.length<sizeLine)(hl:∀i ys H,i≤xs.length->Pv i ys H->SqL K H a xs/\ys.length≤i)
  (hs:∀i x ys H p,xs[i]?=some x->Pv i ys H->H p=none->g (.ref p) σ0 (upd H p (.tup [.int i,x])) fun σ2 H2=>tt σ2 H2 λb H3=>if b=true then te σ2 H3 λy H4=>CNx Pv xs.length (i+1) (ys ++ [y]) H4 else CNx Pv xs.length (i+1) ys H3)
  (hd:∀ys H,Pv xs.length ys H->∀l,H l=none->Q (.ref l) (upd H l (.lst ys))):z6n (Ite K a) g tt te σ0 Q H:=by
 refine⟨λi m ys H=>m=xs.length - i/\i≤xs.length/\Pv i ys H,⟨xs.length,by simp,y25 _,h0⟩,?_⟩
 rintro i m ys H ⟨rfl,hi,p⟩;obtain⟨q,yl⟩:=hl i ys H hi p
 by_cases hlt:i<xs.length
 ·refine .inr ⟨⟨xs,xs[i],q,by simp[hlt]⟩,by lia,λx H' y=>?_⟩
  obtain⟨t,v,ht,e1,e2,e3⟩:=y;subst e1 e2;have z:=hs i v ys H t (e3 xs q) p ht;rw[show xs.length - i=xs.length+1 - (i+1) by lia]
  exact z
 ·have e:i=xs.length:=by lia
  subst e;exact .inl ⟨⟨xs,q,y0b _⟩,by lia,hd ys H p⟩
theorem z9j {lo:Int}{n:Nat}(Pv:Nat->List V->Hp->Prop)(h0:Pv 0 [] H)(hz:n<sizeLine)(hl:∀i ys H,i≤n->Pv i ys H->ys.length≤i)
  (hs:∀i ys H,i<n->Pv i ys H->g (.int (lo+i)) σ0 H fun σ2 H2=>tt σ2 H2 λb H3=>if b=true then te σ2 H3 λy H4=>CNx Pv n (i+1) (ys ++ [y]) H4 else CNx Pv n (i+1) ys H3)
  (hd:∀ys H,Pv n ys H->∀l,H l=none->Q (.ref l) (upd H l (.lst ys))):z6n (Itr lo n) g tt te σ0 Q H:=by
 refine⟨λi m ys H=>m=n - i/\i≤n/\Pv i ys H,⟨n,by simp,y25 _,h0⟩,?_⟩
 rintro i m ys H ⟨rfl,hi,p⟩;have yl:=hl i ys H hi p
 by_cases hlt:i<n
 ·refine .inr ⟨hlt,by lia,λx H' y=>?_⟩
  obtain⟨e1,e2⟩:=y;subst e1 e2;have z:=hs i ys _ hlt p;rw[show n - i=n+1 - (i+1) by lia]
  exact z
 ·have e:i=n:=by lia
  subst e;exact .inl ⟨y0b _,by lia,hd ys H p⟩
end
section
variable {X:Cx}{scope:Scope}{N:List Str}{c:CC}{e:Expr}
theorem pgC {g g':TG}(h:PG (z0u X scope N c) e g)(q:g=g'):PG (z0u X scope N c) e g':=q▸h
theorem peC {g g':TE}(h:PE (z0u X scope N c) e g)(q:g=g'):PE (z0u X scope N c) e g':=q▸h
theorem ptC {g g':TT}(h:PT (z0u X scope N c) e g)(q:g=g'):PT (z0u X scope N c) e g':=q▸h
end
end L2.EX
set_option Elab.async false
set_option linter.all false
set_option maxRecDepth 100000
namespace L2.EX
open PySem PySem.Spec PyProof.Rows
def ItAt (t:Bool)(h:Heap)(i a:Addr)(k:Nat):Prop:=if t then h.IsTupleIter i a k else h.IsListIter i a k
def SeqAt (t:Bool)(h:Heap)(a:Addr)(xs:Array Value):Prop:=if t then h.IsTuple a xs else h.IsList a xs
theorem ItAt.at {t:Bool}{h h':Heap}{i a:Addr}{k:Nat}(x:ItAt t h i a k)(e:∀o,h.get? i=some o->h'.get? i=some o):ItAt t h' i a k:=by
 cases t
 ·exact Heap.IsListIter.at x e
 ·exact Heap.IsTupleIter.at x e
theorem SeqAt.at {t:Bool}{h h':Heap}{a:Addr}{xs:Array Value}(x:SeqAt t h a xs)(e:∀o,h.get? a=some o->h'.get? a=some o):SeqAt t h' a xs:=by
 cases t
 ·obtain⟨o,ho,r⟩:=x;exact⟨o,e _ ho,r⟩
 ·obtain⟨o,ho,r⟩:=x;exact⟨o,e _ ho,r⟩
section
variable {prog:Program}{w:World}{A:Around}{E:Value->Shared->Prop}{s:Shared}
theorem z8s {it t:Addr}{i:Nat}{items:Array Value}{x:Value}{Q:Value->Shared->Prop}(hit:s.heap.IsTupleIter it t i)(ht:s.heap.IsTuple t items)(hx:items[i]?=some x)
  (hQ:∀h',h'.IsTupleIter it t (i+1)->Heap.SameBut it s.heap h'->Q x { s with heap:=h' }):wpAny (model prog w) A (Builtin.SmallTypes.nextOf (.ref it)) Q E s:=by
 obtain⟨o,ho,hc,hd⟩:=id hit;obtain⟨p,hp,_,n,hdp⟩:=ht;unfold Builtin.SmallTypes.nextOf;refine wpAny_bind (wpAny_callSpecial?_slot (name:=Str.ofString "__next__") hit.typeIs F.slot_tuple_iterator_next (wpAny_call_entry F.slot_tuple_iterator_next hit.typeIs F.entry_tuple_iterator_next ?_ (F.args_tuple_iterator_next_1 _)));refine wpAny_bind (m:=field (.ref it) 0) (wpAny_field ho hd (x:=.ref t) rfl ?_);refine wpAny_bind (m:=field (.ref it) 1) (wpAny_field ho hd (x:=.int i 0) rfl ?_);refine wpAny_bind (m:=seqItems? (.ref t)) (wpAny_seqItems hp hdp ?_);simp only[y3c,hx];refine wpAny_bind (wpAny_setField ho hd (by simp) (wpAny_pure ⟨x,rfl,wpAny_pure (hQ _ ?_ (Heap.SameBut.update ..))⟩))
 exact⟨_,Heap.get?_update_self _ ho (Obj.isFreed_of_fields (Obj.data_mapFields hd _)),(Obj.cls_mapFields ..).trans hc,by rw[Obj.data_mapFields hd];simp[rawInt]⟩
theorem z93 {it t:Addr}{i:Nat}{items:Array Value}{Q:Value->Shared->Prop}(hh:A.handled=none)(hit:s.heap.IsTupleIter it t i)(ht:s.heap.IsTuple t items)(hx:items[i]?=none)
  (hE:∀h' e,Heap.ExtBut it s.heap h'->(∃o,h'.get? e=some o/\o.cls = .type "StopIteration")->E (.ref e) { s with heap:=h' }):wpAny (model prog w) A (Builtin.SmallTypes.nextOf (.ref it)) Q E s:=by
 obtain⟨o,ho,hc,hd⟩:=id hit;obtain⟨p,hp,_,n,hdp⟩:=ht;unfold Builtin.SmallTypes.nextOf;refine wpAny_bind (wpAny_callSpecial?_slot (name:=Str.ofString "__next__") hit.typeIs F.slot_tuple_iterator_next (wpAny_call_entry F.slot_tuple_iterator_next hit.typeIs F.entry_tuple_iterator_next ?_ (F.args_tuple_iterator_next_1 _)));refine wpAny_bind (m:=field (.ref it) 0) (wpAny_field ho hd (x:=.ref t) rfl ?_);refine wpAny_bind (m:=field (.ref it) 1) (wpAny_field ho hd (x:=.int i 0) rfl ?_);refine wpAny_bind (m:=seqItems? (.ref t)) (wpAny_seqItems hp hdp ?_);simp only[y3c,hx];refine wpAny_bind (wpAny_rule (wpAny_bind (wpAny_setField ho hd (by simp) ?_)))
 refine wpAny_bind (m:=newExc (.type "StopIteration") []) ?_;simp only[newExc,newTuple];refine wpAny_bind (wpAny_newObj_type ?_ (by size_fits))
 refine wpAny_bind (m:=firstArgMember _ _) (wpAny_of_eq (a:=Value.none) (by first | rfl | (simp only[firstArgMember];rfl)) ?_)
 refine wpAny_newObj_type ?_ (by size_fits)
 simp only[raiseNew];refine wpAny_bind (wpAny_handled ?_)
 first | rw[show A.in1.handled=none from hh] | rw[hh]
 refine wpAny_bind (wpAny_pure (wpAny_throw ?_));exact hE _ _ (((Heap.SameBut.update ..).extBut.push _).push _) ⟨_,Heap.get?_push_size _ rfl,rfl⟩
theorem zcg {t:Bool}{i a:Addr}{k:Nat}{xs:Array Value}{x:Value}{Q:Value->Shared->Prop}(hit:ItAt t s.heap i a k)(hs:SeqAt t s.heap a xs)(hx:xs[k]?=some x)
  (hQ:∀h',ItAt t h' i a (k+1)->Heap.SameBut i s.heap h'->Q x { s with heap:=h' }):wpAny (model prog w) A (Builtin.SmallTypes.nextOf (.ref i)) Q E s:=by
 cases t
 ·exact wpAny_nextOf_list_item hit hs hx hQ
 ·exact z8s hit hs hx hQ
theorem zfo {t:Bool}{i a:Addr}{k:Nat}{xs:Array Value}{Q:Value->Shared->Prop}(hh:A.handled=none)(hit:ItAt t s.heap i a k)(hs:SeqAt t s.heap a xs)(hx:xs[k]?=none)
  (hE:∀h' e,Heap.ExtBut i s.heap h'->(∃o,h'.get? e=some o/\o.cls = .type "StopIteration")->E (.ref e) { s with heap:=h' }):wpAny (model prog w) A (Builtin.SmallTypes.nextOf (.ref i)) Q E s:=by
 cases t
 ·exact wpAny_nextOf_list_end hh hit hs hx hE
 ·exact z93 hh hit hs hx hE
end
end L2.EX
set_option Elab.async false
set_option linter.all false
set_option maxRecDepth 100000
namespace L2.EX
open PySem PySem.Spec PyProof.Rows
abbrev z4e (h:Heap)(T:Addr)(vs:List Value):Prop:=h.get? T=some { cls:=.type "tuple",data:=.seq vs.toArray }
abbrev zg8 (b:Nat)(m:Nat):List Value:=(y4x 0 m).map λj=>Value.ref (b+j)
abbrev zh8 (h:Heap)(e:Addr):Prop:=∃o,h.get? e=some o/\o.cls = .type "StopIteration"
def Kp (b:Nat)(m:Nat)(c:Nat):Prop:=c<b∨c=b+m∨b+m+2<c
def zlf (b:Nat)(m:Nat)(h h':Heap):Prop:=∀(c:Nat) o,Kp b m c->h.get? c=some o->h'.get? c=some o
structure ZSt (b:Nat)(src:List (Bool×Addr))(k:Nat)(f0:Value)(h:Heap):Prop where
 zip:IsZip h (b+src.length+2) (b+src.length) (b+src.length+1) f0
 its:z4e h (b+src.length) (zg8 b src.length)
 own:∃old,old.length=src.length/\z4e h (b+src.length+1) old
 it:∀(j:Nat) p,src[j]?=some p->ItAt p.1 h (b+j) p.2 k
section
variable {prog:Program}{w:World}{A:Around}{E:Value->Shared->Prop}
theorem zrx {T:Addr}{old:List Value}{j:Nat}{x:Value}{s:Shared}{Q:Unit->Shared->Prop}(hT:z4e s.heap T old)(hz:old.length≤sizeLine)(h:∀h',z4e h' T (old.set j x)->Heap.SameBut T s.heap h'->Q () { s with heap:=h' }) :
  wpAny (model prog w) A (updateSeq T (·.setIfInBounds j x)) Q E s:=by
 refine wpAny_updateSeq hT rfl (h _ ?_ (Heap.SameBut.update ..)) (by simpa using hz) (by simp;lia)
 show Heap.get? _ _=_;rw[Heap.get?_update_self _ hT rfl];simp[Obj.mapSeq]
abbrev zqp {β:Type}(prog:Program)(w:World)(A:Around)(f:Value×Nat->β->Sem (ForInStep β))(b0:β)(E:Value->Shared->Prop)(b:Nat)(src:List (Bool×Addr))(xss:Nat->Array Value)(k:Nat):Prop :=
 ∀(j:Nat) (p:Bool×Addr) (s:Shared) (old:List Value) (Qf:ForInStep β->Shared->Prop),src[j]?=some p->ItAt p.1 s.heap (b+j) p.2 k->SeqAt p.1 s.heap p.2 (xss j)->old.length=src.length->z4e s.heap (b+src.length+1) old->IsZip s.heap (b+src.length+2) (b+src.length) (b+src.length+1) .ellipsis ->
  (∀x h',(xss j)[k]?=some x->ItAt p.1 h' (b+j) p.2 (k+1)->z4e h' (b+src.length+1) (old.set j x)->(∀(c:Nat) o,c≠b+src.length+1->c≠b+j->s.heap.get? c=some o->h'.get? c=some o)->h'.objs.size=s.heap.objs.size->Qf (.yield b0) { s with heap:=h' }) ->
  ((xss j)[k]?=none->∀h' e,zlf b src.length s.heap h'->zh8 h' e->E (.ref e) { s with heap:=h' })->wpAny (model prog w) A (f (.ref (b+j),j) b0) Qf E s
theorem zgo {β:Type}{f:Value×Nat->β->Sem (ForInStep β)}{b0:β}{b:Nat}{src:List (Bool×Addr)}{xss:Nat->Array Value}{k:Nat}(cu:∀p∈src,p.2<b)(hb:zqp prog w A f b0 E b src xss k) :
  ∀(r j:Nat),j+r=src.length->∀(done rest:List Value) (s:Shared) (Q:β->Shared->Prop),done.length=j->rest.length=r->z4e s.heap (b+src.length+1) (done++rest)->IsZip s.heap (b+src.length+2) (b+src.length) (b+src.length+1) .ellipsis ->
   (∀(i:Nat) p,src[i]?=some p->ItAt p.1 s.heap (b+i) p.2 (if i<j then k+1 else k))->(∀(i:Nat) p,src[i]?=some p->SeqAt p.1 s.heap p.2 (xss i)) ->
   (∀h' aF,aF.length=r->(∀i:Nat,i<r->(xss (j+i))[k]?=aF[i]?)->z4e h' (b+src.length+1) (done++aF)->IsZip h' (b+src.length+2) (b+src.length) (b+src.length+1) .ellipsis->(∀(i:Nat) p,src[i]?=some p->ItAt p.1 h' (b+i) p.2 (k+1))->zlf b src.length s.heap h'->h'.objs.size=s.heap.objs.size->Q b0 { s with heap:=h' }) ->
   ((∃i:Nat,i<src.length/\(xss i)[k]?=none)->∀h' e,zlf b src.length s.heap h'->zh8 h' e->E (.ref e) { s with heap:=h' }) ->
   wpAny (model prog w) A (forIn ((y4x j r).map λi=>(Value.ref (b+i),i)) b0 f) Q E s
 | 0,j,hj,done,rest,s,Q,hd,hr,hT,hz,hi,hs,hQ,hE=>by
  show wpAny _ _ (forIn [] b0 f) _ _ _;rw[List.forIn_nil];have er:rest = []:=y1j.mp hr;subst er;refine wpAny_pure (hQ s.heap [] rfl (λi hi=>absurd hi (y43 _)) hT hz (λi p hp=>?_) (λc o _ e=>e) rfl);have:=(y00.mp hp).1
  have z:=hi i p hp;rw[if_pos (show i<j by lia)] at z
  exact z
 | r+1,j,hj,done,[],s,Q,hd,hr,hT,hz,hi,hs,hQ,hE=>by simp at hr
 | r+1,j,hj,done,o::rest,s,Q,hd,hr,hT,hz,hi,hs,hQ,hE=>by
  have hjl:j<src.length:=by lia
  have hp:src[j]?=some src[j]:=by simp[hjl]
  have hlp:src[j].2<b:=cu _ (y2i hjl);have h1:=hi j _ hp
  rw[if_neg (y2y _)] at h1;rw[List.range'_succ,y0l,y5y];refine wpAny_bind (hb j src[j] s (done++o::rest) _ hp h1 (hs j _ hp) (by simp only[y0e,y1a] at hr ⊢;lia) hT hz (λx h' hx i1 t1 kk sz=>?_) (λhx h' e kk st=>hE ⟨j,hjl,hx⟩ h' e kk st))
  have eset:(done++o::rest).set j x=(done ++ [x])++rest:=by
   subst hd;simp
  rw[eset] at t1;refine zgo cu hb r (j+1) (by lia) (done ++ [x]) rest { s with heap:=h' } Q (by simp[hd]) (by simpa using hr) t1 (kk _ _ (by lia) (by lia) hz) (λi p hip=>?_) (λi p hip=>?_) (λh2 aF vl vx t2 z2 i2 k2 s2=>?_) (λhex h2 e k2 st=>hE hex h2 e (λc o hc g=>k2 c o hc (kk c o (by unfold Kp at hc;lia) (by unfold Kp at hc;lia) g)) st)
  ·have hil:=(y00.mp hip).1
   by_cases e:i=j
   ·subst e;rw[if_pos (show i<i+1 by lia)]
    rw[hp] at hip;cases hip;exact i1
   ·have z:=(hi i p hip).at (h':=h') λo g=>kk _ _ (by lia) (by lia) g
    by_cases e2:i<j
    ·rw[if_pos e2] at z;rw[if_pos (show i<j+1 by lia)]
     exact z
    ·rw[if_neg e2] at z;rw[if_neg (show ¬i<j+1 by lia)]
     exact z
  ·have hil:=(y00.mp hip).1;have:=cu p (y02 hip)
   exact(hs i p hip).at λo g=>kk _ _ (y0p (y0r this (by lia))) (y0p (y0r this (by lia))) g
  ·refine hQ h2 (x::aF) (by simp[vl]) (λi hi'=>?_) (by simpa using t2) z2 i2 (λc o hc g=>k2 c o hc (kk c o (by unfold Kp at hc;lia) (by unfold Kp at hc;lia) g)) (by rw[s2];exact sz)
   cases i with
   | zero=>simpa using hx
   | succ i =>
    have:=vx i (by lia)
    rw[show j+(i+1)=j+1+i by lia]
    simpa using this
end
end L2.EX
set_option Elab.async false
set_option linter.all false
set_option maxRecDepth 100000
namespace L2.EX
open PySem PySem.Spec PyProof.Rows
theorem zf8 (b m:Nat):(zg8 b m).toArray.toList.zipIdx=(y4x 0 m).map λi=>(Value.ref (b+i),i):=by
 apply y2f;intro i;simp only[zg8,List.getElem?_zipIdx,y06,Option.map_map]
 by_cases h:i<m
 ·simp[h]
 ·simp[h]
section
variable {prog:Program}{w:World}{A:Around}{E:Value->Shared->Prop}{s:Shared}
theorem zjw {b:Nat}{src:List (Bool×Addr)}{xss:Nat->Array Value}{k:Nat}{Q:Value->Shared->Prop}(hh:A.handled=none)(hne:src.length≠0)(hm:src.length≤100)(cu:∀p∈src,p.2<b)(st:ZSt b src k .none s.heap)
  (hs:∀(i:Nat) p,src[i]?=some p->SeqAt p.1 s.heap p.2 (xss i))
  (hQ:∀h' aF,aF.length=src.length->(∀i:Nat,i<src.length->(xss i)[k]?=aF[i]?)->ZSt b src (k+1) (rawInt s.heap.objs.size) h'->z4e h' s.heap.objs.size aF->h'.objs.size=s.heap.objs.size+1->zlf b src.length s.heap h'->Q (.ref s.heap.objs.size) { s with heap:=h' })
  (hE:(∃i:Nat,i<src.length/\(xss i)[k]?=none)->∀h' e,zlf b src.length s.heap h'->zh8 h' e->E (.ref e) { s with heap:=h' }) :
  wpAny (model prog w) A (Builtin.«zip.__next__» ⟨[.ref (b+src.length+2)],[]⟩) (λfin s'=>∃v,fin = .done (.ret v)/\Q v s') E s:=by
 obtain⟨hz,hTI,⟨old,hol,hTO⟩,hit⟩:=st;refine wpAny_bind (m:=field (.ref (b+src.length+2)) 2) (wpAny_field hz rfl (x:=.bool false) rfl ?_);refine wpAny_bind (m:=field (.ref (b+src.length+2)) 3) (wpAny_field hz rfl (x:=.ref (b+src.length)) rfl ?_);refine wpAny_bind (wpAny_seqItems hTI rfl ?_);show wpAny _ _ (if (zg8 b src.length).toArray.isEmpty=true then _ else _) _ _ _
 rw[if_neg (by simp only[List.isEmpty_toArray,List.isEmpty_iff,zg8,List.map_eq_nil_iff,List.range'_eq_nil_iff];exact hne)]
 refine wpAny_bind (m:=Builtin.SmallTypes.ownedTupleIsFree (.ref (b+src.length+2))) ?_;unfold Builtin.SmallTypes.ownedTupleIsFree;refine wpAny_bind (wpAny_field hz rfl (x:=.none) rfl (wpAny_pure ?_));simp only[if_true];refine wpAny_bind (wpAny_rule ?_);refine wpAny_bind (wpAny_field hz rfl (x:=.ref (b+src.length+1)) rfl ?_);refine wpAny_bind (wpAny_setField_rec hz (by simp) λh1 hz1 hs1=>?_)
 replace hz1:IsZip h1 (b+src.length+2) (b+src.length) (b+src.length+1) .ellipsis:=hz1;refine wpAny_bind ?_;rw[zf8];have k1:∀(c:Nat) o,c≠b+src.length+2->s.heap.get? c=some o->h1.get? c=some o:=λc o hc e=>hs1.extBut _ _ hc e;have kp1:zlf b src.length s.heap h1:=λc o hc e=>k1 c o (by unfold Kp at hc;lia) e
 refine zgo (b:=b) (src:=src) (xss:=xss) (k:=k) cu ?_ src.length 0 (by lia) [] old { s with heap:=h1 } _ rfl hol (k1 _ _ (by lia) hTO) hz1 (λi p hip=>?_) (λi p hip=>?_) (λh2 aF vl vx t2 z2 i2 k2 s2=>?_) (λhex h2 e k2 stp=>hE hex h2 e (λc o hc g=>k2 c o hc (kp1 c o hc g)) stp)
 ·intro j p s old Qf hp hi hq hl hT hzz hi' he';have hjl:=(y00.mp hp).1;refine wpAny_bind (wpAny_onRaise ?_);refine wpAny_bind (m:=Builtin.SmallTypes.nextOf (.ref (b+j))) ?_;cases hx:(xss j)[k]? with
  | none =>
   refine zfo hh hi hq hx λh2 e k2 stp=>?_;obtain⟨oe,hoe,hce⟩:=stp;have hz2:IsZip h2 (b+src.length+2) (b+src.length) (b+src.length+1) .ellipsis:=k2 _ _ (show b+src.length+2≠b+j by lia) hzz
   have hez:e≠b+src.length+2:=λx=>by subst x;rw[hz2] at hoe;cases hoe;simp at hce
   exact wpAny_setField_rec hz2 (by simp) λh3 _ s3=>he' hx h3 e (λc o hc g=>s3.extBut _ _ (show c≠b+src.length+2 by unfold Kp at hc;lia) (k2 _ _ (show c≠b+j by unfold Kp at hc;lia) g)) ⟨oe,s3.extBut _ _ hez hoe,hce⟩
  | some x =>
   refine zcg hi hq hx λh2 i2 s2=>wpAny_pure ?_;have hT2:z4e h2 (b+src.length+1) old:=s2.extBut _ _ (show b+src.length+1≠b+j by lia) hT
   refine wpAny_bind (wpAny_seqItems hT2 rfl ?_);refine wpAny_bind (zrx (s:={ s with heap:=h2 }) hT2 (y17 (by lia) (show 100≤sizeLine by decide)) λh3 hT3 s3=>?_)
   refine wpAny_bind (wpAny_letGo (wpAny_pure ?_));refine hi' x h3 hx (i2.at λo g=>s3.extBut _ _ (show b+j≠b+src.length+1 by lia) g) hT3 (λc o c1 c2 g=>s3.extBut _ _ c1 (s2.extBut _ _ c2 g)) (by rw[s3.1,s2.1])
 ·rw[if_neg (y43 i)];have hil:=(y00.mp hip).1;exact(hit i p hip).at λo g=>k1 _ _ (by lia) g
 ·have:=cu p (y02 hip);exact(hs i p hip).at λo g=>k1 _ _ (y0p (y0r this (by lia))) g
 ·have t2':z4e h2 (b+src.length+1) aF:=t2;refine wpAny_bind (wpAny_seqItems t2' rfl ?_);refine wpAny_bind (wpAny_newTuple ?_ (y17 (show aF.toArray.toList.length≤100 by rw[List.toList_toArray];lia) (show 100≤sizeLine by decide)))
  have hsz:h2.objs.size=s.heap.objs.size:=by rw[s2];exact hs1.1
  refine wpAny_bind (m:=Builtin.SmallTypes.ownedTupleHandOut (.ref (b+src.length+2)) (.ref h2.objs.size)) ?_;unfold Builtin.SmallTypes.ownedTupleHandOut;have z3:IsZip (h2.push { cls:=.type "tuple",data:=.seq aF.toArray.toList.toArray }) (b+src.length+2) (b+src.length) (b+src.length+1) .ellipsis:=Heap.get?_push_of_some _ z2;have lt:b+src.length+2<h2.objs.size:=Heap.lt_size z2
  refine wpAny_bind (wpAny_setField_rec z3 (by simp) λh4 z4 s4=>?_)
  replace z4:IsZip h4 (b+src.length+2) (b+src.length) (b+src.length+1) (rawInt h2.objs.size):=z4;refine wpAny_setField_rec z4 (by simp) λh5 z5 s5=>?_
  replace z5:IsZip h5 (b+src.length+2) (b+src.length) (b+src.length+1) (rawInt h2.objs.size):=z5;have up:∀(c:Nat) o,c≠b+src.length+2->h2.get? c=some o->h5.get? c=some o:=λc o c1 g=>s5.extBut _ _ c1 (s4.extBut _ _ c1 (Heap.get?_push_of_some _ g));have tN:z4e h5 h2.objs.size aF:=s5.extBut _ _ (show h2.objs.size≠b+src.length+2 by lia) (s4.extBut _ _ (show h2.objs.size≠b+src.length+2 by lia) (Heap.get?_push_size _ rfl))
  have sz5:h5.objs.size=h2.objs.size+1:=by rw[s5.1,s4.1,Heap.size_push]
  rw[hsz] at z5 tN sz5;refine wpAny_pure ⟨_,rfl,?_⟩;show Q (.ref h2.objs.size) _;rw[hsz];refine hQ h5 aF vl (λi hi=>by have:=vx i hi;rwa [Nat.zero_add] at this) ⟨z5,up _ _ (by lia) (k2 _ _ (.inr (.inl rfl)) (k1 _ _ (by lia) hTI)),⟨aF,vl,up _ _ (by lia) t2'⟩,λj p hp=>(i2 j p hp).at λo g=>up _ _ ?_ g⟩ tN sz5 (λc o hc g=>up c o (by unfold Kp at hc;lia) (k2 c o hc (kp1 c o hc g)))
  have hil:=(y00.mp hp).1;lia
theorem z9d {b:Nat}{src:List (Bool×Addr)}{xss:Nat->Array Value}{k:Nat}{Q:Option Value->Shared->Prop}(hh:A.handled=none)(hne:src.length≠0)(hm:src.length≤100)(cu:∀p∈src,p.2<b)(st:ZSt b src k .none s.heap)
  (hs:∀(i:Nat) p,src[i]?=some p->SeqAt p.1 s.heap p.2 (xss i))
  (hQ:∀h' aF,aF.length=src.length->(∀i:Nat,i<src.length->(xss i)[k]?=aF[i]?)->ZSt b src (k+1) (rawInt s.heap.objs.size) h'->z4e h' s.heap.objs.size aF->h'.objs.size=s.heap.objs.size+1->zlf b src.length s.heap h'->Q (some (.ref s.heap.objs.size)) { s with heap:=h' })
  (hE:(∃i:Nat,i<src.length/\(xss i)[k]?=none)->∀h',zlf b src.length s.heap h'->Q none { s with heap:=h' }) :
  wpAny (model prog w) A (pyNext (.ref (b+src.length+2))) Q E s:=by
 have hT:s.TypeIs (.ref (b+src.length+2)) "zip":=⟨_,st.zip,rfl⟩;unfold pyNext;refine wpAny_bind (wpAny_attempt (wpAny_callSpecial?_slot (name:=Str.ofString "__next__") hT F.slot_zip_next
  (wpAny_call_entry F.slot_zip_next hT F.entry_zip_next (zjw hh hne hm cu st hs (λh' aF a1 a2 a3 a4 a5 a6=>wpAny_pure (hQ h' aF a1 a2 a3 a4 a5 a6)) λhex h' e kk stp=>?_) (F.args_zip_next_1 _))))
 obtain⟨o,ho,hc⟩:=stp;exact wpAny_bind (wpAny_isInstance (T:="StopIteration") (b:=true) ⟨o,ho,hc⟩ isSubtype_stop (wpAny_pure (hE hex h' kk)))
end
end L2.EX
set_option Elab.async false
set_option linter.all false
set_option maxRecDepth 100000
namespace L2.EX
open PySem PySem.Spec PyProof.Rows
abbrev z1v (t:Bool)(a:Addr):Obj:={ cls:=.type (if t then "tuple_iterator" else "list_iterator"),data:=.fields #[.ref a,.int 0 0] }
abbrev z9f (I O:Addr):Obj:={ cls:=.type "zip",data:=.fields #[.none,.bool false,.bool false,.ref I,.ref O] }
abbrev z2k (vs:List Value):Obj:={ cls:=.type "tuple",data:=.seq vs.toArray }
section
variable {prog:Program}{w:World}{A:Around}{E:Value->Shared->Prop}{s:Shared}
theorem z4a {t:Bool}{a:Addr}{xs:Array Value}{Q:Value->Shared->Prop}(h:SeqAt t s.heap a xs)(hQ:Q (.ref s.heap.objs.size) { s with heap:=s.heap.push (z1v t a) }):wpAny (model prog w) A (pyIter (.ref a)) Q E s:=by
 cases t
 ·exact wpAny_pyIter_list h hQ
 ·exact wpAny_pyIter_tuple h hQ
end
theorem SeqAt.push {t:Bool}{h:Heap}{a:Addr}{xs:Array Value}(x:SeqAt t h a xs)(o:Obj):SeqAt t (h.push o) a xs:=x.at λ_ g=>Heap.get?_push_of_some _ g
abbrev z2H (h:Heap)(p q:Bool×Addr):Heap:=(((((h.push (z1v p.1 p.2)).push (z1v q.1 q.2)).push (z2k [.ref h.objs.size,.ref (h.push (z1v p.1 p.2)).objs.size])).push (z2k [.none,.none])).push (z9f ((h.push (z1v p.1 p.2)).push (z1v q.1 q.2)).objs.size (((h.push (z1v p.1 p.2)).push (z1v q.1 q.2)).push (z2k [.ref h.objs.size,.ref (h.push (z1v p.1 p.2)).objs.size])).objs.size))
abbrev z2A (h:Heap)(p q:Bool×Addr):Addr:=((((h.push (z1v p.1 p.2)).push (z1v q.1 q.2)).push (z2k [.ref h.objs.size,.ref (h.push (z1v p.1 p.2)).objs.size])).push (z2k [.none,.none])).objs.size
theorem zka (p q:Bool×Addr)(xs ys:Array Value) :
  Meets (Builtin.«zip.__new__» ⟨[.type "zip",.ref p.2,.ref q.2],[]⟩) (λ_ R s=>SeqAt p.1 s.heap p.2 xs/\SeqAt q.1 s.heap q.2 ys/\R (.ok (.ret (.ref (z2A s.heap p q)))) { s with heap:=z2H s.heap p q }) :=
 .of_wp λprog w A R s h=>by
  obtain⟨hp,g,d,tk,os⟩:=s;obtain⟨h1,h2,h⟩:=h;have hsub:=sub_zip;have hL1:SeqAt p.1 (Shared.heap ⟨hp,g,d,tk,os⟩) p.2 xs:=h1
  have hL2:SeqAt q.1 (Shared.heap ⟨hp.push (z1v p.1 p.2),g,d,tk,os⟩) q.2 ys:=SeqAt.push h2 _
  wp_walk using z4a hL1,z4a hL2
  exact⟨_,rfl,h⟩
abbrev z3B (h:Heap)(p q r:Bool×Addr):Heap:=((h.push (z1v p.1 p.2)).push (z1v q.1 q.2)).push (z1v r.1 r.2)
abbrev z3C (h:Heap)(p q r:Bool×Addr):Heap:=(z3B h p q r).push (z2k [.ref h.objs.size,.ref (h.push (z1v p.1 p.2)).objs.size,.ref ((h.push (z1v p.1 p.2)).push (z1v q.1 q.2)).objs.size])
abbrev z3D (h:Heap)(p q r:Bool×Addr):Heap:=(z3C h p q r).push (z2k [.none,.none,.none])
abbrev z3H (h:Heap)(p q r:Bool×Addr):Heap:=(z3D h p q r).push (z9f (z3B h p q r).objs.size (z3C h p q r).objs.size)
set_option maxHeartbeats 2000000 in
theorem zjt (p q r:Bool×Addr)(xs ys zs:Array Value) :
  Meets (Builtin.«zip.__new__» ⟨[.type "zip",.ref p.2,.ref q.2,.ref r.2],[]⟩) (λ_ R s=>SeqAt p.1 s.heap p.2 xs/\SeqAt q.1 s.heap q.2 ys/\SeqAt r.1 s.heap r.2 zs/\R (.ok (.ret (.ref (z3D s.heap p q r).objs.size))) { s with heap:=z3H s.heap p q r }) :=
 .of_wp λprog w A R s h=>by
  obtain⟨hp,g,d,tk,os⟩:=s;obtain⟨h1,h2,h3,h⟩:=h;have hsub:=sub_zip;have hL1:SeqAt p.1 (Shared.heap ⟨hp,g,d,tk,os⟩) p.2 xs:=h1
  have hL2:SeqAt q.1 (Shared.heap ⟨hp.push (z1v p.1 p.2),g,d,tk,os⟩) q.2 ys:=SeqAt.push h2 _;have hL3:SeqAt r.1 (Shared.heap ⟨(hp.push (z1v p.1 p.2)).push (z1v q.1 q.2),g,d,tk,os⟩) r.2 zs:=SeqAt.push (SeqAt.push h3 _) _
  wp_walk using z4a hL1,z4a hL2,z4a hL3
  exact⟨_,rfl,h⟩
theorem z92 (a b c:Value):checkTypeCall "zip" ⟨[a,b,c],[]⟩=pure ():=by kernel_rfl
theorem zam (a b c:Value):checkBuiltinCall "zip.__new__" ⟨[.type "zip",a,b,c],[]⟩=pure ():=by kernel_rfl
theorem z6i (a b c d:Value):argsOk "object.__init__" ⟨[a,b,c,d],[]⟩:=by
 unfold argsOk;rw[signature?_of (id:="object.__init__") (n:=['_','_','t','i','n','i','_','_']) (o:=['t','c','e','j','b','o']) (by kernel_rfl) F.owner_object]
 kernel_rfl
end L2.EX
set_option Elab.async false
set_option linter.all false
set_option maxRecDepth 100000
namespace L2.EX
open PySem PySem.Spec PyProof.Rows
def SqS (K:y03)(t:Bool)(H:Hp)(a:Addr)(xs:List V):Prop:=if t then SqT K H a xs else SqL K H a xs
abbrev zqq (K:y03)(src:List (Bool×Addr))(i:Nat)(H:Hp):Prop:=∀(j:Nat) p,src[j]?=some p->∃xs x,SqS K p.1 H p.2 xs/\xs[i]?=some x
abbrev zs4 (K:y03)(src:List (Bool×Addr))(i:Nat)(H:Hp)(v:V)(H':Hp):Prop:=∃T xs,H T=none/\v = .ref T/\H'=upd H T (.tup xs)/\xs.length=src.length/\∀(j:Nat) p,src[j]?=some p->∀ys,SqS K p.1 H p.2 ys->ys[i]?=xs[j]?
abbrev zoh (K:y03)(src:List (Bool×Addr))(i:Nat)(H:Hp):Prop:=(∀(j:Nat) p,src[j]?=some p->∃xs,SqS K p.1 H p.2 xs)/\∃(j:Nat) (p:Bool×Addr) (xs:List V),src[j]?=some p/\SqS K p.1 H p.2 xs/\xs.length≤i
def Itz (K:y03)(src:List (Bool×Addr)):It:=⟨zqq K src,zs4 K src,zoh K src⟩
section
variable {X:Cx}{ao:List (Addr×Obj)}{σ:St}{H:Hp}{s:Shared}
theorem Inv.sqs {t:Bool}{a:Addr}{xs:List V}(I:Inv X ao σ H s)(h:SqS X.K t H a xs):∃its:Array Value,Vals xs its.toList/\SeqAt t s.heap a its:=by
 cases t
 ·obtain⟨its,rv,p,_⟩:=I.list h;exact⟨its.toArray,rv,p.isList⟩
 ·obtain⟨its,rv,p,_⟩:=I.tuple h;exact⟨its.toArray,rv,show s.heap.IsTuple a its.toArray from p⟩
theorem Inv.sqs_inj {t:Bool}{a:Addr}{xs ys:List V}(I:Inv X ao σ H s)(h:SqS X.K t H a xs)(h':SqS X.K t H a ys):xs=ys:=by
 cases t
 ·exact I.list_inj h h'
 ·exact I.tuple_inj h h'
end
theorem zd9:∀{xs:List V} {us:List Value},xs.length=us.length->(∀(j:Nat) x u,xs[j]?=some x->us[j]?=some u->RelV x u)->Vals xs us
 | [],[],_,_=>.nil
 | [],_::_,h,_=>by simp at h
 | _::_,[],h,_=>by simp at h
 | x::xs,u::us,h,r=>.cons (r 0 x u rfl rfl) (zd9 (by simpa using h) λj y v h1 h2=>r (j+1) y v (by simpa using h1) (by simpa using h2))
theorem zjq {t:Bool}{h:Heap}{i a:Addr}{k:Nat}(x:ItAt t h i a k):∃o,h.get? i=some o/\∀v,o.data ≠ .cell v:=by
 cases t
 ·obtain⟨o,e,c,d⟩:=x;exact⟨o,e,λv z=>by rw[d] at z;cases z⟩
 ·obtain⟨o,e,c,d⟩:=x;exact⟨o,e,λv z=>by rw[d] at z;cases z⟩
theorem ZSt.obj {b:Nat}{src:List (Bool×Addr)}{k:Nat}{f0:Value}{h:Heap}(st:ZSt b src k f0 h)(c:Nat)(h1:b≤c)(h2:c<b+src.length+3):∃o,h.get? c=some o/\∀v,o.data ≠ .cell v:=by
 by_cases e:c<b+src.length
 ·have hj:c - b<src.length:=by lia
  have:=zjq (st.it (c - b) src[c - b] (by simp[hj]))
  rwa [show b+(c - b)=c by lia] at this
 ·rcases (by lia:c=b+src.length∨c=b+src.length+1∨c=b+src.length+2) with rfl | rfl | rfl
  ·exact⟨_,st.its,λv z=>by cases z⟩
  ·obtain⟨old,_,ho⟩:=st.own;exact⟨_,ho,λv z=>by cases z⟩
  ·exact⟨_,st.zip,λv z=>by cases z⟩
theorem ZSt.keep {b:Nat}{src:List (Bool×Addr)}{k:Nat}{f0:Value}{h h':Heap}(st:ZSt b src k f0 h)(kk:∀(c:Nat),b≤c->c<b+src.length+3->∀o,h.get? c=some o->h'.get? c=some o):ZSt b src k f0 h':=by
 obtain⟨old,ol,ho⟩:=st.own;refine⟨kk _ (by lia) (by lia) _ st.zip,kk _ (by lia) (by lia) _ st.its,⟨old,ol,kk _ (by lia) (by lia) _ ho⟩,λj p hp=>(st.it j p hp).at λo g=>kk _ (by lia) ?_ _ g⟩
 have:=(y00.mp hp).1;lia
theorem fp_mem {b m c:Nat}:c∈y4x b (m+3)↔b≤c/\c<b+m+3:=by
 rw[List.mem_range'_1];lia
theorem zdw {P:Program}{w:World}{K:y03}{elts:List Expr}{kt:Nat}{tp:Pos}(b:Nat)(src:List (Bool×Addr))(hne:src.length≠0)(hm:src.length≤100)(cu:∀p∈src,p.2<b) :
  Turn P w K (.Tuple elts kt tp) (Itz K src) (y4x b (src.length+3)) (b+src.length+2) (λk h=>ZSt b src k .none h) where
 mem:=fp_mem.mpr ⟨by lia,by lia⟩
 obj:=λk h st c hc=>st.obj c (fp_mem.mp hc).1 (fp_mem.mp hc).2
 keep:=λk h h' st kk=>st.keep λc h1 h2 o g=>kk c (fp_mem.mpr ⟨h1,h2⟩) o g
 item:=by
  intro X hP hw hK hc i ao s σ H E I hf st hg;subst hP hw hK;have ch:∀j:Nat,∃t:Array Value×V,∀p,src[j]?=some p->∃zs,SqS X.K p.1 H p.2 zs/\Vals zs t.1.toList/\SeqAt p.1 s.heap p.2 t.1/\zs[i]?=some t.2:=λj=>by
   cases hp:src[j]? with
   | none=>exact⟨(#[],.int 0),λp z=>by cases z⟩
   | some p =>
    obtain⟨xs,x,hq,hx⟩:=hg j p hp;obtain⟨its,rv,sq⟩:=Inv.sqs I hq;exact⟨(its,x),λp' z=>by cases z;exact⟨xs,hq,rv,sq,hx⟩⟩
  obtain⟨T,hT⟩:=Classical.axiomOfChoice ch;refine z9d (I.ok.hd hc) hne hm cu st (xss:=λj=>(T j).1) (λj p hp=>(hT j p hp).choose_spec.2.2.1) (λh' aF vl vx z1 t1 sz kk=>⟨_,rfl,?_⟩) (λhex=>?_)
  ·refine wpAny_letOwnedTupleGo_zip z1.zip λh2 hz2 hs2=>?_;have hlt:b+src.length+2<s.heap.objs.size:=Heap.lt_size st.zip;have up:∀(c:Nat) o,c≠b+src.length+2->h'.get? c=some o->h2.get? c=some o:=λc o hc g=>hs2.extBut _ _ hc g
   have k2:∀(c:Addr) o,c ∉ y4x b (src.length+3)->s.heap.get? c=some o->h2.get? c=some o:=λc o hc g=>by
    have hc':¬(b≤c/\c<b+src.length+3):=λz=>hc (fp_mem.mpr z);have c1:Kp b src.length c:=by
     unfold Kp;rcases y3x c b with z | z
     ·exact .inl z
     ·exact .inr (.inr (y78 λz2=>hc' ⟨z,y6v z2⟩))
    refine up c o (λz=>?_) (kk c o c1 g);subst z;exact hc' ⟨y17 (y4k _ _) (y4k _ _),y2x _⟩
   let xs:List V:=(y0f src.length).map λj=>(T j).2
   have xl:xs.length=src.length:=by simp[xs]
   have xg:∀j:Nat,j<src.length->xs[j]?=some (T j).2:=λj hj=>by simp[xs,hj]
   have rv:Vals xs aF:=zd9 (by rw[xl,vl]) λj x u h1 h2=>by
    have hj:j<src.length:=by rw[←xl];exact(y00.mp h1).1
    obtain⟨zs,q1,q2,q3,q4⟩:=hT j src[j] (by simp[hj])
    obtain⟨u',g1,g2⟩:=q2.get q4;rw[xg j hj] at h1;cases h1;have e:=vx j hj;rw[h2,←y37,g1] at e;cases e;exact g2
   have I2:=z9s (t':=s.toks) (h':=h2) I k2 (λc hc=>hf c hc) (y0b _) (xs:=xs) (us:=aF) rv (y17 (by rw[xl];exact hm) (show 100≤sizeLine by decide)) ⟨_,up _ _ (y36 hlt) t1,rfl,_,rfl⟩
   refine⟨.ref s.heap.objs.size,_,I2,rfl,⟨s.heap.objs.size,xs,I.hok.fresh (y0b _),rfl,rfl,xl,λj p hp ys hy=>?_⟩,?_,λc hc=>?_⟩
   ·obtain⟨zs,q1,q2,q3,q4⟩:=hT j p hp;rw[Inv.sqs_inj I hy q1,q4,xg j (y00.mp hp).1]
   ·obtain⟨old,ol,ho⟩:=z1.own;refine⟨hz2,up _ _ (by lia) z1.its,⟨old,ol,up _ _ (by lia) ho⟩,λj p hp=>(z1.it j p hp).at λo g=>up _ _ ?_ g⟩
    have:=(y00.mp hp).1;lia
   ·rw[z0a (y0p (y0r (fp_mem.mp hc).2 (by lia)))]
    exact(hf c hc).1
  ·exfalso;obtain⟨j,hj,e⟩:=hex;obtain⟨zs,q1,q2,q3,q4⟩:=hT j src[j] (by simp[hj])
   obtain⟨u',g1,g2⟩:=q2.get q4;rw[←y37,g1] at e;cases e
 done:=by
  intro X hP hw hK hc i ao s σ H E I hf st hg;subst hP hw hK;obtain⟨hall,j0,p0,xs0,hp0,hq0,hl0⟩:=hg;have ch:∀j:Nat,∃t:Array Value,∀p,src[j]?=some p->∃zs,SqS X.K p.1 H p.2 zs/\Vals zs t.toList/\SeqAt p.1 s.heap p.2 t:=λj=>by
   cases hp:src[j]? with
   | none=>exact⟨#[],λp z=>by cases z⟩
   | some p =>
    obtain⟨xs,hq⟩:=hall j p hp;obtain⟨its,rv,sq⟩:=Inv.sqs I hq;exact⟨its,λp' z=>by cases z;exact⟨xs,hq,rv,sq⟩⟩
  obtain⟨T,hT⟩:=Classical.axiomOfChoice ch;refine z9d (I.ok.hd hc) hne hm cu st (xss:=T) (λj p hp=>(hT j p hp).choose_spec.2.2) (λh' aF vl vx z1 t1 sz kk=>?_) (λhex h' kk=>⟨rfl,z5v (t':=s.toks) I (λc o hc g=>kk c o ?_ g) λc hc=>hf c hc⟩)
  ·exfalso;have hj:=(y00.mp hp0).1;obtain⟨zs,q1,q2,q3⟩:=hT j0 p0 hp0;have e:=vx j0 hj
   have el:=q2.length;rw[Inv.sqs_inj I q1 hq0] at el;rw[show(T j0)[i]?=none from y5t (by simpa using (show(T j0).toList.length≤i by lia))] at e
   have:j0<aF.length:=by lia
   simp[this] at e
  ·have hc':¬(b≤c/\c<b+src.length+3):=λz=>hc (fp_mem.mpr z);unfold Kp;rcases y3x c b with z | z
   ·exact .inl z
   ·exact .inr (.inr (y78 λz2=>hc' ⟨z,y6v z2⟩))
 self:=λ_ _ _ _ _ st h=>wpAny_pyIter_zip st.zip h
end L2.EX
set_option Elab.async false
set_option linter.all false
set_option maxRecDepth 100000
namespace L2.EX
open PySem PySem.Spec PyProof.Rows
theorem z6k {t:Bool}{h:Heap}{i a:Addr}(g:h.get? i=some (z1v t a)):ItAt t h i a 0:=by
 cases t
 ·exact⟨_,g,rfl,rfl⟩
 ·exact⟨_,g,rfl,rfl⟩
section
variable {prog:Program}{w:World}{A:Around}{E:Value->Shared->Prop}{s:Shared}
theorem zfy {p q:Bool×Addr}{xs ys:Array Value}{Q:Value->Shared->Prop}(h1:SeqAt p.1 s.heap p.2 xs)(h2:SeqAt q.1 s.heap q.2 ys)
  (h:∀h',ZSt s.heap.objs.size [p,q] 0 .none h'->(∀c o,s.heap.get? c=some o->h'.get? c=some o)->Q (.ref (s.heap.objs.size+4)) { s with heap:=h' }):wpAny (model prog w) A (call (.type "zip") [.ref p.2,.ref q.2]) Q E s:=by
 refine callType_new F.called_zip (by decide) (F.typeCall_zip_2 _ _) (F.newCall_zip_2 _ _) (λobj=>F.args_object_init_3 obj _ _) F.entry_zip_new (zka p q xs ys) ⟨h1,h2,?_⟩
 have e1:(s.heap.push (z1v p.1 p.2)).objs.size=s.heap.objs.size+1:=Heap.size_push ..;have e2:((s.heap.push (z1v p.1 p.2)).push (z1v q.1 q.2)).objs.size=s.heap.objs.size+2:=by rw[Heap.size_push,e1]
 generalize hA':s.heap.push (z1v p.1 p.2)=hA at e1 e2 ⊢
 have gA:hA.get? s.heap.objs.size=some (z1v p.1 p.2):=by rw[←hA'];exact Heap.get?_push_size _ rfl
 have kA:∀c o,s.heap.get? c=some o->hA.get? c=some o:=λc o g=>by rw[←hA'];exact Heap.get?_push_of_some _ g
 generalize hB':hA.push (z1v q.1 q.2)=hB at e2 ⊢
 have gB:hB.get? hA.objs.size=some (z1v q.1 q.2):=by rw[←hB'];exact Heap.get?_push_size _ rfl
 have kB:∀c o,hA.get? c=some o->hB.get? c=some o:=λc o g=>by rw[←hB'];exact Heap.get?_push_of_some _ g
 have e3:(hB.push (z2k [.ref s.heap.objs.size,.ref hA.objs.size])).objs.size=s.heap.objs.size+3:=by rw[Heap.size_push,e2]
 generalize hC':hB.push (z2k [.ref s.heap.objs.size,.ref hA.objs.size])=hC at e3 ⊢
 have gC:hC.get? hB.objs.size=some (z2k [.ref s.heap.objs.size,.ref hA.objs.size]):=by rw[←hC'];exact Heap.get?_push_size _ rfl
 have kC:∀c o,hB.get? c=some o->hC.get? c=some o:=λc o g=>by rw[←hC'];exact Heap.get?_push_of_some _ g
 have e4:(hC.push (z2k [.none,.none])).objs.size=s.heap.objs.size+4:=by rw[Heap.size_push,e3]
 generalize hD':hC.push (z2k [.none,.none])=hD at e4 ⊢
 have gD:hD.get? hC.objs.size=some (z2k [.none,.none]):=by rw[←hD'];exact Heap.get?_push_size _ rfl
 have kD:∀c o,hC.get? c=some o->hD.get? c=some o:=λc o g=>by rw[←hD'];exact Heap.get?_push_of_some _ g
 generalize hE':hD.push (z9f hB.objs.size hC.objs.size)=hE;have gE:hE.get? hD.objs.size=some (z9f hB.objs.size hC.objs.size):=by rw[←hE'];exact Heap.get?_push_size _ rfl
 have kE:∀c o,hD.get? c=some o->hE.get? c=some o:=λc o g=>by rw[←hE'];exact Heap.get?_push_of_some _ g
 have eH:z2H s.heap p q=hE:=by subst hE' hD' hC' hB' hA';rfl
 have eA:z2A s.heap p q=hD.objs.size:=by subst hD' hC' hB' hA';rfl
 rw[e1] at gB gC;rw[e2] at gC gE;rw[e3] at gD gE;rw[e4] at gE;show _/\_;rw[eH,eA,e4];refine⟨⟨_,gE,rfl⟩,h hE ⟨gE,kE _ _ (kD _ _ gC),⟨[.none,.none],rfl,kE _ _ gD⟩,λj r hr=>?_⟩ λc o g=>kE _ _ (kD _ _ (kC _ _ (kB _ _ (kA _ _ g))))⟩
 match j,hr with
 | 0,hr=>cases hr;exact z6k (kE _ _ (kD _ _ (kC _ _ (kB _ _ gA))))
 | 1,hr=>cases hr;exact z6k (kE _ _ (kD _ _ (kC _ _ gB)))
 | n+2,hr=>cases hr
theorem zgf {p q r:Bool×Addr}{xs ys zs:Array Value}{Q:Value->Shared->Prop}(h1:SeqAt p.1 s.heap p.2 xs)(h2:SeqAt q.1 s.heap q.2 ys)(h3:SeqAt r.1 s.heap r.2 zs)
  (h:∀h',ZSt s.heap.objs.size [p,q,r] 0 .none h'->(∀c o,s.heap.get? c=some o->h'.get? c=some o)->Q (.ref (s.heap.objs.size+5)) { s with heap:=h' }):wpAny (model prog w) A (call (.type "zip") [.ref p.2,.ref q.2,.ref r.2]) Q E s:=by
 refine callType_new F.called_zip (by decide) (z92 _ _ _) (zam _ _ _) (λobj=>z6i obj _ _ _) F.entry_zip_new (zjt p q r xs ys zs) ⟨h1,h2,h3,?_⟩
 have e1:(s.heap.push (z1v p.1 p.2)).objs.size=s.heap.objs.size+1:=Heap.size_push ..;generalize hA':s.heap.push (z1v p.1 p.2)=hA at e1 ⊢
 have gA:hA.get? s.heap.objs.size=some (z1v p.1 p.2):=by rw[←hA'];exact Heap.get?_push_size _ rfl
 have kA:∀c o,s.heap.get? c=some o->hA.get? c=some o:=λc o g=>by rw[←hA'];exact Heap.get?_push_of_some _ g
 have e2:(hA.push (z1v q.1 q.2)).objs.size=s.heap.objs.size+2:=by rw[Heap.size_push,e1]
 generalize hB':hA.push (z1v q.1 q.2)=hB at e2 ⊢
 have gB:hB.get? hA.objs.size=some (z1v q.1 q.2):=by rw[←hB'];exact Heap.get?_push_size _ rfl
 have kB:∀c o,hA.get? c=some o->hB.get? c=some o:=λc o g=>by rw[←hB'];exact Heap.get?_push_of_some _ g
 have e3:(hB.push (z1v r.1 r.2)).objs.size=s.heap.objs.size+3:=by rw[Heap.size_push,e2]
 generalize hC':hB.push (z1v r.1 r.2)=hC at e3 ⊢
 have gC:hC.get? hB.objs.size=some (z1v r.1 r.2):=by rw[←hC'];exact Heap.get?_push_size _ rfl
 have kC:∀c o,hB.get? c=some o->hC.get? c=some o:=λc o g=>by rw[←hC'];exact Heap.get?_push_of_some _ g
 have e4:(hC.push (z2k [.ref s.heap.objs.size,.ref hA.objs.size,.ref hB.objs.size])).objs.size=s.heap.objs.size+4:=by rw[Heap.size_push,e3]
 generalize hD':hC.push (z2k [.ref s.heap.objs.size,.ref hA.objs.size,.ref hB.objs.size])=hD at e4 ⊢
 have gD:hD.get? hC.objs.size=some (z2k [.ref s.heap.objs.size,.ref hA.objs.size,.ref hB.objs.size]):=by rw[←hD'];exact Heap.get?_push_size _ rfl
 have kD:∀c o,hC.get? c=some o->hD.get? c=some o:=λc o g=>by rw[←hD'];exact Heap.get?_push_of_some _ g
 have e5:(hD.push (z2k [.none,.none,.none])).objs.size=s.heap.objs.size+5:=by rw[Heap.size_push,e4]
 generalize hE':hD.push (z2k [.none,.none,.none])=hE at e5 ⊢
 have gE:hE.get? hD.objs.size=some (z2k [.none,.none,.none]):=by rw[←hE'];exact Heap.get?_push_size _ rfl
 have kE:∀c o,hD.get? c=some o->hE.get? c=some o:=λc o g=>by rw[←hE'];exact Heap.get?_push_of_some _ g
 generalize hF':hE.push (z9f hC.objs.size hD.objs.size)=hF;have gF:hF.get? hE.objs.size=some (z9f hC.objs.size hD.objs.size):=by rw[←hF'];exact Heap.get?_push_size _ rfl
 have kF:∀c o,hE.get? c=some o->hF.get? c=some o:=λc o g=>by rw[←hF'];exact Heap.get?_push_of_some _ g
 have eH:z3H s.heap p q r=hF:=by subst hF' hE' hD' hC' hB' hA';rfl
 have eA:(z3D s.heap p q r).objs.size=hE.objs.size:=by subst hE' hD' hC' hB' hA';rfl
 rw[e1] at gB gD;rw[e2] at gC gD;rw[e3] at gD gF;rw[e4] at gE gF;rw[e5] at gF;show _/\_;rw[eH,eA,e5];refine⟨⟨_,gF,rfl⟩,h hF ⟨gF,kF _ _ (kE _ _ gD),⟨[.none,.none,.none],rfl,kF _ _ gE⟩,λj r hr=>?_⟩ λc o g=>kF _ _ (kE _ _ (kD _ _ (kC _ _ (kB _ _ (kA _ _ g)))))⟩
 match j,hr with
 | 0,hr=>cases hr;exact z6k (kF _ _ (kE _ _ (kD _ _ (kC _ _ (kB _ _ gA)))))
 | 1,hr=>cases hr;exact z6k (kF _ _ (kE _ _ (kD _ _ (kC _ _ gB))))
 | 2,hr=>cases hr;exact z6k (kF _ _ (kE _ _ (kD _ _ gC)))
 | n+3,hr=>cases hr
end
section
variable {X:Cx}
def zrc (K:y03)(t1 t2:TE)(σ:St)(H:Hp)(R:It->Hp->Prop):Prop:=t1 σ H λx H1=>t2 σ H1 λy H2=>match x,y with
 | .ref a,.ref b=>∃u v,(∃xs,SqS K u H2 a xs)/\(∃ys,SqS K v H2 b ys)/\R (Itz K [(u,a),(v,b)]) H2
 | _,_=>False
def zna (K:y03)(t1 t2 t3:TE)(σ:St)(H:Hp)(R:It->Hp->Prop):Prop:=t1 σ H λx H1=>t2 σ H1 λy H2=>t3 σ H2 λz H3=>match x,y,z with
 | .ref a,.ref b,.ref c=>∃u v t,(∃xs,SqS K u H3 a xs)/\(∃ys,SqS K v H3 b ys)/\(∃zs,SqS K t H3 c zs)/\R (Itz K [(u,a),(v,b),(t,c)]) H3
 | _,_,_=>False
theorem z6l {t:Bool}{h:Heap}{a:Addr}{xs:Array Value}(x:SeqAt t h a xs):a<h.objs.size:=by
 cases t
 ·obtain⟨o,e,_⟩:=x;exact Heap.lt_size e
 ·obtain⟨o,e,_⟩:=x;exact Heap.lt_size e
theorem z5u {l1 l2:Expr}{t1 t2:TE}{elts:List Expr}{kt:Nat}{tp p pos:Pos}(hm:X.mg "zip"=none)(h1:PE X l1 t1)(h2:PE X l2 t2)(hg:Gl X "zip":=by rfl)(hs:starEach [l1,l2] X.env = [(false,eval l1 X.env),(false,eval l2 X.env)]:=by rfl)(hs2:starEach [l2] X.env = [(false,eval l2 X.env)]:=by rfl) :
  PI X (.Tuple elts kt tp) (.Call (.Name "zip" p) [l1,l2] [] pos) (zrc X.K t1 t2):=by
 intro ao s σ H R I h;have ha:PA X [l1,l2] _:=z00 (z1p h1) (z00 (z1p h2) z03 hs2) (by rw[hs,hs2])
 refine Call_ (z51 I hg hm zln (y1n (thn (ha pos ao s σ H (λvs H1=>∃x y,vs = [x,y]/\(match x,y with
  | .ref a,.ref b=>∃u v,(∃xs,SqS X.K u H1 a xs)/\(∃ys,SqS X.K v H1 b ys)/\R (Itz X.K [(u,a),(v,b)]) H1
  | _,_=>False)) I ⟨_,h,λv H1 q=>⟨_,q,λu H2 q2=>⟨v,u,rfl,q2⟩⟩⟩) λus s1 h1=>?_) (by rw[hs,hs2]) (by rw[hs2];rfl)))
 obtain⟨vs,H1,I1,r1,x,y,rfl,q1⟩:=h1;obtain⟨u,w,rfl,rx,ry⟩:=zjd r1
 split at q1
 ·rename_i a b;cases rx;cases ry;obtain⟨tu,tv,⟨xs,hq1⟩,⟨ys,hq2⟩,q⟩:=q1;obtain⟨its1,rv1,p1⟩:=Inv.sqs I1 hq1;obtain⟨its2,rv2,p2⟩:=Inv.sqs I1 hq2;refine zfy (p:=(tu,a)) (q:=(tv,b)) p1 p2 λh' z1 kk=>wpAny_pyIter_zip z1.zip ?_;refine⟨_,_,_,_,H1,rfl,I1.kept (t':=s1.toks) kk,zdw s1.heap.objs.size [(tu,a),(tv,b)] (by simp) (by simp) (λp hp=>?_),z1,λc hc=>I1.fpOk (fp_mem.mp hc).1 (I1.hok.fresh (fp_mem.mp hc).1),q⟩
  simp only[y0k,y15,or_false] at hp;rcases hp with rfl | rfl
  ·exact z6l p1
  ·exact z6l p2
 ·exact q1.elim
theorem zr2 {x y z:V}{us:List Value}(r:Vals [x,y,z] us):∃u v w,us = [u,v,w]/\RelV x u/\RelV y v/\RelV z w:=by
 cases r with
 | cons r1 r2 =>
  obtain⟨u,w,rfl,a,b⟩:=zjd r2;exact⟨_,_,_,rfl,r1,a,b⟩
theorem znm {l1 l2 l3:Expr}{t1 t2 t3:TE}{elts:List Expr}{kt:Nat}{tp p pos:Pos}(hm:X.mg "zip"=none)(h1:PE X l1 t1)(h2:PE X l2 t2)(h3:PE X l3 t3)(hg:Gl X "zip":=by rfl)(hs:starEach [l1,l2,l3] X.env = [(false,eval l1 X.env),(false,eval l2 X.env),(false,eval l3 X.env)]:=by rfl)(hs2:starEach [l2,l3] X.env = [(false,eval l2 X.env),(false,eval l3 X.env)]:=by rfl)(hs3:starEach [l3] X.env = [(false,eval l3 X.env)]:=by rfl) :
  PI X (.Tuple elts kt tp) (.Call (.Name "zip" p) [l1,l2,l3] [] pos) (zna X.K t1 t2 t3):=by
 intro ao s σ H R I h;have ha:PA X [l1,l2,l3] _:=z00 (z1p h1) (z00 (z1p h2) (z00 (z1p h3) z03 hs3) (by rw[hs2,hs3])) (by rw[hs,hs2])
 refine Call_ (z51 I hg hm zln (y1n (thn (ha pos ao s σ H (λvs H1=>∃x y z,vs = [x,y,z]/\(match x,y,z with
  | .ref a,.ref b,.ref c=>∃u v t,(∃xs,SqS X.K u H1 a xs)/\(∃ys,SqS X.K v H1 b ys)/\(∃zs,SqS X.K t H1 c zs)/\R (Itz X.K [(u,a),(v,b),(t,c)]) H1
  | _,_,_=>False)) I ⟨_,h,λv H1 q=>⟨_,q,λu H2 q2=>⟨_,q2,λt H3 q3=>⟨v,u,t,rfl,q3⟩⟩⟩⟩) λus s1 h1=>?_) (by rw[hs,hs2]) (by rw[hs2];rfl)))
 obtain⟨vs,H1,I1,r1,x,y,z,rfl,q1⟩:=h1;obtain⟨u,v,w,rfl,rx,ry,rz⟩:=zr2 r1
 split at q1
 ·rename_i a b c;cases rx;cases ry;cases rz;obtain⟨tu,tv,tw,⟨xs,hq1⟩,⟨ys,hq2⟩,⟨zs,hq3⟩,q⟩:=q1;obtain⟨its1,rv1,p1⟩:=Inv.sqs I1 hq1;obtain⟨its2,rv2,p2⟩:=Inv.sqs I1 hq2;obtain⟨its3,rv3,p3⟩:=Inv.sqs I1 hq3;refine zgf (p:=(tu,a)) (q:=(tv,b)) (r:=(tw,c)) p1 p2 p3 λh' z1 kk=>wpAny_pyIter_zip z1.zip ?_;refine⟨_,_,_,_,H1,rfl,I1.kept (t':=s1.toks) kk,zdw s1.heap.objs.size [(tu,a),(tv,b),(tw,c)] (by simp) (by simp) (λp hp=>?_),z1,λc hc=>I1.fpOk (fp_mem.mp hc).1 (I1.hok.fresh (fp_mem.mp hc).1),q⟩
  simp only[y0k,y15,or_false] at hp;rcases hp with rfl | rfl | rfl
  ·exact z6l p1
  ·exact z6l p2
  ·exact z6l p3
 ·exact q1.elim
end
end L2.EX
set_option Elab.async false
set_option linter.all false
set_option maxRecDepth 100000
namespace L2.EX
open PySem PySem.Spec PyProof.Rows
theorem zrd {K:y03}{H:Hp}{a:Addr}{xs:List V}(h:SqL K H a xs):SqS K false H a xs:=h
theorem z9g {K:y03}{g:TG}{tb:TS}{D:Ends}{σ:St}{H:Hp}{u v:Bool}{a b:Addr}{xs ys:List V}(n:Nat)(hn:n=min xs.length ys.length)(Pv:Nat->St->Hp->Prop)(h0:Pv 0 σ H)(hl:∀i σ H,i≤n->Pv i σ H->SqS K u H a xs/\SqS K v H b ys)
  (hs:∀i x y σ H p,xs[i]?=some x->ys[i]?=some y->Pv i σ H->H p=none->g (.ref p) σ (upd H p (.tup [x,y])) fun σ2 H2=>tb { D with nx:=Pv (i+1),ct:=Pv (i+1),bk:=D.nx } σ2 H2) (hd:∀ σ H,Pv n σ H->D.nx σ H):zcm (Itz K [(u,a),(v,b)]) g tb D σ H:=by
 refine⟨λi m σ H=>m=n - i/\i≤n/\Pv i σ H,⟨n,by simp,y25 _,h0⟩,?_⟩
 rintro i m σ H ⟨rfl,hi,p⟩;obtain⟨q1,q2⟩:=hl i σ H hi p
 by_cases hlt:i<n
 ·have l1:i<xs.length:=by lia
  have l2:i<ys.length:=by lia
  refine .inr ⟨λj p hp=>?_,Pv (i+1),fun σ' H' p'=>⟨n - (i+1),by lia,rfl,hlt,p'⟩,λx H' y=>?_⟩
  ·match j,hp with
   | 0,hp=>cases hp;exact⟨xs,xs[i],q1,by simp[l1]⟩
   | 1,hp=>cases hp;exact⟨ys,ys[i],q2,by simp[l2]⟩
   | k+2,hp=>cases hp
  ·obtain⟨t,zs,ht,e1,e2,e3,e4⟩:=y;subst e1 e2
   match zs,e3,e4 with
   | [z1,z2],_,e4 =>
    have f1:=e4 0 _ rfl xs q1;have f2:=e4 1 _ rfl ys q2
    exact hs i z1 z2 σ H t f1 f2 p ht
 ·have e:i=n:=by lia
  subst e;refine .inl ⟨⟨λj p hp=>?_,?_⟩,hd σ H p⟩
  ·match j,hp with
   | 0,hp=>cases hp;exact⟨xs,q1⟩
   | 1,hp=>cases hp;exact⟨ys,q2⟩
   | k+2,hp=>cases hp
  ·by_cases z:xs.length≤i
   ·exact⟨0,_,xs,rfl,q1,z⟩
   ·exact⟨1,_,ys,rfl,q2,by lia⟩
theorem zn9 {K:y03}{g:TG}{tb:TS}{D:Ends}{σ:St}{H:Hp}{u v w:Bool}{a b c:Addr}{xs ys ws:List V}(n:Nat)(h1:n=xs.length)(h2:n=ys.length)(h3:n=ws.length)(Pv:Nat->St->Hp->Prop)(h0:Pv 0 σ H)(hl:∀i σ H,i≤n->Pv i σ H->SqS K u H a xs/\SqS K v H b ys/\SqS K w H c ws)
  (hs:∀i x y z σ H p,xs[i]?=some x->ys[i]?=some y->ws[i]?=some z->Pv i σ H->H p=none->g (.ref p) σ (upd H p (.tup [x,y,z])) fun σ2 H2=>tb { D with nx:=Pv (i+1),ct:=Pv (i+1),bk:=D.nx } σ2 H2) (hd:∀ σ H,Pv n σ H->D.nx σ H):zcm (Itz K [(u,a),(v,b),(w,c)]) g tb D σ H:=by
 refine⟨λi m σ H=>m=n - i/\i≤n/\Pv i σ H,⟨n,by simp,y25 _,h0⟩,?_⟩
 rintro i m σ H ⟨rfl,hi,p⟩;obtain⟨q1,q2,q3⟩:=hl i σ H hi p
 by_cases hlt:i<n
 ·have l1:i<xs.length:=by lia
  have l2:i<ys.length:=by lia
  have l3:i<ws.length:=by lia
  refine .inr ⟨λj p hp=>?_,Pv (i+1),fun σ' H' p'=>⟨n - (i+1),by lia,rfl,hlt,p'⟩,λx H' y=>?_⟩
  ·match j,hp with
   | 0,hp=>cases hp;exact⟨xs,xs[i],q1,by simp[l1]⟩
   | 1,hp=>cases hp;exact⟨ys,ys[i],q2,by simp[l2]⟩
   | 2,hp=>cases hp;exact⟨ws,ws[i],q3,by simp[l3]⟩
   | k+3,hp=>cases hp
  ·obtain⟨t,zs,ht,e1,e2,e3,e4⟩:=y;subst e1 e2
   match zs,e3,e4 with
   | [z1,z2,z3],_,e4=>exact hs i z1 z2 z3 σ H t (e4 0 _ rfl xs q1) (e4 1 _ rfl ys q2) (e4 2 _ rfl ws q3) p ht
 ·have e:i=n:=by lia
  subst e;refine .inl ⟨⟨λj p hp=>?_,0,_,xs,rfl,q1,by lia⟩,hd σ H p⟩
  match j,hp with
  | 0,hp=>cases hp;exact⟨xs,q1⟩
  | 1,hp=>cases hp;exact⟨ys,q2⟩
  | 2,hp=>cases hp;exact⟨ws,q3⟩
  | k+3,hp=>cases hp
theorem zkr {K:y03}{g:TG}{tt:TT}{te:TE}{σ0:St}{Q:VK}{H:Hp}{u v:Bool}{a b:Addr}{xs zs:List V}(n:Nat)(hn:n=min xs.length zs.length)(Pv:Nat->List V->Hp->Prop)(h0:Pv 0 [] H)(hz:n<sizeLine)(hl:∀i ys H,i≤n->Pv i ys H->SqS K u H a xs/\SqS K v H b zs/\ys.length≤i)
  (hs:∀i x z ys H p,xs[i]?=some x->zs[i]?=some z->Pv i ys H->H p=none->g (.ref p) σ0 (upd H p (.tup [x,z])) fun σ2 H2=>tt σ2 H2 λb H3=>if b=true then te σ2 H3 λy H4=>CNx Pv n (i+1) (ys ++ [y]) H4 else CNx Pv n (i+1) ys H3)
  (hd:∀ys H,Pv n ys H->∀l,H l=none->Q (.ref l) (upd H l (.lst ys))):z6n (Itz K [(u,a),(v,b)]) g tt te σ0 Q H:=by
 refine⟨λi m ys H=>m=n - i/\i≤n/\Pv i ys H,⟨n,by simp,y25 _,h0⟩,?_⟩
 rintro i m ys H ⟨rfl,hi,p⟩;obtain⟨q1,q2,yl⟩:=hl i ys H hi p
 by_cases hlt:i<n
 ·have l1:i<xs.length:=by lia
  have l2:i<zs.length:=by lia
  refine .inr ⟨λj p hp=>?_,by lia,λx H' y=>?_⟩
  ·match j,hp with
   | 0,hp=>cases hp;exact⟨xs,xs[i],q1,by simp[l1]⟩
   | 1,hp=>cases hp;exact⟨zs,zs[i],q2,by simp[l2]⟩
   | k+2,hp=>cases hp
  ·obtain⟨t,ws,ht,e1,e2,e3,e4⟩:=y;subst e1 e2
   match ws,e3,e4 with
   | [z1,z2],_,e4 =>
    have z:=hs i z1 z2 ys H t (e4 0 _ rfl xs q1) (e4 1 _ rfl zs q2) p ht;rw[show n - i=n+1 - (i+1) by lia]
    exact z
 ·have e:i=n:=by lia
  subst e;refine .inl ⟨⟨λj p hp=>?_,?_⟩,by lia,hd ys H p⟩
  ·match j,hp with
   | 0,hp=>cases hp;exact⟨xs,q1⟩
   | 1,hp=>cases hp;exact⟨zs,q2⟩
   | k+2,hp=>cases hp
  ·by_cases z:xs.length≤i
   ·exact⟨0,_,xs,rfl,q1,z⟩
   ·exact⟨1,_,zs,rfl,q2,by lia⟩
end L2.EX
set_option Elab.async false
set_option linter.all false
set_option maxRecDepth 100000
namespace L2.EX
open PySem PySem.Spec PyProof.Rows PySem.SeqAt
def zrm (K:y03)(x y:V)(H:Hp)(Q:VK):Prop:=∃dx l xs ds,y = .ref l/\H l=some (.lst xs)/\Is K H x dx/\IsAll K H xs ds/\Sh 60 dx/\(∀d∈ds,Sh 60 d)/\Q (.bl (ds.any λd=>PyData.eqv d dx)) H
def zop (K:y03)(x y:V)(H:Hp)(Q:VK):Prop:=∃dx l xs ds,y = .ref l/\H l=some (.lst xs)/\Is K H x dx/\IsAll K H xs ds/\Sh 60 dx/\(∀d∈ds,Sh 60 d)/\Q (.bl (!ds.any λd=>PyData.eqv d dx)) H
section
variable {X:Cx}{ao:List (Addr×Obj)}{σ:St}{H:Hp}{s:Shared}
end
end L2.EX
set_option Elab.async false
set_option linter.all false
set_option maxRecDepth 100000
namespace PySem
open AutoSeq1 (wpAny_loadPart')
open MeetsSeq MeetsSeq2 MeetsSeq3 SeqRoads2 SeqAt
end PySem
namespace L2.EX
open PySem PySem.Spec PyProof.Rows PySem.SeqAt
section
variable {X:Cx}{ao:List (Addr×Obj)}{σ:St}{H:Hp}{s:Shared}
open Classical in
theorem zj7 {k:Nat}(hr:Room k X.A)(I:Inv X ao σ H s){dx:PyData}{xs:List V}{its:List Value}{ds:List PyData}{x:V}{v:Value}(rv:Vals xs its)(hx:Is X.K H x dx)(ha:IsAll X.K H xs ds)(sx:Sh 60 dx)(sd:∀d∈ds,Sh 60 d)(rx:RelV x v) :
  ∃(e:Value->Bool),(∀w,w∈its.toArray->EqAt X.A.in1 s w v (e w))/\∀(j:Nat) w d,its[j]?=some w->ds[j]?=some d->e w=PyData.eqv d dx:=by
 obtain⟨ax,rdx⟩:=Is.reads I dx x v hx rx;have rd:∀(j:Nat) w,its[j]?=some w->∃d as,ds[j]?=some d/\Reads s.heap w d as:=λj w hw=>by
  have hj:j<xs.length:=by rw[rv.length];exact(y00.mp hw).1
  have hxj:xs[j]?=some xs[j]:=by simp[hj]
  obtain⟨u,g1,g2⟩:=rv.get hxj;rw[hw] at g1;cases g1;obtain⟨d,g3,g4⟩:=z4r ha hxj;obtain⟨as,g5⟩:=Is.reads I d _ w g4 g2;exact⟨d,as,g3,g5⟩
 have key:∀(j:Nat) w d as,its[j]?=some w->ds[j]?=some d->Reads s.heap w d as->decide (∃d as,d∈ds/\Reads s.heap w d as/\PyData.eqv d dx=true)=PyData.eqv d dx:=λj w d as hj g1 g2=>by
  have hd:=y02 g1
  by_cases c:PyData.eqv d dx=true
  ·rw[c];exact decide_eq_true ⟨d,as,hd,g2,c⟩
  ·rw[y6w.mpr c];refine decide_eq_false ?_;rintro⟨d',as',h1,h2,h3⟩;have:=PySem.SeqAt.Reads.unique d d' w as as' (sd d hd).1 g2 h2;rw[←this] at h3;exact c h3
 refine⟨λw=>decide (∃d as,d∈ds/\Reads s.heap w d as/\PyData.eqv d dx=true),λw hw=>?_,λj w d hj hd=>?_⟩
 ·obtain⟨j,hj⟩:=y08 (List.mem_toArray.mp hw);obtain⟨d,as,g1,g2⟩:=rd j w hj;have hd:=y02 g1;show EqAt X.A.in1 s w v (decide (∃d as,d∈ds/\Reads s.heap w d as/\PyData.eqv d dx=true));rw[key j w d as hj g1 g2];refine PySem.SeqAt.eqAt_reads d dx X.A.in1 s w v as ax g2 rdx (sd d hd).1 sx.1 ?_;have h1:=zq4 hr
  have h2:=(sd d hd).2;have h3:X.A.in1.units≤X.A.units+2:=by first | exact y0b _ | (simp[Around.in1]) | (show _≤_;simp[Around.in1];lia)
  lia
 ·obtain⟨d',as,g1,g2⟩:=rd j w hj;rw[hd] at g1;cases g1;exact key j w d as hj hd g2
end
theorem zee {α:Type}{p:α->Bool}:∀{l:List α},l.any p=true->∃(j:Nat) (x:α),l[j]?=some x/\p x=true/\∀(m:Nat) y,m<j->l[m]?=some y->p y=false
 | [],h=>by simp at h
 | x::r,h=>by
  by_cases c:p x=true
  ·exact⟨0,x,rfl,c,λm y hm=>by lia⟩
  ·have h':r.any p=true:=by
    rw[y6m] at h;simpa [c] using h
   obtain⟨j,y,h1,h2,h3⟩:=zee h';refine⟨j+1,y,by simpa using h1,h2,λm z hm hz=>?_⟩
   cases m with
   | zero =>
    simp at hz;subst hz;exact y6w.mpr c
   | succ m=>exact h3 m z (by lia) (by simpa using hz)
section
variable {X:Cx}{o e:Expr}{es:List Expr}{ta:TE}{t:TA}{aU aO:Pos}
def zre (K:y03)(ta:TE)(t:TA)(σ:St)(H:Hp)(Q:VK):Prop:=ta σ H λx H1=>match x with
 | .ref l=>(∃xs,H1 l=some (.lst xs))/\t σ H1 λvs H2=>match vs with
  | [y]=>∃xs dx ds,H2 l=some (.lst xs)/\Is K H2 y dx/\IsAll K H2 xs ds/\Sh 60 dx/\(∀d∈ds,Sh 60 d)/\(ds.any λd=>PyData.eqv d dx)=true/\∀j,j<xs.length->Q .non (upd H2 l (.lst (xs.eraseIdx j)))
  | _=>False
 | _=>False
theorem zmx (a b:Int):PyData.eqv (.int a) (.int b)=decide (a=b):=by
 have h:=zk0 a 0 b 0
 by_cases c:a=b
 ·subst c;rw[decide_eq_true rfl];exact z4p (z8j a)
 ·rw[decide_eq_false c] at h ⊢
  rw[y68] at h;simpa [z3l,PyData.eqv,PyData.eqvAll] using h
def zob:V->List V->Hp->VK->Prop:=λx vs H Q=>∃(l:Addr) (ns:List Int) (n:Int),x = .ref l/\vs = [.int n]/\H l=some (.lst (ns.map V.int))/\n∈ns/\∀j:Nat,ns[j]?=some n->(∀(m:Nat) y,m<j->ns[m]?=some y->y≠n)->Q (.int (j:Int)) H
theorem zjk {k:Nat}(hr:Room k X.A):MtM X "list.index" zob:=by
 intro ao s σ H x vs v us Q I rx rv h;obtain⟨l,ns,n,rfl,rfl,hH,hn,q⟩:=h;cases rx;obtain⟨u,rfl,ru⟩:=rv.one;obtain⟨z,its,m,r,hl,e⟩:=I.lstM hH;obtain⟨ev,h1,h2⟩:=zj7 hr I (dx:=.int n) (ds:=ns.map PyData.int) r (is_int.mpr rfl) (z35 ns) (z8j _) (λd hd=>by
  obtain⟨i,_,rfl⟩:=y1i.mp hd;exact z8j i) ru
 have hany:(ns.any λi=>decide (i=n))=true:=y1t.mpr ⟨n,hn,decide_eq_true rfl⟩;obtain⟨j,d,hd,hp,hno⟩:=zee hany;have hdn:d=n:=of_decide_eq_true hp
 subst hdn;rw[y04] at hl z;have hjd:=(y00.mp hd).1;have hj:j<its.toArray.size:=by rw[y0h];lia
 have look:∀m (hm:m<its.toArray.size),∃d',ns[m]?=some d'/\ev its.toArray[m]=decide (d'=d):=λm hm=>by
  have hm':m<its.length:=by rw[y0h] at hm;exact hm
  have hmd:m<ns.length:=by lia
  refine⟨ns[m],y01 hmd,?_⟩;rw[←zmx];refine h2 m _ _ (by simp[hm']) ?_
  rw[y06,y01 hmd];rfl
 have bD:(sizeLine:Int)<2^63 - 1:=by decide
 refine call_meets F.slot_list_index ⟨_,e,rfl⟩ F.entry_list_index (F.args_list_index_2 _ _)
  (PySem.SeqAt.list_indexAt l its.toArray m none #[] u ev j hj (by lia) (by
   obtain⟨d',g1,g2⟩:=look j hj;rw[hd] at g1;cases g1;rw[g2];exact decide_eq_true rfl) (λm hm hlt=>by
   obtain⟨d',g1,g2⟩:=look m hm;rw[g2];exact hno m d' hlt g1)) ⟨e,h1,?_⟩
 exact⟨.int (j:Int),H,I.kept (t':=s.toks+1) (λ_ _ e=>e),⟨_,rfl⟩,q j hd λm y hm hy=>of_decide_eq_false (hno m y hm hy)⟩
def zge (ta:TE)(t:TA)(σ:St)(H:Hp)(Q:VK):Prop:=ta σ H λx H1=>match x with
 | .ref l=>(∃xs,H1 l=some (.lst xs))/\t σ H1 λvs H2=>match vs with
  | [.int n]=>∃ns:List Int,H2 l=some (.lst (ns.map V.int))/\n∈ns/\∀j:Nat,ns[j]?=some n->(∀(m:Nat) y,m<j->ns[m]?=some y->y≠n)->Q (.int (j:Int)) H2
  | _=>False
 | _=>False
theorem zc3 {k:Nat}(hr:Room k X.A)(ho:PE X o ta)(ha:PA X (e::es) t)(bE:attributeBase o "index" X.env (eval o X.env)=eval o X.env:=by rfl)
  (hfew:((backTo aO (starEach (e::es) X.env)).all (λx=>!x.1)&&(backToKw aO (keywordEach [] X.env)).all (λx=>x.1.isSome)
  &&decide ((e::es).length+([]:List Keyword).length+(if ([]:List Keyword).isEmpty then 0 else 1)<30))=true:=by rfl)
  (bD:(aU.endLine==aO.line)=true:=by rfl) (hs:starEach (e::es) X.env=(false,eval e X.env)::starEach es X.env:=by rfl) (bY:(backTo aO (starEach es X.env)).any (·.1)=false:=by rfl) :
  PE X (.Call (.Attribute o "index" aU) (e::es) [] aO) (zge ta t) :=
 z57 (zn6 y2z PySem.F.slot_list_index PySem.F.type_list_index (zjk hr) (z1p ho) (z6s ha) bE hfew bD hs bY) fun σ H Q h=>⟨_,h,λx H1 q=>by
  split at q
  ·obtain⟨⟨xs,h1⟩,h2⟩:=q;refine⟨.inl ⟨rfl,_,SqL.of h1⟩,_,h2,λvs H2 q2=>?_⟩
   split at q2
   ·obtain⟨ns,h3,h4,h5⟩:=q2;exact⟨_,ns,_,rfl,rfl,h3,h4,h5⟩
   ·exact q2.elim
  ·exact q.elim⟩
def zrh (ta:TE)(t:TA)(σ:St)(H:Hp)(Q:VK):Prop:=ta σ H λx H1=>match x with
 | .ref l=>(∃xs,H1 l=some (.lst xs))/\t σ H1 λvs H2=>match vs with
  | [.int i,y]=>∃xs,∃k:Nat,H2 l=some (.lst xs)/\i=(k:Int)/\k≤xs.length/\xs.length<sizeLine/\Q .non (upd H2 l (.lst (xs.take k++y::xs.drop k)))
  | _=>False
 | _=>False
def zra (ta:TE)(t:TA)(σ:St)(H:Hp)(Q:VK):Prop:=ta σ H λx H1=>match x with
 | .ref l=>(∃xs,H1 l=some (.lst xs))/\t σ H1 λvs H2=>match vs with
  | [.ref b]=>∃xs zs,H2 l=some (.lst xs)/\H2 b=some (.lst zs)/\xs.length+zs.length≤sizeLine/\Q .non (upd H2 l (.lst (xs++zs)))
  | _=>False
 | _=>False
theorem zc9 (ho:PE X o ta)(ha:PA X (e::es) t)(bE:attributeBase o "extend" X.env (eval o X.env)=eval o X.env:=by rfl)
  (hfew:((backTo aO (starEach (e::es) X.env)).all (λx=>!x.1)&&(backToKw aO (keywordEach [] X.env)).all (λx=>x.1.isSome)
  &&decide ((e::es).length+([]:List Keyword).length+(if ([]:List Keyword).isEmpty then 0 else 1)<30))=true:=by rfl)
  (bD:(aU.endLine==aO.line)=true:=by rfl) (hs:starEach (e::es) X.env=(false,eval e X.env)::starEach es X.env:=by rfl) (bY:(backTo aO (starEach es X.env)).any (·.1)=false:=by rfl) :
  PE X (.Call (.Attribute o "extend" aU) (e::es) [] aO) (zra ta t) :=
 z57 (zn6 y2z PySem.F.slot_list_extend PySem.F.type_list_extend zhn (z1p ho) (z6s ha) bE hfew bD hs bY) fun σ H Q h=>⟨_,h,λx H1 q=>by
  split at q
  ·obtain⟨⟨xs,h1⟩,h2⟩:=q;refine⟨.inl ⟨rfl,_,SqL.of h1⟩,_,h2,λvs H2 q2=>?_⟩
   split at q2
   ·obtain⟨ns,zs,h3,h4,h5,h6⟩:=q2;exact⟨_,_,ns,zs,rfl,rfl,h3,h4,h5,h6⟩
   ·exact q2.elim
  ·exact q.elim⟩
end
def Itv (K:y03)(a:Addr)(n:Nat):It:=⟨λi H=>i<n/\∃xs,SqL K H a xs/\xs.length=n,λi H x H'=>H'=H/\∀xs,SqL K H a xs->xs[n - 1 - i]?=some x,λi H=>i=n⟩
def zro (K:y03)(tl:TE)(σ:St)(H:Hp)(R:It->Hp->Prop):Prop:=tl σ H λx H1=>match x with
 | .ref a=>∃xs,SqL K H1 a xs/\R (Itv K a xs.length) H1
 | _=>False
end L2.EX
set_option Elab.async false
set_option linter.all false
set_option maxRecDepth 100000
set_option Elab.async false
set_option linter.all false
set_option maxRecDepth 100000
namespace L2
open PySem PySem.Spec PyProof.Rows
end L2
namespace L2
open PySem PySem.Spec PyProof.Rows
section
variable (P:Program)(w:World)
end
section
variable {P:Program}{w:World}{H H':Hp}{h h':Heap}{a:Addr}{o:HO}
end
section
variable {P:Program}{w:World}{H:Hp}{h h':Heap}{x e:Addr}{o':HO}
end
section
variable {fs fs' ex ex':List Addr}{H H1 H2:Hp}{h h1 h2 h':Heap}{a x e:Addr}{o:HO}
end
end L2
namespace L2
open PySem PySem.Spec PyProof.Rows
section
variable {X:Cx}{ao:List (Addr×Obj)}{σ:List (Option V)}{H H':Hp}{s:Shared}{h':Heap}
end
end L2
namespace L2
open PySem PySem.Spec PyProof.Rows
section
variable {X:Cx}
variable {a b:Expr}{ta tb:TE}{pos:Pos}
variable {tA tB':TT}{rest:List Expr}
end
end L2
namespace L2
open PySem PySem.Spec PyProof.Rows
section
variable {X:Cx}{ao:List (Addr×Obj)}{σ:St}{H:Hp}{s:Shared}{a:Addr}{xs ys:List V}
end
section
variable {X:Cx}{ao:List (Addr×Obj)}{σ:St}{H:Hp}{s:Shared}{E:Value->Shared->Prop}
end
section
variable {X:Cx}{st:Stmt}{rest:List Stmt}{t u:TS}{e:Expr}{te:TE}{pos:Pos}
end
section
variable {X:Cx}{pos:Pos}
end
section
variable {X:Cx}{pos:Pos}
end
end L2
namespace L2
open PySem PySem.Spec PyProof.Rows
section
variable {X:Cx}{tg:Expr}
end
end L2
namespace L2
open PySem PySem.Spec PyProof.Rows
section
variable {X:Cx}{a b c:Expr}{ta tb tc:TE}{pos:Pos}
end
section
variable {X:Cx}{a b c:Expr}{ta tb tc:TE}{pos:Pos}
end
end L2
namespace L2
open PySem PySem.Spec PyProof.Rows
section
variable {prog:Program}{w:World}{A:Around}{E:Value->Shared->Prop}{s:Shared}{K:y03}{x dx C f:Addr}{mA:Str->Option Value}{name:Str}{v:Value}
end
section
variable {P:Program}{w:World}{H H':Hp}{h h':Heap}{a C dx:Addr}{fs fs':List (Str×V)}
end
section
variable {X:Cx}{ao:List (Addr×Obj)}{σ:St}{H:Hp}{s:Shared}{a C dx:Addr}{fs:List (Str×V)}{f:Str}{v:V}{A:Around}{E:Value->Shared->Prop}
end
section
variable {X:Cx}{o e value:Expr}{f:Str}{pos b9 tpos:Pos}{ta tv:TE}
end
section
variable {X:Cx}{ao:List (Addr×Obj)}{σ:St}{H:Hp}{s:Shared}{A:Around}{E:Value->Shared->Prop}{Q:Value->Shared->Prop}{c:Value}{b:Bool}
end
end L2
namespace L2
open PySem PySem.Spec PyProof.Rows
section
variable {X:Cx}{e:Expr}{es:List Expr}{te:TE}{t:TA}{pos:Pos}
end
section
variable {X:Cx}{ao:List (Addr×Obj)}{σ:St}{H:Hp}{s s':Shared}
end
section
variable {X:Cx}{CX:CXT}{k:Nat}{f C:Addr}{fd:FuncData}{ps:List Str}{sp:Sp}{dvs:List V}{ds:List Value}{E:XK}{x m:Str}{p pos aU:Pos}{e o:Expr}{es:List Expr}{ta:TE}{t:TA}
end
section
variable {X:Cx}{CX:CXT}{k:Nat}{f C:Addr}{fd:FuncData}{ps ks:List Str}{sp:Sp}{E:XK}{x m:Str}{p pos aU kpos:Pos}{e o:Expr}{es:List Expr}{kws:List Keyword}{te ta:TE}{t tk:TA}{nm:Option Str}
variable {g:List Value->List Value->List Value}{gV:List V->List V->List V}
end
end L2
namespace L2
open PySem PySem.Spec PyProof.Rows
section
variable {X:Cx}{x:Str}{p pos:Pos}{e:Expr}{es:List Expr}{t:TA}{id T:String}{r:List V->Hp->VK->Prop}
end
end L2
namespace L2
open PySem PySem.Spec PyProof.Rows
section
variable {κ:Type} [DecidableEq κ]
def zcb (kvs:List (κ×V))(k:κ):Option V:=(kvs.find? λkv=>decide (kv.1=k)).map (·.2)
def zh3 (kvs:List (κ×V))(k:κ)(v:V):List (κ×V) :=
 if (kvs.any λkv=>decide (kv.1=k))=true then kvs.map (λkv=>if kv.1=k then (kv.1,v) else kv) else kvs ++ [(k,v)]
theorem zdh {p:κ×V}{r:List (κ×V)}{k:κ}(e:p.1=k):zcb (p::r) k=some p.2:=by simp[zcb,y35,e]
theorem zdq {p:κ×V}{r:List (κ×V)}{k:κ}(e:¬p.1=k):zcb (p::r) k=zcb r k:=by simp[zcb,y35,e]
theorem RelO.isSome_eq {o:Option V}{u:Option Value}(r:RelO o u):o.isSome=u.isSome:=by
 cases o with
 | none=>cases u with
  | none=>rfl
  | some _=>exact(show False from r).elim
 | some _=>cases u with
  | none=>exact(show False from r).elim
  | some _=>rfl
theorem KV.val {kvs:List (κ×V)}{vs:List (κ×Value)}(r:KV kvs vs)(k:κ):RelO (zcb kvs k) (valueAt vs k):=by
 unfold KV at r
 induction r with
 | nil=>exact True.intro
 | @cons p q ps qs h t ih =>
  obtain⟨h1,h2⟩:=h
  by_cases e:p.1=k
  ·have e':q.1=k:=h1.symm.trans e;have b:valueAt (q::qs) k=some q.2:=by simp[valueAt,y35,e']
   rw[zdh e,b];exact h2
  ·have e':¬q.1=k:=λz=>e (h1.trans z);have b:valueAt (q::qs) k=valueAt qs k:=by simp[valueAt,y35,e']
   rw[zdq e,b];exact ih
theorem KV.any {kvs:List (κ×V)}{vs:List (κ×Value)}(r:KV kvs vs)(k:κ):(kvs.any λkv=>decide (kv.1=k))=vs.any λkv=>decide (kv.1=k):=by
 unfold KV at r
 induction r with
 | nil=>rfl
 | cons h t ih=>rw[y6m,y6m,ih,h.1]
theorem KV.repl {kvs:List (κ×V)}{vs:List (κ×Value)}(r:KV kvs vs)(k:κ){y:V}{u:Value}(ry:RelV y u) :
  KV (kvs.map λkv=>if kv.1=k then (kv.1,y) else kv) (vs.map λkv=>if kv.1=k then (kv.1,u) else kv):=by
 unfold KV at r ⊢
 induction r with
 | nil=>exact .nil
 | @cons p q ps qs h t ih =>
  rw[y0l,y0l];refine .cons ?_ ih;obtain⟨h1,h2⟩:=h
  by_cases e:p.1=k
  ·rw[if_pos e,if_pos (h1.symm.trans e)];exact⟨h1,ry⟩
  ·rw[if_neg e,if_neg (λz=>e (h1.trans z))];exact⟨h1,h2⟩
theorem KV.put {kvs:List (κ×V)}{vs:List (κ×Value)}(r:KV kvs vs)(k:κ){y:V}{u:Value}(ry:RelV y u):KV (zh3 kvs k y) (stored vs k u):=by
 unfold zh3 stored;rw[r.any k]
 by_cases e:(vs.any λkv=>decide (kv.1=k))=true
 ·rw[if_pos e,if_pos e];exact r.repl k ry
 ·rw[if_neg e,if_neg e];exact Paired.snoc r ⟨rfl,ry⟩
theorem KV.length {kvs:List (κ×V)}{vs:List (κ×Value)}(r:KV kvs vs):kvs.length=vs.length:=Paired.length r
end
theorem zj8 {P:Program}{w:World}{k:Key}{u:Value}(r:RelV (kV k) u):(z3f P w).is k u=true:=by
 cases k with
 | inl i=>obtain⟨t,e⟩:=(show ∃t,u=Value.int i t from r);subst e;exact zd7 P w i t
 | inr x=>obtain⟨t,e⟩:=(show ∃t,u=Value.str x t from r);subst e;exact zcp P w x t
theorem zbi {P:Program}{w:World}:∀{ks:List Key} {us:List Value},Vals (ks.map kV) us->ItemsAre (z3f P w) ks us
 | [],_,r=>by rw[y3l] at r;cases r;exact .nil
 | k::ks,_,r=>by
  rw[y0l] at r;cases r with
  | cons h t=>exact .cons (zj8 h) (zbi t)
abbrev KT (H:Hp):List (List Key×V)->List (List Key×Addr×Value)->Prop:=Paired λp q=>p.1=q.1/\H q.2.1=some (.tup (p.1.map kV))/\RelV p.2 q.2.2
theorem KT.val {H:Hp}{kvs:List (List Key×V)}{xs:List (List Key×Addr×Value)}(r:KT H kvs xs)(k:List Key):RelO (zcb kvs k) ((atKey xs k).map (·.2)):=by
 induction r with
 | nil=>exact True.intro
 | @cons p q ps qs h t ih =>
  obtain⟨h1,_,h2⟩:=h
  by_cases e:p.1=k
  ·have e':q.1=k:=h1.symm.trans e;have b:atKey (q::qs) k=some q.2:=by simp[atKey,y35,e']
   rw[zdh e,b];exact h2
  ·have e':¬q.1=k:=λz=>e (h1.trans z);have b:atKey (q::qs) k=atKey qs k:=by simp[atKey,y35,e']
   rw[zdq e,b];exact ih
section
variable {P:Program}{w:World}{H:Hp}{h:Heap}{a:Addr}
theorem zo1 {u:HO}(ok:HOk P w H h)(e:Rd H a u):ObjOk P w H h a u:=e.ok ok
theorem znf {kvs:List (Key×V)}(ok:HOk P w H h)(e:Rd H a (.dK kvs)):kvs.length≤sizeLine/\(a==sysModules)=false/\∃vs,KV kvs vs/\h.DictOf (z3f P w) a vs :=
 show ObjOk P w H h a (.dK kvs) from zo1 ok e
theorem zfu {ks:List Key}(ok:HOk P w H h)(e:H a=some (.tup (ks.map kV))):(tupleKind (z3f P w)).is h ks a:=by
 obtain⟨_,its,r,o,h1,h2,n,h3⟩:=(show ObjOk P w H h a (.tup (ks.map kV)) from ok a _ e)
 exact⟨o,its.toArray,n,h1,h2,h3,by simpa using zbi r⟩
theorem zm1 {kvs:List (List Key×V)}(ok:HOk P w H h)(e:Rd H a (.dT kvs)):kvs.length≤sizeLine/\(a==sysModules)=false /\
  ∃xs,KT H kvs xs/\h.DictOfH (tupleKind (z3f P w)) a xs:=by
 obtain⟨z,y,xs,r,o,es,ep,h1,h2,h3,h4,h5⟩:=(show ObjOk P w H h a (.dT kvs) from zo1 ok e)
 refine⟨z,y,xs,r,o,es,ep,h1,h2,h3,h4,λx hx=>?_,h5⟩;have all:∀{l:List (List Key×V)} {m:List (List Key×Addr×Value)},KT H l m->∀x∈m,(tupleKind (z3f P w)).is h x.1 x.2.1:=by
  intro l m q
  induction q with
  | nil=>intro x hx;exact nomatch hx
  | @cons p q ps qs hq t ih =>
   intro x hx;rcases y0k.mp hx with e | hx
   ·subst e;exact zfu ok (by rw[←hq.1];exact hq.2.1)
   ·exact ih x hx
 exact all r x hx
end
def DGet (H:Hp)(a:Addr)(y:V)(r:Option V):Prop :=
 (∃kvs k,Rd H a (.dK kvs)/\y=kV k/\r=zcb kvs k)∨∃kvs k b,Rd H a (.dT kvs)/\y = .ref b/\H b=some (.tup (k.map kV))/\r=zcb kvs k
theorem DGet.k {H:Hp}{a:Addr}{kvs:List (Key×V)}{k:Key}(e:H a=some (.dK kvs)):DGet H a (kV k) (zcb kvs k):=.inl ⟨kvs,k,.inl e,rfl,rfl⟩
section
variable {X:Cx}{ao:List (Addr×Obj)}{σ:St}{H:Hp}{s:Shared}{a:Addr}{y v:V}{u r:Value}{o:Option V}{A:Around}{E:Value->Shared->Prop}
theorem Inv.big (I:Inv X ao σ H s):sysModules<s.heap.objs.size:=by
 have h:mainGlobals<s.heap.objs.size:=(I.mod.glob.keeps I.bk).lt;exact y62 (by decide) h
theorem zhe {Q:Value->Shared->Prop}(hu:A.units+1<cLine)(I:Inv X ao σ H s)(g:DGet H a y (some v))(ry:RelV y u)(h:∀w' s',Inv X ao σ H s'->RelV v w'->Q w' s') :
  wpAny (model X.prog X.w) A (getItem (.ref a) u) Q E s:=by
 rcases g with ⟨kvs,k,e,ey,l⟩ | ⟨kvs,k,b,e,ey,eb,l⟩
 ·subst ey;obtain⟨z,hd,vs,rel,dd⟩:=znf I.hok e;obtain⟨w',hw,rw'⟩:=RelO.some_of (v:=v) (o:=valueAt vs k) (by rw[l];exact rel.val k)
  exact wpAny_getItem_of (zj8 ry) dd.mapOf hw (h w' _ (I.tok _) rw')
 ·subst ey;cases (show u=Value.ref b from ry)
  obtain⟨z,hd,xs,rel,dd⟩:=zm1 I.hok e;obtain⟨w',hw,rw'⟩:=RelO.some_of (v:=v) (o:=(atKey xs k).map (·.2)) (by rw[l];exact rel.val k)
  obtain⟨p,hp,hp2⟩:=y46.mp hw;refine wpAny_getItem_heap (tupleKind_room_in1 hu) (zfu I.hok eb) dd hp ?_;rw[hp2];exact h w' _ (I.tok _) rw'
theorem zrp {Q:Value->Shared->Prop}(hu:A.units+1<cLine)(I:Inv X ao σ H s)(g:DGet H a y o)(ry:RelV y u)(h:∀s',Inv X ao σ H s'->Q (.bool o.isSome) s') :
  wpAny (model X.prog X.w) A (compareOp .In u (.ref a)) Q E s:=by
 rcases g with ⟨kvs,k,e,ey,l⟩ | ⟨kvs,k,b,e,ey,eb,l⟩
 ·subst ey;obtain⟨z,hd,vs,rel,dd⟩:=znf I.hok e;refine wpAny_in_of (zj8 ry) hd dd.mapOf ?_;rw[←(rel.val k).isSome_eq,←l];exact h _ (I.tok _)
 ·subst ey;cases (show u=Value.ref b from ry)
  obtain⟨z,hd,xs,rel,dd⟩:=zm1 I.hok e;refine wpAny_in_heap (tupleKind_room_in1 hu) (zfu I.hok eb) hd dd ?_;have q:=(rel.val k).isSome_eq;rw[Option.isSome_map] at q;rw[←q,←l];exact h _ (I.tok _)
end
section
variable {X:Cx}{ao:List (Addr×Obj)}{σ:St}{H:Hp}{s:Shared}{a:Addr}{kvs:List (Key×V)}{k:Key}{u:Value}{A:Around}{E:Value->Shared->Prop}
end
def zqb (i:Expr):Prop:=∀ov iv,subscripted i false ov iv=operate [ov,iv] (getItem ov iv)
theorem zmb {prog:Program}{w:World}{A:Around}{E:Value->Shared->Prop}{s:Shared}{env:Env}{value bJ:Expr}{pos:Pos}{T id:String}{Q:Value->Shared->Prop}
  (hl:typeLookup (.type T) "__getitem__"=pure (some (.builtin id))) (hs:zqb bJ)
  (h:wpAny (model prog w) A (eval value env) (λo s₁=>wpAny (model prog w) A (eval bJ env) (λi s₂=>s₂.TypeIs o T/\wpAny (model prog w) A (getItem o i) Q E s₂) E s₁) E s) :
  wpAny (model prog w) A (eval (.Subscript value bJ pos) env) Q E s:=by
 refine Subscript_ (wpAny_mono h (λo s₁ h₁=>wpAny_mono h₁ (λi s₂ h₂=>?_) λ_ _ x=>x) λ_ _ x=>x);obtain⟨hT,h₂⟩:=h₂;unfold subscriptTail;refine wpAny_bind ?_;rw[getitemInPython_of_ne hT.not_modules];refine wpAny_bind (wpAny_specialOf hT hl ?_);have fin:wpAny (model prog w) A (subscripted bJ false o i) (λr s₃=>wpAny (model prog w) A (letTemporaryGo value o r >>= λ_=>pure r) Q E s₃) E s₂:=by
  rw[hs o i];exact wpAny_operating (wpAny_mono h₂ (λr s₃ h₃=>wpAny_bind (wpAny_letTemporaryGo (wpAny_pure h₃))) λ_ _ x=>x)
 first
  | exact wpAny_pure (wpAny_bind fin)
  | exact wpAny_bind (wpAny_pure (wpAny_bind fin))
  | exact wpAny_bind fin
theorem zcq {X:Cx}{ao:List (Addr×Obj)}{σ:St}{H:Hp}{s:Shared}{a:Addr}{y:V}{o:Option V}(I:Inv X ao σ H s)(g:DGet H a y o):s.TypeIs (.ref a) "dict":=by
 rcases g with ⟨kvs,k,e,_,_⟩ | ⟨kvs,k,b,e,_,_,_⟩
 ·obtain⟨_,_,vs,_,dd⟩:=znf I.hok e;exact dd.typeIs
 ·obtain⟨_,_,xs,_,dd⟩:=zm1 I.hok e;exact dd.typeIs
def zr0 (td ty:TE):TE:=fun σ H Q=>td σ H λx H1=>ty σ H1 λy H2=>∃a v,x = .ref a/\DGet H2 a y (some v)/\Q v H2
section
variable {X:Cx}{o i e value:Expr}{pos b9 tpos:Pos}{td ty tv:TE}
theorem zmu (hu:X.A.units+1<cLine)(ho:PE X o td)(hi:PE X i ty)(hs:zqb i):PE X (.Subscript o i pos) (zr0 td ty):=by
 intro ao s σ H Q I h;refine zmb PySem.F.slot_dict_getitem.lookup hs (thn (ho ao s σ H _ I h) λu s1 ⟨x,H1,I1,rx,q1⟩=>thn (hi ao s1 σ H1 _ I1 q1) λiv s2 ⟨y,H2,I2,ry,a,v,ex,g,q2⟩=>?_);subst ex;obtain rfl:u=Value.ref a:=rx;exact⟨zcq I2 g,zhe hu I2 g ry λw' s3 I3 rw'=>⟨v,H2,I3,rw',q2⟩⟩
end
section
variable {X:Cx}{pos:Pos}
end
structure M1 (X:Cx)(o:Expr)(m:Str)(aU:Pos)(e:Expr)(aO:Pos):Prop where
 base:attributeBase o m X.env (eval o X.env)=eval o X.env
 few:((backTo aO (starEach [e] X.env)).all (λx=>!x.1)&&(backToKw aO (keywordEach [] X.env)).all (λx=>x.1.isSome)
 &&decide (([e]:List Expr).length+([]:List Keyword).length+(if ([]:List Keyword).isEmpty then 0 else 1)<30))=true
 line:(aU.endLine==aO.line)=true
 trees:backTo aO (starEach [e] X.env) = [(false,eval e X.env)]
structure M2 (X:Cx)(o:Expr)(m:Str)(aU:Pos)(e f:Expr)(aO:Pos):Prop where
 base:attributeBase o m X.env (eval o X.env)=eval o X.env
 few:((backTo aO (starEach [e,f] X.env)).all (λx=>!x.1)&&(backToKw aO (keywordEach [] X.env)).all (λx=>x.1.isSome)
 &&decide (([e,f]:List Expr).length+([]:List Keyword).length+(if ([]:List Keyword).isEmpty then 0 else 1)<30))=true
 line:(aU.endLine==aO.line)=true
 trees:backTo aO (starEach [e,f] X.env) = [(false,eval e X.env),(false,eval f X.env)]
section
variable {X:Cx}{ao:List (Addr×Obj)}{σ:St}{H:Hp}{s:Shared}{a:Addr}{y d:V}{u r:Value}{o:Option V}{A:Around}{E:Value->Shared->Prop}
end
section
variable {X:Cx}{o e f:Expr}{aU aO:Pos}{td ty tx:TE}
end
section
variable {X:Cx}{ao:List (Addr×Obj)}{σ:St}{H:Hp}{s:Shared}{a:Addr}{kvs:List (Key×V)}{A:Around}{E:Value->Shared->Prop}
end
section
variable {X:Cx}{ao:List (Addr×Obj)}{σ:St}{H:Hp}{s:Shared}{a:Addr}{y:V}{u:Value}{A:Around}{E:Value->Shared->Prop}
end
end L2
namespace Att
open PySem PySem.W PySem.Calls PyProof.Rows
section
variable {prog:Program}{w:World}{A:Around}{E:Value->Shared->Prop}{s:Shared}{K:Frag}
end
end Att
namespace L2
open PySem PySem.Spec PyProof.Rows
end L2
namespace L2
open PySem PySem.Spec PyProof.Rows
end L2
namespace L2
open PySem PySem.Spec PyProof.Rows
section
variable {P:Program}{w:World}{K:y03}{mg:Str->Option Value}{base:Heap}
end
section
variable {X:Cx}
end
section
variable {κ:Type} [DecidableEq κ]
end
end L2
set_option Elab.async false
set_option linter.all false
set_option maxRecDepth 100000
namespace PySem
theorem z70:typeLookup (.type "list") "keys"=pure none:=by rw[typeLookup_type,builtinLookup_eq_fast];kernel_rfl
theorem zb9:entryFor table "dict.update.loop"=some Builtin.«dict.update.loop»:=entryFor_of_tree (by kernel_rfl)
theorem z60:plainId "dict.update.loop"=true:=by decide +kernel
section
variable {prog:Program}{w:World}{A:Around}{E:Value->Shared->Prop}{s:Shared}
theorem getAttr?_keys_list {a:Addr}{xs:Array Value}{k:Nat}{Q:Option Value->Shared->Prop}(hx:s.heap.get? a=some { cls:=.type "list",data:=.seq xs k })(hA:A.handled=none)
  (h:∀h' tk,(∀b ob,s.heap.get? b=some ob->h'.get? b=some ob)->Q none { s with heap:=h',toks:=tk }) :
  wpAny (model prog w) A (getAttr? (.ref a) "keys") Q E s:=by
 obtain⟨hp,g,d,tk,os⟩:=s;have hT:∀tk',(⟨hp,g,d,tk',os⟩:Shared).TypeIs (.ref a) "list":=λ_=>⟨_,hx,rfl⟩;have f1:=sub_AttributeError
 have f3:=F.slot_list_getattribute.lookup;have f4:=F.slot_list_getattribute.bind (.ref a)
 have f5:=am_list_getattr_none;unfold getAttr? getAttrBy? getAttrBy
 repeat (any_goals (first | assumption | exact hT _ | ((with_reducible show wpAny _ _ (call (Value.builtin "list.__getattribute__") _ _) _ _ _);refine call_meets F.slot_list_getattribute (hT _) am_entry_list_getattribute (F.args_list_getattribute_2 _ _) (meets_getattribute_miss_list a xs k _ "keys" _ z70 (by decide +kernel) (by decide +kernel)) ⟨hx,hA,λh' tk' e hx'=>?_⟩) | wp_step))
 obtain⟨t',u',he⟩:=hx'.there;show wpAny _ _ (getattributeRaised _ _ _ _ _ _ _) _ _ _;unfold getattributeRaised
 repeat (any_goals (first | assumption | wp_step))
 exact h h' tk' hx'.keeps
end
section
variable {prog:Program}{w:World}{K:Type} [DecidableEq K] {knd:KeyKind prog w K}
def za8 (knd:KeyKind prog w K)(h:Heap)(items:Array Value)(ps:List (K×Value)):Prop :=
 items.size=ps.length/\∀(j:Nat) p,ps[j]?=some p->∃t key,items[j]?=some (.ref t)/\h.IsTuple t #[key,p.2]/\knd.is p.1 key=true
def z9w (kvs:List (K×Value))(ps:List (K×Value)):List (K×Value):=ps.foldl (λacc p=>stored acc p.1 p.2) kvs
theorem zf6 (kvs:List (K×Value))(k:K)(v:Value):(stored kvs k v).length≤kvs.length+1:=by
 unfold stored
 split<;>simp
theorem zj3 (d it l:Addr)(items:Array Value)(ps:List (K×Value))(hdi:d≠it)(hdl:d≠l)(hil:it≠l)(n:Nat) :
  ∀(i:Nat) (kvs:List (K×Value)),items.size - i=n->i≤items.size->kvs.length+items.size≤sizeLine+i->∀(A:Around) (R:Result->Shared->Prop) (s:Shared),A.handled=none->s.heap.IsListIter it l i->s.heap.IsList l items->s.heap.DictOf knd d kvs->za8 knd s.heap items ps ->
   (∀(j:Nat) t,items[j]?=some (.ref t)->t≠d/\t≠it) ->
   (∀h' tk,h'.DictOf knd d (z9w kvs (ps.drop i))->(∀b o,b≠d->b≠it->s.heap.get? b=some o->h'.get? b=some o)->R (.ok (.ret .none)) { s with heap:=h',toks:=tk }) ->
   wpAny (model prog w) A.in1 (Builtin.«dict.update.loop» ⟨[.ref d,.ref it,rawInt i,.none],[]⟩)
    (λfin s'=>match fin with
     | .done f=>R (.ok f) s'
     | .again c'=>c'.quiet=true/\codeAny (model prog w) A c' R s') (λe s'=>R (.error e) s') s:=by
 induction n with
 | zero =>
  intro i kvs hn hi hz A R s hA hit hl hd hp ht hq;unfold Builtin.«dict.update.loop»;have e:i=items.size:=by lia
  subst e;refine wpAny_bind (wpAny_pyNext_list_end (show A.in1.handled=none from hA) hit hl (by simp) λh' eb=>?_)
  refine wpAny_bind (m:=Builtin.Dict.addKeywords d []) (wpAny_of_eq (a:=()) (by first | rfl | (unfold Builtin.Dict.addKeywords;rfl)) ?_)
  refine wpAny_pure ?_;have e1:ps.drop items.size = []:=y47 (by rw[hp.1];exact y0b _)
  rw[e1] at hq;have hd':h'.DictOf knd d kvs:=by
   obtain⟨o,es,ep,ho,r⟩:=hd;exact⟨o,es,ep,eb d o hdi ho,r⟩
  exact hq h' s.toks hd' λb o _ hb ho=>eb b o hb ho
 | succ n ih =>
  intro i kvs hn hi hz A R s hA hit hl hd hp ht hq;unfold Builtin.«dict.update.loop»;have hlt:i<items.size:=by lia
  have hpi:ps[i]?=some (ps[i]'(by rw[←hp.1];exact hlt)):=y01 _
  generalize ps[i]'(by rw[←hp.1];exact hlt)=p at hpi
  obtain⟨t,key,h1,h2,h3⟩:=hp.2 i p hpi;refine wpAny_bind (wpAny_pyNext_list_item hit hl h1 λh' hit' sb=>?_);have tne:=ht i t h1;have keep:∀b o,b≠it->s.heap.get? b=some o->h'.get? b=some o:=λb o hb ho=>(sb.2 b hb).trans ho
  obtain⟨ot,hot,hct,nt,hdt⟩:=h2;have hot':h'.get? t=some ot:=keep t ot tne.2 hot;refine wpAny_bind (wpAny_holding ?_);refine wpAny_bind (wpAny_tryCatch ?_);unfold Builtin.Dict.pairItems;refine wpAny_bind (wpAny_typeOf (T:="tuple") ⟨_,hot',hct⟩ ?_);rw[if_pos (by decide)]
  refine wpAny_bind (wpAny_seqItems hot' hdt ?_);refine wpAny_pure ?_;show wpAny _ _ (holding [key,p.2] (dictSet d key p.2)) _ _ _;have hd1:h'.DictOf knd d kvs:=by
   obtain⟨o,es,ep,ho,r⟩:=hd;exact⟨o,es,ep,keep d o hdi ho,r⟩
  refine wpAny_holding (wpAny_dictSet_pairs h3 hd1 (λh2 hd2 sb2=>?_) (by lia))
  have keep2:∀b o,b≠d->b≠it->s.heap.get? b=some o->h2.get? b=some o:=λb o hb hb2 ho=>(sb2.2 b hb).trans (keep b o hb2 ho);have hit2:h2.IsListIter it l (i+1):=hit'.at λo ho=>(sb2.2 it (Ne.symm hdi)).trans ho
  have hl2:h2.IsList l items:=hl.at λo ho=>keep2 l o (Ne.symm hdl) (Ne.symm hil) ho;have hp2:za8 knd h2 items ps:=⟨hp.1,λj q hj=>by
   obtain⟨t',k',g1,g2,g3⟩:=hp.2 j q hj;have:=ht j t' g1;exact⟨t',k',g1,g2.at λo ho=>keep2 t' o this.1 this.2 ho,g3⟩⟩
  have hlen:=zf6 kvs p.1 p.2;refine wpAny_pure ⟨plainId_quiet z60 _,codeAny_builtin zb9 ?_⟩;rw[Around.under_plainId z60 _];have hc:((i:Int)+1)=((i+1:Nat):Int):=by push_cast;rfl
  rw[hc];refine ih (i+1) (stored kvs p.1 p.2) (by lia) (by lia) (by lia) A R _ hA hit2 hl2 hd2 hp2 ht λh3 tk hd3 k3=>?_
  ·have e:z9w kvs (ps.drop i)=z9w (stored kvs p.1 p.2) (ps.drop (i+1)):=by
    obtain⟨g1,g2⟩:=y00.mp hpi;rw[List.drop_eq_getElem_cons g1,g2];rfl
   rw[e] at hq;exact hq h3 tk hd3 λb o hb hb2 ho=>k3 b o hb hb2 (keep2 b o hb hb2 ho)
theorem z8c {A:Around}{E:Value->Shared->Prop}{s:Shared}{l:Addr}{items:Array Value}{n:Nat}{ps:List (K×Value)}{Q:Value->Shared->Prop}(hA:A.handled=none)(hl:s.heap.get? l=some { cls:=.type "list",data:=.seq items n })(hp:za8 knd s.heap items ps)(hz:items.size≤sizeLine)
  (h:∀h' tk,h'.DictOf knd s.heap.objs.size (z9w [] ps)->(∀b o,s.heap.get? b=some o->h'.get? b=some o)->Q (.ref s.heap.objs.size) { s with heap:=h',toks:=tk }) :
  wpAny (model prog w) A (call (.type "dict") [.ref l]) Q E s:=by
 refine callType_codes (Q₁:=λobj s₁=>obj = .ref s.heap.objs.size/\s₁ = { s with heap:=s.heap.push { cls:=.type "dict",data:=.dict #[] } }) F.kt_called_dict (F.kt_typeCall_dict_1 _) F.entry_dict_init (kt_code_dict_new _ ⟨rfl,rfl⟩) ?_
 rintro obj s₁ ⟨rfl,rfl⟩;have hnew:(s.heap.push { cls:=.type "dict",data:=.dict #[] }).DictOf knd s.heap.objs.size []:=Heap.DictOf.new s.heap;refine⟨hnew.typeIs,F.args_dict_init_2 _ _,?_⟩;unfold Builtin.«dict.__init__»;refine wpAny_bind ?_;unfold Builtin.Dict.selfAndRest;refine wpAny_bind (wpAny_notOrdered_dict hnew.typeIs ?_);show wpAny _ _ (pure (s.heap.objs.size,[Value.ref l])) _ _ _;refine wpAny_pure ?_;show wpAny _ _ (Builtin.Dict.updateFrom "dict.__init__" s.heap.objs.size (.ref l) [] .none) _ _ _;unfold Builtin.Dict.updateFrom;have hl1:(s.heap.push { cls:=.type "dict",data:=.dict #[] }).get? l=some { cls:=.type "list",data:=.seq items n }:=Heap.get?_push_of_some _ hl
 refine wpAny_bind (wpAny_typeOf (T:="list") ⟨_,hl1,rfl⟩ ?_);rw[if_pos (by decide)]
 refine wpAny_bind (getAttr?_keys_list hl1 (by first | exact hA | (show _=none;exact hA)) λh2 tk2 k2=>?_)
 rw[if_pos (show(none:Option Value).isNone=true from rfl)]
 refine wpAny_bind (wpAny_rule ?_);have hl2:h2.get? l=some { cls:=.type "list",data:=.seq items n }:=k2 _ _ hl1;have isl2:h2.IsList l items:=⟨_,hl2,rfl,n,rfl⟩
 refine wpAny_bind (wpAny_pyIter_list isl2 ?_);refine wpAny_pure ⟨plainId_quiet z60 _,codeAny_builtin zb9 ?_⟩;rw[Around.under_plainId z60 _];have hsz:s.heap.objs.size<h2.objs.size:=by
  obtain⟨o,es,ep,ho,r⟩:=hnew;exact Heap.lt_size (k2 _ _ ho)
 have hd2:(h2.push { cls:=.type "list_iterator",data:=.fields #[.ref l,.int 0 0] }).DictOf knd s.heap.objs.size []:=by
  obtain⟨o,es,ep,ho,r⟩:=hnew;exact⟨o,es,ep,Heap.get?_push_of_some _ (k2 _ _ ho),r⟩
 have old:∀b o,s.heap.get? b=some o->(h2.push { cls:=.type "list_iterator",data:=.fields #[.ref l,.int 0 0] }).get? b=some o:=λb o ho=>Heap.get?_push_of_some _ (k2 _ _ (Heap.get?_push_of_some _ ho));have low:∀b o,s.heap.get? b=some o->b<s.heap.objs.size:=λb o ho=>Heap.lt_size ho
 have llt:=low _ _ hl;refine zj3 s.heap.objs.size h2.objs.size l items ps (y0p hsz) (y36 llt) (y36 (y62 llt hsz)) _ 0 [] rfl (y25 _) (by simpa using hz) A.in1 _ _ hA ⟨_,Heap.get?_push_size _ rfl,rfl,rfl⟩ (isl2.at λo ho=>Heap.get?_push_of_some _ ho) hd2 ⟨hp.1,λj p hj=>?_⟩ (λj t hj=>?_) λh3 tk hd3 k3=>?_
 ·obtain⟨t,key,g1,g2,g3⟩:=hp.2 j p hj;exact⟨t,key,g1,g2.at λo ho=>old t o ho,g3⟩
 ·have hjs:j<items.size:=(Array.getElem?_eq_some_iff.mp hj).1;obtain⟨t',key,g1,g2,g3⟩:=hp.2 j _ (y01 (show j<ps.length by rw[←hp.1];exact hjs))
  rw[hj] at g1;cases g1;obtain⟨o,ho,_⟩:=g2;have:=low _ _ ho;exact⟨y0p this,y0p (y62 this hsz)⟩
 ·refine⟨rfl,h h3 tk hd3 λb o ho=>k3 b o (y0p (low _ _ ho)) (y0p (y62 (low _ _ ho) hsz)) (old b o ho)⟩
end
end PySem
set_option linter.all false
namespace My
theorem zsb (a b:Int):∃q1 q2:Int,a=(y22 a b:Nat)*q1/\b=(y22 a b:Nat)*q2:=by
 obtain⟨q1,h1⟩:=Int.gcd_dvd_left (a:=a) (b:=b);obtain⟨q2,h2⟩:=Int.gcd_dvd_right (a:=a) (b:=b);exact⟨q1,q2,h1,h2⟩
theorem zs7 {g q1 q2:Int}(hg:0<g)(h:(y22 (g*q1) (g*q2):Int)=g):y22 q1 q2=1:=by
 rw[Int.gcd_mul_left] at h
 push_cast at h
 have h1:((g.natAbs:Nat):Int)=g:=by lia
 rw[h1] at h;have h2:g*((y22 q1 q2:Nat):Int)=g*1:=by rw[h,y4s]
 have:=Int.eq_of_mul_eq_mul_left (by lia) h2
 lia
theorem zs8 {a b:Int}(hb:b≠0):(0:Int)<(y22 a b:Nat):=by
 have:0<y22 a b:=Int.gcd_pos_of_ne_zero_right a hb;lia
theorem z7t {a b j:Int}(hb:b≠0)(hj:j=if b<0 then -((y22 a b:Nat):Int) else (y22 a b:Nat)):j≠0/\j.natAbs≤b.natAbs/\1≤b.fdiv j/\y22 (a.fdiv j) (b.fdiv j)=1/\a.fdiv j*b=a*b.fdiv j:=by
 obtain⟨q1,q2,h1,h2⟩:=zsb a b;have hg:=zs8 (a:=a) hb;generalize hG:((y22 a b:Nat):Int)=g at *
 have one:y22 q1 q2=1:=zs7 hg (by rw[←h1,←h2];exact hG)
 have q20:q2≠0:=by
  rintro rfl;simp at h2;exact hb h2
 by_cases hn:b<0
 ·rw[if_pos hn] at hj;subst hj;have e1:a = -g * -q1:=by rw[y7f];exact h1
  have e2:b = -g * -q2:=by rw[y7f];exact h2
  have f1:a.fdiv (-g) = -q1:=by
   conv=>lhs;rw[e1]
   exact y3d _ (by lia)
  have f2:b.fdiv (-g) = -q2:=by
   conv=>lhs;rw[e2]
   exact y3d _ (by lia)
  have q2n:q2<0:=by
   rcases y2t q2 0 with z | z
   ·exact z
   ·have:=y2g (y2e hg) z;lia
  refine⟨by lia,?_,by lia,?_,?_⟩
  ·rw[h2,y4e,Int.natAbs_neg];exact y5n _ (by lia)
  ·rw[f1,f2,Int.gcd_neg,Int.neg_gcd];exact one
  ·rw[f1,f2,h2,h1,y7e,Int.mul_neg,y28 g q1,y2r,y6x]
 ·rw[if_neg hn] at hj;subst hj;have f1:a.fdiv j=q1:=by
   conv=>lhs;rw[h1]
   exact y3d _ (by lia)
  have f2:b.fdiv j=q2:=by
   conv=>lhs;rw[h2]
   exact y3d _ (by lia)
  have q2p:0<q2:=by
   rcases y2t 0 q2 with z | z
   ·exact z
   ·have:=y2g (y2e hg) (show 0≤-q2 by lia)
    rw[Int.mul_neg] at this;lia
  refine⟨by lia,?_,by lia,?_,?_⟩
  ·rw[h2,y4e];exact y5n _ (by lia)
  ·rw[f1,f2];exact one
  ·rw[f1,f2,h2,h1];simp[y28,y6x,y2r]
theorem zg9 {d n b:Int}(h:y22 n d=1)(k:d∣n*b):d∣b:=by
 have k':d.natAbs∣n.natAbs*b.natAbs:=by
  rw[←y4e];exact y2u.mpr k
 have c:Nat.Coprime d.natAbs n.natAbs:=by
  show Nat.gcd _ _=1;rw[y72];exact h
 exact y2u.mp (c.dvd_of_dvd_mul_left k')
theorem zag {n d a b:Int}(h:y22 n d=1)(e:n*b=a*d):d∣b/\n∣a:=by
 constructor
 ·exact zg9 h ⟨a,by rw[e,y28]⟩
 ·exact zg9 (n:=d) (by rw[y73];exact h) ⟨b,by rw[e,y28]⟩
theorem zif {n d a b:Int}(h:y22 n d=1)(hb:b≠0)(e:n*b=a*d):n.natAbs≤a.natAbs/\d.natAbs≤b.natAbs:=by
 obtain⟨h1,h2⟩:=zag h e;refine⟨?_,y7s (by lia) (y2u.mpr h1)⟩
 by_cases ha:a=0
 ·subst ha;rw[y3y] at e;rcases Int.mul_eq_zero.mp e with z | z
  ·rw[z];exact y0b _
  ·exact absurd z hb
 ·exact y7s (by lia) (y2u.mpr h2)
end My
set_option Elab.async false
set_option linter.all false
set_option maxRecDepth 100000
namespace My
open PySem L2 L2.EX
structure Blt (mg:Str->Option Value):Prop where
 abs:mg "abs"=none
 any:mg "any"=none
 bool:mg "bool"=none
 dict:mg "dict"=none
 enumerate:mg "enumerate"=none
 int:mg "int"=none
 isinstance:mg "isinstance"=none
 len:mg "len"=none
 list:mg "list"=none
 max:mg "max"=none
 min:mg "min"=none
 range:mg "range"=none
 reversed:mg "reversed"=none
 sorted:mg "sorted"=none
 str:mg "str"=none
 sum:mg "sum"=none
 tuple:mg "tuple"=none
 zip:mg "zip"=none
def spG:Sp:=λvs H Q _=>match vs with
 | [.int a,.int b]=>Q (.int (y22 a b:Nat)) H
 | _=>False
def z82 (K:y03):Sp:=λvs H Q _=>match vs with
 | [.ref a,.int k]=>∃ns:List Int,SqL K H a (ns.map V.int)/\0≤k/\Q (.int (ns.getD k.toNat 0)) H
 | _=>False
def zeg:Sp:=λvs H Q _=>match vs with
 | [.int _]=>∀z:Int,-(10^60)≤z->z≤10^60->Q (.int z) H
 | _=>False
def z3z:Sp:=λvs H Q _=>match vs with
 | [.int _]=>Q (.bl true) H
 | [.bl _]=>Q (.bl false) H
 | _=>False
def z40:Sp:=λvs H Q _=>match vs with
 | [.int _,.int k]=>0≤k/\k≤100/\∀z:Int,0≤z->Q (.int z) H
 | _=>False
def zl5:Sp:=λvs H Q _=>match vs with
 | [.int _,.int _]=>∀H',Same H H'->Q (.bl true) H'
 | _=>False
theorem zeq {g l:Int}(hg:0≤g)(hl:0<l):y22 l (g % l)=y22 g l:=by
 obtain⟨a,rfl⟩:=y1p hg;obtain⟨b,rfl⟩:=y1p (y2e hl);rw[←Int.natCast_emod];show Nat.gcd b (a % b)=Nat.gcd a b;rw[y72 a b,Nat.gcd_rec b a,y72]
theorem zhj (a b:Int):y22 (if a<0 then -a else a) (if b<0 then -b else b)=y22 a b:=by
 by_cases h1:a<0<;>by_cases h2:b<0<;>simp[h1,h2,Int.gcd_neg,Int.neg_gcd]
theorem zb2 (a:Int):0≤(if a<0 then -a else a):=by split<;>lia
theorem zdz {g:Int}(hg:0≤g):((y22 g 0:Nat):Int)=g:=by rw[Int.gcd_zero_right];lia
theorem zlu {ns:List Int}{k:Int}(h0:0≤k)(h:k<((ns.map V.int).length:Nat)):atI (ns.map V.int) k=some (.int (ns.getD k.toNat 0)):=by
 rw[y04] at h;have hk:k.toNat<ns.length:=by lia
 have e:k=((k.toNat:Nat):Int):=by lia
 rw[e];refine z24 ?_;rw[y06,y01 (by lia),y05,y01 (by lia)]
 rfl
theorem zem {r:Int}(h0:0≤r)(h1:r<2147483629):Bd 40 r:=by
 show r.natAbs<2^40;have:(2:Nat)^40=1099511627776:=by decide
 lia
theorem _root_.L2.EX.Bd.mul {m n:Nat}{x y:Int}(hx:Bd m x)(hy:Bd n y):Bd (m+n) (x*y):=by
 show(x*y).natAbs<2^(m+n);rw[y4e,y7g];exact Nat.mul_lt_mul'' hx hy
theorem _root_.L2.EX.Bd.add {m n k:Nat}{x y:Int}(hx:Bd m x)(hy:Bd n y)(h1:m<k)(h2:n<k):Bd k (x+y):=by
 have a:Bd (k - 1) x:=hx.le (by lia)
 have b:Bd (k - 1) y:=hy.le (by lia)
 show(x+y).natAbs<2^k;have a':x.natAbs<2^(k - 1):=a;have b':y.natAbs<2^(k - 1):=b
 have e:2^k=2^(k - 1)+2^(k - 1):=by
  have:k=(k - 1)+1:=by lia
  conv=>lhs;rw[this,Nat.pow_succ]
  lia
 have:=y5f x y;lia
theorem _root_.L2.EX.Bd.of_le {m:Nat}{x y:Int}(hy:Bd m y)(h:x.natAbs≤y.natAbs):Bd m x:=y2v h hy
def Res (K:y03)(H:Hp)(Q:VK)(d:PyData):Prop:=∀v H',Same H H'->Is K H' v d->Q v H'
theorem Res.new_tup {K:y03}{H:Hp}{Q:VK}{ds:List PyData}{xs:List V}(h:Res K H Q (.tuple ds))(al:IsAll K H xs ds):∀p,H p=none->Q (.ref p) (upd H p (.tup xs)):=λp hp =>
 h _ _ (z04 hp _) (is_tuple.mpr ⟨p,xs,rfl,z01,IsAll.same (z04 hp _) _ _ al⟩)
theorem Res.ints2 {K:y03}{H:Hp}{Q:VK}{n d:Int}(h:Res K H Q (z3l n d)):∀p,H p=none->Q (.ref p) (upd H p (.tup [.int n,.int d])):=Res.new_tup h (z35 [n,d])
def zbb (K:y03):Sp:=λvs H Q _=>∃a b:Int,vs = [.int a,.int b]/\b≠0/\Bd 9000 b/\∀n d:Int,1≤d->y22 n d=1->n*b=a*d->Res K H Q (z3l n d)
def znn (K:y03)(top:Int->Int->Int->Int->Int):Sp:=λvs H Q _=>∃(x y:V) (a b c d:Int),vs = [x,y]/\Is K H x (z3l a b)/\Is K H y (z3l c d)/\b≠0/\d≠0/\Bd 2000 a/\Bd 2000 b/\Bd 2000 c/\Bd 2000 d /\
 ∀n e:Int,1≤e->y22 n e=1->n*(b*d)=top a b c d*e->Res K H Q (z3l n e)
def zhr (K:y03):Sp:=λvs H Q _=>∃(x y:V) (a b c d:Int),vs = [x,y]/\Is K H x (z3l a b)/\Is K H y (z3l c d)/\Bd 100000 a/\Bd 100000 b/\Bd 100000 c/\Bd 100000 d/\Q (.bl (decide (a*d<c*b))) H
def ze5 (K:y03):Sp:=λvs H Q _=>∃(x:V) (n d:Int),vs = [x]/\Is K H x (z3l n d)/\1≤d/\y22 n d=1/\Q (.bl true) H
theorem zpy {b j:Int}(hb:Bd 9000 b)(h:j.natAbs≤b.natAbs)(h0:j≠0):j.natAbs.log2<9000:=zo3 (hb.of_le h) (y0b _) h0
def del (H:Hp)(l:Addr):Hp:=λb=>if b=l then none else H b
theorem z8l {H:Hp}{l b:Addr}(h:b≠l):del H l b=H b:=by unfold del;rw[if_neg h]
theorem z2z {H:Hp}{l:Addr}{o:HO}:del (upd H l o) l=del H l:=by
 funext b;unfold del upd
 split<;>rfl
theorem z5f {H H':Hp}{l:Addr}(s:Same H H'):Same (del H l) (del H' l):=λb o h=>by
 unfold del at h ⊢
 split at h
 ·cases h
 ·rename_i hb;rw[if_neg hb];exact s b o h
theorem del_sub {H:Hp}{l:Addr}:Same (del H l) H:=λb o h=>by
 unfold del at h
 split at h
 ·cases h
 ·exact h
theorem zao {H:Hp}{l:Addr}(h:H l=none):Same H (del H l):=λb o q=>by
 rw[z8l (z08 q h)];exact q
structure Grow (K:y03)(H H':Hp)(l:Addr)(vs:List V)(ds:List PyData):Prop where
 old:Same H (del H' l)
 here:H' l=some (.lst vs)
 all:IsAll K (del H' l) vs ds
theorem Grow.start {K:y03}{H:Hp}{l:Addr}(h:H l=none):Grow K H (upd H l (.lst [])) l [] []:=⟨by rw[z2z];exact zao h,z01,z0r⟩
theorem Grow.more {K:y03}{H H' H'':Hp}{l:Addr}{vs:List V}{ds:List PyData}(g:Grow K H H' l vs ds)(s:Same H' H''):Grow K H H'' l vs ds:=⟨g.old.trans (z5f s),s _ _ g.here,IsAll.same (z5f s) _ _ g.all⟩
theorem Grow.is {K:y03}{H H':Hp}{l:Addr}{vs:List V}{ds:List PyData}(g:Grow K H H' l vs ds):Is K H' (.ref l) (.list ds):=is_list.mpr ⟨l,vs,rfl,g.here,IsAll.same del_sub _ _ g.all⟩
theorem Grow.same {K:y03}{H H':Hp}{l:Addr}{vs:List V}{ds:List PyData}(g:Grow K H H' l vs ds):Same H H':=g.old.trans del_sub
theorem ze6 {K:y03}{H:Hp}{l:Addr}{xs:List V}{v:V}{n d:Int}(h:Is K H v (z3l n d))(hl:H l=some (.lst xs)):Is K (del H l) v (z3l n d):=by
 obtain⟨a,rfl,ha⟩:=is_frac.mp h;refine is_frac.mpr ⟨a,rfl,?_⟩;rw[z8l (z6q ha hl (by intro z;cases z))]
 exact ha
theorem zcl (xs:List V)(m:Nat):zfs xs none (some (m:Int))=xs.take m:=by
 unfold zfs;rw[HT.sIx_none,HT.sIx_nat,List.drop_zero,Nat.sub_zero];rcases y3x m xs.length with h | h
 ·rw[y7h (by lia)]
 ·rw[y79 h,y0c (y0b _),y0c h]
theorem zh9 (xs:List V)(m:Nat):zfs xs (some (m:Int)) none=xs.drop m:=by
 unfold zfs;rw[HT.sIx_none,HT.sIx_nat];rcases y3x m xs.length with h | h
 ·rw[y7h (by lia),y0c (by simp)]
 ·rw[y79 h,y47 (y0b _),y47 h];simp
def z5j (ps:List (Int×Int)):PyData:=.list (ps.map λp=>z3l p.1 p.2)
theorem za6 {n:Nat}(ps:List (Int×Int)):Sh (n+2) (z5j ps):=z54 λd hd=>by
 obtain⟨p,_,rfl⟩:=y1i.mp hd;exact za5 _ _
theorem zah {K:y03}{H:Hp}{ps:List (Int×Int)}{xs:List V}{i:Nat}{x:V}(al:IsAll K H xs (ps.map λp=>z3l p.1 p.2))(h:xs[i]?=some x):∃(p:Int×Int) (a:Addr),ps[i]?=some p/\x = .ref a/\H a=some (.tup [.int p.1,.int p.2]):=by
 obtain⟨d,h1,h2⟩:=z4r al h;rw[y06] at h1;cases q:ps[i]? with
 | none=>rw[q] at h1;cases h1
 | some p =>
  rw[q] at h1;cases h1;obtain⟨a,rfl,ha⟩:=is_frac.mp h2;exact⟨p,a,rfl,rfl,ha⟩
def qs (ps:List (Int×Int)):Int×Int:=ps.foldl (λs p=>(s.1*p.2+p.1*s.2,s.2*p.2)) (0,1)
def Low (p:Int×Int):Prop:=1≤p.2/\y22 p.1 p.2=1
theorem z0h {α:Type}{l:List α}{i:Nat}{x:α}(h:l[i]?=some x):l.take (i+1)=l.take i ++ [x]:=by
 have hi:=(y00.mp h).1;rw[←y5d hi,(y00.mp h).2]
theorem cgo {J:It}{g:TG}{tt:TT}{te:TE}{σ0 σ':St}{Q:VK}{H:Hp}(e:σ0 = σ')(h:z6n J g tt te σ' Q H):z6n J g tt te σ0 Q H:=e▸h
def zpd (b:Nat):Sp:=λvs H Q _=>match vs with
 | [.int _]=>∀z:Int,0≤z->z<10^b->Q (.int z) H
 | _=>False
end My
set_option Elab.async false
set_option linter.all false
set_option maxRecDepth 100000
namespace L2.EX
open PySem PySem.Spec PyProof.Rows
section
variable {X:Cx}{ao:List (Addr×Obj)}{σ:St}{H:Hp}{s:Shared}
def z3t (kvs:List (Key×V))(ps:List (Key×V)):List (Key×V):=ps.foldl (λacc p=>zh3 acc p.1 p.2) kvs
theorem z8e:∀{ps:List (Key×V)} {qs:List (Key×Value)} {kvs:List (Key×V)} {vs:List (Key×Value)},KV ps qs->KV kvs vs->KV (z3t kvs ps) (z9w vs qs)
 | [],qs,kvs,vs,h,r=>by
  cases h;exact r
 | p::ps,qs,kvs,vs,h,r=>by
  cases h with
  | cons h1 h2 =>
   rename_i q qs;show KV (z3t (zh3 kvs p.1 p.2) ps) (z9w (stored vs q.1 q.2) qs);rw[←h1.1];exact z8e h2 (r.put p.1 h1.2)
theorem zjf (kvs:List (Key×V))(k:Key)(v:V):(zh3 kvs k v).length≤kvs.length+1:=by
 unfold zh3
 split<;>simp
theorem z8u:∀(ps kvs:List (Key×V)),(z3t kvs ps).length≤kvs.length+ps.length
 | [],kvs=>by simp[z3t]
 | p::ps,kvs=>by
  have a:=z8u ps (zh3 kvs p.1 p.2);have b:=zjf kvs p.1 p.2
  show(z3t (zh3 kvs p.1 p.2) ps).length≤_;simp;lia
theorem zei (I:Inv X ao σ H s):∀{ps:List (Key×V)} {ts:List Addr},ts.length=ps.length->(∀(j:Nat) t p,ts[j]?=some t->ps[j]?=some p->H t=some (.tup [kV p.1,p.2])) ->
  ∃qs:List (Key×Value),KV ps qs/\∀(j:Nat) q,qs[j]?=some q->∃t key,ts[j]?=some t/\s.heap.IsTuple t #[key,q.2]/\zdd q.1 key=true
 | [],ts,_,_=>⟨[],.nil,λj q hj=>by simp at hj⟩
 | p::ps,[],h,_=>by simp at h
 | p::ps,t::ts,hl,h=>by
  obtain⟨qs,r,f⟩:=zei I (ps:=ps) (ts:=ts) (by simpa using hl) λj t' p' h1 h2=>h (j+1) t' p' (by simpa using h1) (by simpa using h2)
  have h0:=h 0 t p rfl rfl;obtain⟨its,rv,pt,_⟩:=I.tuple (SqT.of h0);obtain⟨u1,u2,rfl,r1,r2⟩:=rv.two;refine⟨(p.1,u2)::qs,.cons ⟨rfl,r2⟩ r,λj q hj=>?_⟩;cases j with
  | zero =>
   simp at hj;subst hj;exact⟨t,u1,rfl,pt,zj8 (P:=X.prog) (w:=X.w) r1⟩
  | succ j =>
   obtain⟨t',key,g1,g2,g3⟩:=f j q (by simpa using hj)
   exact⟨t',key,by simpa using g1,g2,g3⟩
@[reducible] def zpb (xs:List V)(H:Hp)(Q:VK):Prop:=match xs with
 | [.ref l]=>∃(ts:List Addr) (ps:List (Key×V)),H l=some (.lst (ts.map V.ref))/\ts.length=ps.length/\(∀(j:Nat) t p,ts[j]?=some t->ps[j]?=some p->H t=some (.tup [kV p.1,p.2]))/\∀d,H d=none->Q (.ref d) (upd H d (.dK (z3t [] ps)))
 | _=>False
theorem zn7 (hc:X.calm=true:=by rfl):z4i X (.type "dict") zpb:=by
 intro ao s σ H xs us Q I r h;unfold zpb at h
 split at h
 ·rename_i l;obtain⟨ts,ps,hl,hlen,ht,q⟩:=h;obtain⟨u,rfl,rx⟩:=z7l r;cases rx;obtain⟨z,its,n,rv,hll,e⟩:=I.lstM hl;obtain⟨qs,rk,f⟩:=zei I hlen ht;have hkl:=rk.length;rw[y04] at hll z;have hp:za8 (z3f X.prog X.w) s.heap its.toArray qs:=⟨by rw[y0h];lia,λj p hj=>by
   obtain⟨t,key,g1,g2,g3⟩:=f j p hj;obtain⟨u,hu,ru⟩:=rv.get (i:=j) (x:=.ref t) (by rw[y06,g1];rfl)
   cases ru;exact⟨t,key,by simpa using hu,g2,g3⟩⟩
  refine z8c (knd:=z3f X.prog X.w) (I.ok.hd hc) e hp (by rw[y0h];lia) λh' tk hd kp=>?_
  have hlen2:=z8u ps [];simp at hlen2;refine⟨.ref s.heap.objs.size,_,I.laid kp (y0b _) (show ObjOk X.prog X.w _ h' _ (.dK (z3t [] ps)) from ⟨by lia,?_,_,z8e rk .nil,hd⟩),rfl,q _ (I.hok.fresh (y0b _))⟩
  exact beq_eq_false_iff_ne.mpr (y36 I.big)
 ·exact h.elim
@[reducible] def zrn (x y:V)(H:Hp)(Q:VK):Prop:=match x,y with
 | .int n,.ref d=>∃kvs,H d=some (.dK kvs)/\Q (.bl (zcb kvs (.inl n)).isSome) H
 | .str n,.ref d=>∃kvs,H d=some (.dK kvs)/\Q (.bl (zcb kvs (.inr n)).isSome) H
 | _,_=>False
theorem hu1 {k:Nat}{A:Around}(hr:Room k A):A.units+1<cLine:=by have:=zq4 hr;lia
theorem zny {k:Nat}(hr:Room k X.A):OpR X (compareOp .In) zrn:=by
 intro ao s σ H x y v u Q I rx ry h;unfold zrn at h
 split at h
 ·rename_i n d;obtain⟨kvs,hd,q⟩:=h;cases ry;exact zrp (hu1 hr) I (DGet.k (k:=.inl n) hd) rx λs3 I3=>⟨.bl _,H,I3,rfl,q⟩
 ·rename_i n d;obtain⟨kvs,hd,q⟩:=h;cases ry;exact zrp (hu1 hr) I (DGet.k (k:=.inr n) hd) rx λs3 I3=>⟨.bl _,H,I3,rfl,q⟩
 ·exact h.elim
@[reducible] def zpi (x y:V)(H:Hp)(Q:VK):Prop:=match x,y with
 | .ref d,.int n=>∃kvs v,H d=some (.dK kvs)/\zcb kvs (.inl n)=some v/\Q v H
 | .ref d,.str n=>∃kvs v,H d=some (.dK kvs)/\zcb kvs (.inr n)=some v/\Q v H
 | _,_=>False
theorem zls {k:Nat}(hr:Room k X.A){o i:Expr}{td ty:TE}{pos:Pos}(ho:PE X o td)(hi:PE X i ty)(hs:zqb i):PE X (.Subscript o i pos) (tOp zpi td ty) :=
 z57 (zmu (hu1 hr) (z1p ho) (z1p hi) hs) fun σ H Q h=>⟨_,h,λx H1 q1=>⟨_,q1,λy H2 q2=>by
  unfold zpi at q2
  split at q2
  ·obtain⟨kvs,v,h1,h2,h3⟩:=q2;exact⟨_,v,rfl,by rw[←h2];exact DGet.k (k:=.inl _) h1,h3⟩
  ·obtain⟨kvs,v,h1,h2,h3⟩:=q2;exact⟨_,v,rfl,by rw[←h2];exact DGet.k (k:=.inr _) h1,h3⟩
  ·exact q2.elim⟩⟩
end
end L2.EX
set_option Elab.async false
set_option linter.all false
set_option maxRecDepth 100000
namespace L2.EX
open PySem PySem.Spec PyProof.Rows
section
variable {X:Cx}{e:Expr}{te:TE}{p p2 pos cq:Pos}
def zd4 (te:TE)(σ:St)(H:Hp)(Q:VK):Prop:=te σ H λx H1=>match x with
 | .int j=>(0≤j/\j≤1000)/\∀l,H1 l=none->Q (.ref l) (upd H1 l (.lst ((y0f j.toNat).map λ(i:Nat)=>V.int (i:Int))))
 | _=>False
theorem zco {j:Int}(h0:0≤j)(h1:j≤1000):Builtin.Range.small 0 j 1=true:=zje (by decide) (by decide) (by lia) (by lia) (by decide) (by decide)
theorem zcr {j:Int}(h0:0≤j):Builtin.Range.rangeSize 0 j 1=(j.toNat:Int):=by
 unfold Builtin.Range.rangeSize;rw[if_pos (by decide)]
 split
 ·have:(j - 0 - 1) / 1=j - 1:=by rw[Int.ediv_one];lia
  lia
 ·lia
theorem zas (hl:X.mg "list"=none)(hm:X.mg "range"=none)(he:PE X e te)(hg:Gl X "list":=by rfl)(hg2:Gl X "range":=by rfl)
  (hs:starEach [Expr.Call (.Name "range" p2) [e] [] cq] X.env = [(false,eval (Expr.Call (.Name "range" p2) [e] [] cq) X.env)]:=by rfl) (hs2:starEach [e] X.env = [(false,eval e X.env)]:=by rfl) (hc:X.calm=true:=by rfl) :
  PE X (.Call (.Name "list" p) [.Call (.Name "range" p2) [e] [] cq] [] pos) (zd4 te):=by
 intro ao s σ H Q I h;refine wpAny_Call_Name_kw (z51 I hg hl z4z ?_);refine y1n ?_ hs rfl;rw[hs];show wpAny _ _ (spliced [(false,eval (Expr.Call (.Name "range" p2) [e] [] cq) X.env)]) _ _ s;refine Calls.spliced_cons ?_;refine wpAny_Call_Name_kw (z51 I hg2 hm boot_range (y1n (thn ((z00 (z1p he) z03 hs2) cq ao s σ H (λvs H1=>∃x,vs = [x]/\(match x with
  | .int j=>(0≤j/\j≤1000)/\∀l,H1 l=none->Q (.ref l) (upd H1 l (.lst ((y0f j.toNat).map λ(i:Nat)=>V.int (i:Int))))
  | _=>False)) I ⟨_,h,λv H1 q=>⟨v,rfl,q⟩⟩) λus s1 h1=>?_) hs2 rfl))
 obtain⟨vs,H1,I1,r1,x,rfl,q1⟩:=h1;obtain⟨u,rfl,rx⟩:=z7l r1
 split at q1
 ·rename_i j;obtain⟨t,rfl⟩:=rx;obtain⟨⟨j0,j1⟩,q⟩:=q1;refine call_range_1 ?_;refine Calls.spliced_nil ?_;have I2:Inv X ao σ H1 { s1 with heap:=s1.heap.push { cls:=.type "range",data:=.fields #[.int 0 s1.toks,.int j t,.int 1 (s1.toks+1)] },toks:=s1.toks+1+1 }:=I1.kept λb o e=>Heap.get?_push_of_some _ e
  refine call_list_range (n:=j.toNat) (I1.ok.hd hc) (Heap.get?_push_size _ rfl) (zco j0 j1) (zcr j0) (by lia) λh' tk acc c' hk hS hit=>?_
  refine⟨.ref _,_,I2.laid (t':=tk) hk (y0b _) (show ObjOk X.prog X.w _ h' _ (.lst ((y0f j.toNat).map λ(i:Nat)=>V.int (i:Int))) from ⟨?_,acc.toList,c',?_,by simpa using hS⟩),rfl,q _ (I2.hok.fresh (y0b _))⟩
  ·have:1000≤sizeLine:=by decide
   simp;lia
  ·refine zd9 (by simp[hit.1]) λi x u hx hu=>?_
   have hil:i<j.toNat:=by
    have:=(y00.mp hx).1;simpa using this
   rw[y06,y1w hil] at hx;cases hx;obtain⟨t',ht'⟩:=hit.2 i u (by simpa using hu)
   exact⟨t',by rw[ht'];simp⟩
 ·exact q1.elim
end
end L2.EX
set_option Elab.async false
set_option linter.all false
set_option maxRecDepth 100000
namespace L2.EX
open PySem PySem.Spec PyProof.Rows
section
variable {X:Cx}
theorem z7f:∀{ns:List Int} {us:List Value},Vals (ns.map V.int) us->IntsAre us ns
 | [],us,h=>by cases h;exact .nil
 | n::ns,us,h=>by
  cases h with
  | cons h1 h2 =>
   obtain⟨t,rfl⟩:=h1;exact .cons n t (z7f h2)
theorem z52:∀{ns:List Int} {us:List Value},IntsAre us ns->Vals (ns.map V.int) us
 | _,_,.nil=>.nil
 | _,_,.cons n t h=>.cons ⟨t,rfl⟩ (z52 h)
@[reducible] def zio (K:y03)(xs:List V)(H:Hp)(Q:VK):Prop:=match xs with
 | [.ref l]=>∃ns:List Int,SqL K H l (ns.map V.int)/\ns.length<64/\∀ms:List Int,ms.Perm ns->ms.Pairwise (·≤·)->∀p,H p=none->Q (.ref p) (upd H p (.lst (ms.map V.int)))
 | _=>False
theorem zaz:bootBuiltins "sorted"=some (.builtin "sorted"):=boot_sorted
theorem zhw:z4i X (.builtin "sorted") (zio X.K):=by
 intro ao s σ H xs us Q I r h;unfold zio at h
 split at h
 ·rename_i l;obtain⟨ns,hl,h64,q⟩:=h;obtain⟨u,rfl,rx⟩:=z7l r;cases rx;obtain⟨its,rv,p,hz⟩:=I.list hl;have hlen:=rv.length;rw[y04] at hlen;refine sorted_ints p.isList (z7f rv) (by lia) λout ms hI hp hs=>?_
  obtain⟨e,he⟩:=sortedAll_at s.heap its out;have hml:ms.length=ns.length:=hp.length_eq;refine⟨.ref (s.heap.objs.size+1),_,I.laid (t':=s.toks) (λb o hb=>sortedAll_old hb) (y4b _) (show ObjOk X.prog X.w _ _ _ (.lst (ms.map V.int)) from ⟨?_,out.toList,e,z52 hI,?_⟩),rfl,q ms hp hs _ (I.hok.fresh (y4b _))⟩
  ·rw[y04,hml];have:64≤sizeLine:=by decide
   lia
  ·simpa [seqObj] using he
 ·exact h.elim
end
end L2.EX
set_option Elab.async false
set_option linter.all false
set_option maxRecDepth 100000
namespace L2.EX
open PySem PySem.Spec PyProof.Rows
def stb (led:Bool)(P:List Nat):SetTable:={ mask:=7,place:=P.toArray,dummies:=#[],finger:=0,led:=led,moves:=0,plain:=true }
def places2:List (List Nat):=[]::((y0f 8).map λa=>[a])++(y0f 8).flatMap λa=>((y0f 8).filter λb=>decide (a<b)).map λb=>[a,b]
def places3:List (List Nat):=places2++places2.flatMap λl=>if l.length=2 then ((y0f 8).filter λb=>l.all λa=>decide (a<b)).map λb=>l ++ [b] else []
def zod (led:Bool)(P:List Nat)(n:Nat):Bool:=match (stb led P).freeSlot (n:Int) with
 | some (j,false)=>decide (((stb led P).put j).1=stb led ((stb led P).put j).1.place.toList)&&places3.contains ((stb led P).put j).1.place.toList&&((stb led P).put j).1.place.size==P.length+1
 | _=>false
theorem zhy:∀led,∀P∈places2,∀n,n<12->zod led P n=true:=by decide +kernel
def zhh (P:List Nat):Bool:=(y0f P.length).all (λj=>SetTable.below P.toArray (P.getD j 0+1)==j+1)&&SetTable.below P.toArray 0==0
theorem z9x:∀P∈places3,zhh P=true:=by decide +kernel
theorem zk5:∀P∈places3,P.length≤2->P∈places2:=by decide +kernel
theorem z3i:∀P∈places3,P.length≤3:=by decide +kernel
def SSet (w:World)(h:Heap)(a:Addr)(es:List (Int×Value)):Prop:=∃ep P,h.get? a=some { cls:=.type "set",dict:=none,data:=.set es.toArray ep (stb (!w.params.followText "set-order") P),slots:=#[] }/\P∈places3/\P.length=es.length/\∀e∈es,∃(n:Nat) (t:Tok),n<12/\e=((n:Int),.int (n:Int) t)
theorem z5h (led:Bool){P:List Nat}(h:P.length≤3):(stb led P).fits P.length=true:=by
 simp only[SetTable.fits,stb,SetTable.fill,y0h,beq_self_eq_true,y6k,decide_eq_true_eq];show P.length+0≤7;lia
theorem zlh:∀n:Nat,n<12->hashInt (n:Int)=(n:Int):=by decide
section
variable {prog:Program}{w:World}{A:Around}{E:Value->Shared->Prop}{s:Shared}
theorem SSet.elems {h:Heap}{a:Addr}{es:List (Int×Value)}(hS:∀e∈es,∃(n:Nat) (t:Tok),n<12/\e=((n:Int),.int (n:Int) t)):ElemsOf (intKind prog w) es:=λe he=>by
 obtain⟨n,t,hn,rfl⟩:=hS e he;exact⟨⟨(n:Int),intKind_is _ _ _ _,(zlh n hn).symm⟩,rfl⟩
theorem zkc {a:Addr}{es:List (Int×Value)}{Q:Bool->Shared->Prop}(hS:SSet w s.heap a es)(hl:es.length≤2){n:Nat}(hn:n<12)(t:Tok)
  (hQ:∀h' es',Heap.SameBut a s.heap h'->SSet w h' a es'->(es'=es/\(∃e∈es,e.1=(n:Int))∨es'.Perm (es ++ [((n:Int),Value.int (n:Int) t)])/\∀e∈es,e.1≠(n:Int))->∀b,Q b { s with heap:=h' }) :
  wpAny (model prog w) A (setAddHashed a (.int (n:Int) t) (hashInt (n:Int))) Q E s:=by
 have hS0:=hS;obtain⟨ep,P,ho,hP,pl,hel⟩:=hS;have hel':ElemsOf (intKind prog w) es.toArray.toList:=SSet.elems (h:=s.heap) (a:=a) hel
 have sz:es.toArray.size=P.length:=by rw[y0h,pl]
 have hf:(stb (!w.params.followText "set-order") P).fits es.toArray.size=true:=by rw[sz];exact z5h _ (by lia)
 unfold setAddHashed setAddHashedIn;refine wpAny_holding (wpAny_bind (wpAny_setState_of ho rfl hf ?_));dsimp only;rw[byScan_of (knd:=intKind prog w) (x:=.int (n:Int) t) rfl (by rw[sz];unfold scanBound;lia) hel']
 simp only[↓reduceIte];unfold setAddByScan;refine wpAny_bind ?_;refine wpAny_bind (wpAny_rule ?_);refine wpAny_bind (wpAny_setScan_of (knd:=intKind prog w) (k:=(n:Int)) (intKind_is _ _ _ _) ho rfl hf hel' ?_);cases hr:List.findIdx? (λe=>(intKind prog w).is (n:Int) e.2) es.toArray.toList with
 | some j =>
  dsimp only;obtain⟨hj,hpj,_⟩:=List.findIdx?_eq_some_iff_getElem.mp hr;refine wpAny_pure (wpAny_pure ?_);have e:s = { s with heap:=s.heap }:=by cases s;rfl
  have:=hQ s.heap es (Heap.SameBut.refl a s.heap) hS0 (.inl ⟨rfl,by
   have hm:es.toArray.toList[j]∈es:=by simpa using y2i hj
   obtain⟨m,t',hm12,he⟩:=hel _ hm;refine⟨_,hm,?_⟩;rw[he] at hpj ⊢
   have:=(intKind prog w).inj _ _ _ hpj (intKind_is _ _ (m:Int) t');exact this.symm⟩) false
  rw[e];exact this
 | none =>
  dsimp only;have nm:∀e∈es,e.1≠(n:Int):=λe he z=>by
   have:=List.findIdx?_eq_none_iff.mp hr e (by simpa using he)
   obtain⟨m,t',hm12,rfl⟩:=hel e he;have:m=n:=Int.ofNat.inj z;subst this;simp[intKind_is] at *
  have ok:=zhy (!w.params.followText "set-order") P (zk5 P hP (by lia)) n hn
  rw[zlh n hn];have hperm:=layNew_perm (stb (!w.params.followText "set-order") P) es.toArray (n:Int) (.int (n:Int) t);generalize hL:layNew (stb (!w.params.followText "set-order") P) es.toArray (n:Int) (.int (n:Int) t)=L at hperm ⊢
  obtain⟨es1,t1,wasDummy,gave⟩:=L;dsimp only at hperm ⊢
  have fact:∃P',t1=stb (!w.params.followText "set-order") P'/\P'∈places3/\P'.length=es1.size/\wasDummy=false/\gave=false:=by
   have e1:es1.size=P.length+1:=by
    have:=hperm.length_eq;simpa [pl] using this
   unfold zod at ok;unfold layNew at hL
   split at ok
   ·rename_i j hj;rw[hj] at hL;dsimp only at hL;simp only[y1b,decide_eq_true_eq,beq_iff_eq] at ok;obtain⟨⟨k1,k2⟩,k3⟩:=ok;simp only[Prod.mk.injEq] at hL;obtain⟨l1,l2,l3,l4⟩:=hL;have k2':((stb (!w.params.followText "set-order") P).put j).1.place.toList∈places3:=by simpa using k2
    have fit:((stb (!w.params.followText "set-order") P).put j).1.fits es1.size=true:=by
     rw[k1,e1,←k3,←y3g];exact z5h _ (z3i _ k2')
    rw[l1] at l2 l4;refine⟨((stb (!w.params.followText "set-order") P).put j).1.place.toList,?_,k2',by rw[y3g,k3,e1],l3.symm,?_⟩
    ·rw[←l2];unfold SetTable.orStandIn;rw[if_pos fit];exact k1
    ·rw[←l4,fit];rfl
   ·exact absurd ok (by decide)
  obtain⟨P',rfl,hP',pl',rfl,rfl⟩:=fact;refine wpAny_bind (wpAny_pure ?_);have hpl:(stb (!w.params.followText "set-order") P').plain=true:=rfl;simp only[hpl,if_true];refine wpAny_bind (wpAny_pure ?_);simp only[if_true];have tf:(stb (!w.params.followText "set-order") P').tooFull=false:=by
   have:=z3i P' hP';simp only[SetTable.tooFull,stb,SetTable.fill,y0h,decide_eq_false_iff_not];show ¬(7*3≤(P'.length+0)*5);lia
  rw[tf];simp only[y7m,y69,y27,if_false];have hsz:es1.size≤sizeLine:=by have:=z3i P' hP';rw[←pl',sizeLine_eq];lia
  refine wpAny_bind (wpAny_storeSet_of ho rfl ?_ hsz);refine wpAny_pure (wpAny_pure ?_);have hg:(s.heap.update a (Obj.putSet es1 (stb (!w.params.followText "set-order") P'))).get? a=some { cls:=.type "set",dict:=none,data:=.set es1 (ep+1) (stb (!w.params.followText "set-order") P'),slots:=#[] }:=by
   have:=Heap.get?_update_self (Obj.putSet es1 (stb (!w.params.followText "set-order") P')) ho (by rw[putSet_of es1 _ rfl];rfl)
   rw[putSet_of es1 _ rfl] at this;exact this
  have hp2:es1.toList.Perm (es ++ [((n:Int),Value.int (n:Int) t)]):=by simpa using hperm
  refine hQ _ es1.toList (Heap.SameBut.update s.heap a _) ⟨ep+1,P',hg,hP',by rw[pl',y3g],λe he=>?_⟩ (.inr ⟨hp2,nm⟩) true
  rcases y0y.mp (hp2.mem_iff.mp he) with z | z
  ·exact hel e z
  ·rw[y09.mp z];exact⟨n,t,hn,rfl⟩
end
def KeysOf (es:List (Int×Value))(i:Nat)(val:Nat->Nat):Prop:=(∀k:Int,(∃e∈es,e.1=k)↔∃j,j<i/\k=(val j:Int))/\(es.map (·.1)).Nodup/\es.length≤i
theorem KeysOf.step {es es':List (Int×Value)}{i:Nat}{val:Nat->Nat}{x:Value}(k:KeysOf es i val)
  (h:es'=es/\(∃e∈es,e.1=(val i:Int))∨es'.Perm (es ++ [((val i:Int),x)])/\∀e∈es,e.1≠(val i:Int)):KeysOf es' (i+1) val:=by
 obtain⟨k1,k2,k3⟩:=k;rcases h with ⟨rfl,h⟩ | ⟨hp,h⟩
 ·refine⟨λk=>⟨λz=>?_,λz=>?_⟩,k2,by lia⟩
  ·obtain⟨j,hj,e⟩:=(k1 k).mp z;exact⟨j,by lia,e⟩
  ·obtain⟨j,hj,rfl⟩:=z
   by_cases c:j<i
   ·exact(k1 _).mpr ⟨j,c,rfl⟩
   ·have:j=i:=by lia
    subst this;exact h
 ·refine⟨λk=>⟨λz=>?_,λz=>?_⟩,?_,?_⟩
  ·obtain⟨e,he,rfl⟩:=z;rcases y0y.mp (hp.mem_iff.mp he) with w | w
   ·obtain⟨j,hj,e⟩:=(k1 _).mp ⟨e,w,rfl⟩;exact⟨j,by lia,e⟩
   ·rw[y09.mp w];exact⟨i,by lia,rfl⟩
  ·obtain⟨j,hj,rfl⟩:=z
   by_cases c:j<i
   ·obtain⟨e,he,e2⟩:=(k1 _).mpr ⟨j,c,rfl⟩;exact⟨e,hp.mem_iff.mpr (y3a _ he),e2⟩
   ·have:j=i:=by lia
    subst this;exact⟨_,hp.mem_iff.mpr (y14 _ (y09.mpr rfl)),rfl⟩
  ·have hp2:=hp.map (λe:Int×Value=>e.1);refine(hp2.nodup_iff).mpr ?_;rw[y0g,y4c];refine⟨k2,by simp,λa ha b hb=>?_⟩
   obtain⟨e,he,rfl⟩:=y1i.mp ha;rw[y0l,y3l,y09] at hb;rw[hb];exact h e he
  ·rw[hp.length_eq,y0e];show es.length+1≤i+1;lia
section
variable {prog:Program}{w:World}{A:Around}{R:Result->Shared->Prop}{I:Addr}{fp wr:List Addr}{G:Array GenState->Array GenState->Prop}{n:Nat}{P:Nat->Value->Prop}{St:Nat->Shared->Prop}
theorem SSet.at {h h':Heap}{a:Addr}{es:List (Int×Value)}(S:SSet w h a es)(k:∀o,h.get? a=some o->h'.get? a=some o):SSet w h' a es:=by
 obtain⟨ep,P,ho,r⟩:=S;exact⟨ep,P,k _ ho,r⟩
theorem sset_loop (W:WalksS prog w A.in1 I fp wr G n P St)(S:Addr)(hSf:S ∉ fp)(val:Nat->Nat)(hval:∀i v,P i v->∃t,v = .int (val i:Int) t)(h12:∀i,i<n->val i<12)(hn:n≤3) :
  ∀(k i:Nat) (s:Shared) (es:List (Int×Value)),n - i=k->i≤n->St i s->SSet w s.heap S es->KeysOf es i val ->
   (∀s' es',Moved (S::wr) G s s'->SSet w s'.heap S es'->KeysOf es' n val->R (.ok (.ret .none)) s') ->
   codeAny (model prog w) A (.builtin "set.update.loop" ⟨[.ref S,.ref I],[]⟩) R s:=by
 have hSw:S ∉ wr:=λh=>hSf (W.sub _ h);have hsub:∀b∈wr,b∈S::wr:=λb hb=>y0a _ hb
 intro k
 induction k with
 | zero =>
  intro i s es hk hi hst hS ke hR;have hin:i=n:=by lia
  subst hin;refine codeAny_builtin y3u ?_;rw[Around.under_plainId y31 _];show wpAny _ A.in1 (pyNext (.ref I) >>= _) _ _ s;refine wpAny_bind (W.done s _ _ hst λs' hm=>?_);show wpAny _ A.in1 (ret Value.none) _ _ s';exact wpAny_pure (hR s' es (hm.mono hsub) (hS.at λo e=>hm.heap S _ hSw e) ke)
 | succ k ih =>
  intro i s es hk hi hst hS ke hR;have hlt:i<n:=by lia
  have hk2:n - (i+1)=k:=by lia
  have il:i≤2:=by lia
  refine codeAny_builtin y3u ?_;rw[Around.under_plainId y31 _];show wpAny _ A.in1 (pyNext (.ref I) >>= _) _ _ s;refine wpAny_bind (W.item i s _ _ hlt hst λv s' hP hst' hm=>?_);obtain⟨t,rfl⟩:=hval i v hP;have hS':SSet w s'.heap S es:=hS.at λo e=>hm.heap S _ hSw e;show wpAny _ A.in1 (holding [Value.int (val i:Int) t] (setAdd S (.int (val i:Int) t)) >>= _) _ _ s';refine wpAny_bind (wpAny_holding ?_);unfold setAdd;refine wpAny_holding ?_;refine wpAny_bind ((intKind prog w).pyHash (k:=(val i:Int)) (intKind_is _ _ _ _) ?_);refine zkc (s:={ s' with toks:=s'.toks+1 }) hS' (y17 ke.2.2 il) (h12 i hlt) t λh' es' hsb hS2 alt b=>?_
  refine wpAny_pure ⟨plainId_quiet y31 _,ih (i+1) _ es' hk2 hlt (W.frame _ s' _ _ hst' (y4b _) λb hb o e=>?_) hS2 (ke.step alt) λs'' es'' hm'' hS'' ke''=>?_⟩
  ·rw[hsb.2 b (λh:b=S=>hSf (by rw[←h];exact hb))];exact e
  ·refine hR s'' es'' (Moved.trans W.gtrans ((hm.mono hsub).then_heap (y4b _) λb o hb e=>?_) hm'') hS'' ke'';rw[hsb.2 b (λh:b=S=>hb (by rw[h];exact y0d))];exact e
end
end L2.EX
namespace PySem
abbrev zin (led:Bool):Obj:={ cls:=.type "set",dict:=none,data:=.set #[] 0 (.fresh 0 0 led) }
section
variable {prog:Program}{w:World}{A:Around}{E:Value->Shared->Prop}{s:Shared}
theorem zm8 (a:Value){Q₁:Value->Shared->Prop}
  (h:Q₁ (.ref s.heap.objs.size) { s with heap:=s.heap.push { cls:=.type "set",dict:=none,data:=.set #[] 0 (.fresh 0 0 (!w.params.followText "set-order")) } }) :
  codeAny (model prog w) A (.call (.builtin "set.__new__") ⟨[.type "set",a],[]⟩) (wants Q₁ E) s:=by
 refine codeAny_of_tree ?_;show wpAny _ A.in1 (do checkBuiltinCall "set.__new__" ⟨[.type "set",a],[]⟩;again (.builtin "set.__new__" ⟨[.type "set",a],[]⟩)) _ _ s
 refine wpAny_bind (wpAny_of_eq (F.newCall_set_1 a) (wpAny_pure ⟨plainId_quiet F.plain_set_new _,codeAny_builtin F.entry_set_new ?_⟩));rw[Around.under_plainId F.plain_set_new _];unfold Builtin.«set.__new__» Builtin.Frozenset.newClass;have hsub:=sub_set_self;obtain⟨hp,g,d,tk,os⟩:=s;dsimp only
 wp_walk
 refine wpAny_askSetting (wpAny_pure ?_);dsimp only;simp only[newObj];refine wpAny_bind (wpAny_alloc (wpAny_pure ?_));exact wpAny_pure h
set_option maxHeartbeats 3200000 in
theorem zbs {l:Addr}{items:Array Value}{val:Nat->Nat}{Q:Value->Shared->Prop}
  (hh:A.handled=none) (hl:s.heap.IsList l items) (hv:∀(i:Nat) (v:Value),items[i]?=some v->∃t,v = .int (val i:Int) t) (h12:∀i,i<items.size->val i<12) (h3:items.size≤3)
  (h:∀(h':Heap) (tk:Nat) (es:List (Int×Value)),L2.EX.SSet w h' s.heap.objs.size es->L2.EX.KeysOf es items.size val ->
   (∀b o,b<s.heap.objs.size->s.heap.get? b=some o->h'.get? b=some o)->Q (.ref s.heap.objs.size) { s with heap:=h',toks:=tk }) :
  wpAny (model prog w) A (call (.type "set") [.ref l]) Q E s:=by
 obtain⟨c,tl,hmro⟩:=F.called_set.mro;have hmade:=F.called_set.made;have hsub:=F.called_set.sub
 refine wpAny_call (codeAny_of_tree ?_);show wpAny _ _ (callAny (.type "set") _) _ _ _;refine wpAny_pure ⟨Code.quiet_builtin _ (by decide +kernel),codeAny_builtin F.entry_type_call ?_⟩
 rw[Around.under_plain (weight_type_call_type "set" [.ref l] []) rfl];have h1:=F.called_set.notType;have h2:=F.called_set.canCreate
 have hct:=F.typeCall_set_1 (.ref l)
 repeat (any_goals (first | assumption | wp_step))
 generalize hled:(!w.params.followText "set-order")=led;refine codeAny_mono (zm8 (.ref l) (E:=E) (Q₁:=λobj s₁=>obj = .ref s.heap.objs.size/\s₁ = { s with heap:=s.heap.push (zin led) }) ⟨rfl,by rw[hled]⟩) λr s₁ hr=>?_
 cases r with
 | error e=>exact hr
 | ok fl =>
  cases fl with
  | ret obj =>
   obtain⟨rfl,rfl⟩:=hr;have hS:(s.heap.push (zin led)).get? s.heap.objs.size=some (zin led):=Heap.get?_push_size _ rfl;have hT:Shared.TypeIs { s with heap:=s.heap.push (zin led) } (.ref s.heap.objs.size) "set":=⟨_,hS,rfl⟩
   have hli:=F.called_set.init.lookup;have hbi:=F.called_set.init.bind (.ref s.heap.objs.size)
   repeat (any_goals (first | assumption | wp_step))
   refine codeAny_mono (codeAny_call_builtin (R:=wants (λr s₂=>r = .none/\∃h' tk es,s₂ = { s with heap:=h',toks:=tk } /\
     L2.EX.SSet w h' s.heap.objs.size es/\L2.EX.KeysOf es items.size val /\
     (∀b o,b<s.heap.objs.size->s.heap.get? b=some o->h'.get? b=some o)) E) F.called_set.init.plain F.entry_set_init (check_set_init_1 hT ?_)) λr₂ s₂ hr₂=>?_
   ·obtain⟨ol,hol,hcl,nl,hdl⟩:=hl;obtain⟨ocls,odict,odata,oslots⟩:=ol;simp only at hcl hdl;subst hcl;subst hdl;have hol':(s.heap.push (zin led)).get? l=some { cls:=.type "list",dict:=odict,data:=.seq items nl,slots:=oslots }:=Heap.get?_push_of_some _ hol;have hsls:=F.sub_list_set
    have hslf:=F.sub_list_frozenset;have hne:(Value.type "list"==Value.type "dict")=false:=by decide
    have hl1:(s.heap.push (zin led)).IsList l items:=⟨_,hol',rfl,nl,rfl⟩;unfold Builtin.«set.__init__» noKeywords Builtin.Frozenset.updateFrom;generalize hPI:pyIter=PI
    wp_walk
    subst hPI;refine wpAny_pyIter_list hl1 ?_;refine wpAny_bind (wpAny_runValue ?_);have hlS:l<s.heap.objs.size:=Heap.lt_size hol;have hh3:A.in1.in1.in1.handled=none:=by simp[hh]
    have hneI:l≠(s.heap.push (zin led)).objs.size:=by
     rw[Heap.size_push];exact y0p (y2p hlS)
    have hSf:s.heap.objs.size ∉ [(s.heap.push (zin led)).objs.size,l]:=by
     rw[Heap.size_push];simp only[y0k,y09,y15,or_false,not_or];exact⟨y0p (y2x _),y36 hlS⟩
    refine L2.EX.sset_loop ((Walks.list hh3 _ l hneI items).toS) s.heap.objs.size
     hSf val hv h12 h3 (items.size - 0) 0 _ [] (by lia) (y25 _)
     ⟨⟨_,Heap.get?_push_size _ rfl,rfl,rfl⟩,(hl1.push _)⟩ ?hS0 ⟨λk=>by simp,by simp,by simp⟩ ?hR
    case hS0 =>
     have hget:((s.heap.push (zin led)).push { cls:=.type "list_iterator",data:=.fields #[.ref l,.int 0 0] }).get? s.heap.objs.size
      =some (zin led):=Heap.get?_push_of_some _ hS
     exact⟨0,[],by rw[hled];exact hget,by decide,rfl,λe he=>by cases he⟩
    case hR =>
     intro s' es' hm hS' ke';obtain⟨h',g',d',tk',os'⟩:=s';have eg:g'=s.gens:=hm.gens;have ed:d'=s.drawn:=hm.drawn
     have eo:os'=s.os:=hm.os;subst eg;subst ed;subst eo;show wpAny _ _ _ _ _ _;refine wpAny_pure ?_;show wpAny _ _ (ret Value.none) _ _ _;refine wpAny_pure ⟨rfl,h',tk',es',rfl,hS',ke',λb o hb e=>?_⟩;have hb1:b≠s.heap.objs.size:=y0p hb
     have hb2:b≠(s.heap.push (zin led)).objs.size:=by
      rw[Heap.size_push];exact y0p (y2p hb)
     exact hm.heap b o (by simp only[y0k,y09,y15,or_false,not_or];exact⟨hb1,hb2⟩) (Heap.get?_push_of_some _ (Heap.get?_push_of_some _ e))
   ·cases r₂ with
    | error e=>exact hr₂
    | ok fl₂ =>
     cases fl₂ with
     | ret r =>
      obtain⟨rfl,h',tk,es,rfl,hS',ke,hk'⟩:=hr₂
      repeat (any_goals (first | assumption | wp_step))
      exact h _ _ _ hS' ke hk'
     | _=>exact hr₂.elim
  | _=>exact hr.elim
end
end PySem
set_option Elab.async false
set_option linter.all false
set_option maxRecDepth 100000
namespace L2.EX
open PySem PySem.Spec PyProof.Rows
theorem z94:entryFor table "set.__iter__"=some Builtin.«frozenset.__iter__» :=
 entryFor_alias (id':="frozenset.__iter__") (by kernel_rfl) rfl (by decide +kernel) (by kernel_rfl)
theorem slot_sit_next:Slot "set_iterator" "__next__" "set_iterator.__next__" :=
 .of (owner:="set_iterator") (n:="__next__") (by rw[typeLookup_type,builtinLookup_eq_fast];kernel_rfl) (by decide +kernel) (by decide +kernel) (by decide +kernel)
  (by first | exact .inl (by decide +kernel) | exact .inr (by decide +kernel)) (by rw[isSubtype_type];kernel_rfl)
theorem z5k:entryFor table "set_iterator.__next__"=some Builtin.«set_iterator.__next__»:=entryFor_of_tree (by kernel_rfl)
theorem z6b (a:Value):argsOk "set_iterator.__next__" ⟨[a],[]⟩:=by unfold argsOk;kernel_rfl
def znx (w:World)(es:List (Int×Value))(ep:Nat)(P:List Nat):Obj:={ cls:=.type "set",dict:=none,data:=.set es.toArray ep (stb (!w.params.followText "set-order") P),slots:=#[] }
def z48 (a:Addr)(n ep slot i:Nat):Obj:={ cls:=.type "set_iterator",data:=.fields #[rawInt (slot:Int),rawInt (i:Int),.ref a,rawInt (n:Int),rawInt (ep:Int)] }
def z4s (w:World)(P:List Nat):Nat->Nat
 | 0=>0
 | i+1=>if w.params.followText "set-order" then 0 else P.getD i 0+1
def zkk (w:World)(a:Addr)(ep:Nat)(es:List (Int×Value)):List (Int×Value):=if w.params.followText "set-order" then (pickOrder (w.params.setOrder a ep) es.toArray).toList else es
theorem zdr {α:Type}:∀{l:List α} {i:Nat} (h:i<l.length),(l[i]::l.eraseIdx i).Perm l
 | x::l,0,h=>.rfl
 | x::l,i+1,h=>by
  have hi:i<l.length:=by simpa using h
  rw[List.getElem_cons_succ,y5l];exact(List.Perm.swap ..).trans ((zdr hi).cons x)
theorem zbo {α:Type}(next:Nat->Nat):∀(fuel k:Nat) (left:List α) (out:Array α),left.length=fuel->((pickOrder.go next fuel k left out).toList).Perm (out.toList++left)
 | 0,k,left,out,h=>by
  have:left = []:=y1j.mp h;subst this;unfold pickOrder.go;simp
 | fuel+1,k,left,out,h=>by
  have hlt:next k % left.length<left.length:=y6y _ (by lia)
  unfold pickOrder.go;rw[y01 hlt];dsimp only;refine(zbo next fuel (k+1) _ _ (by rw[List.length_eraseIdx_of_lt hlt];lia)).trans ?_
  rw[Array.toList_push,y32];refine List.Perm.append_left _ ?_;show(left[next k % left.length]::left.eraseIdx (next k % left.length)).Perm left
  exact zdr hlt
theorem z6d (w:World)(a:Addr)(ep:Nat)(es:List (Int×Value)):(zkk w a ep es).Perm es:=by
 unfold zkk
 split
 ·unfold pickOrder;have:=zbo (w.params.setOrder a ep) es.toArray.size 0 es.toArray.toList #[] (by simp)
  simpa using this
 ·exact .rfl
section
variable {prog:Program}{w:World}{A:Around}{E:Value->Shared->Prop}{s:Shared}
theorem zil {a:Addr}{es:List (Int×Value)}{ep:Nat}{P:List Nat}{Q:Value->Shared->Prop}(ho:s.heap.get? a=some (znx w es ep P))(hP:P∈places3)(pl:P.length=es.length)
  (hQ:Q (.ref s.heap.objs.size) { s with heap:=s.heap.push (z48 a es.length ep 0 0) }):wpAny (model prog w) A (pyIter (.ref a)) Q E s:=by
 have hT:s.TypeIs (.ref a) "set":=⟨_,ho,rfl⟩;have hf:(stb (!w.params.followText "set-order") P).fits es.toArray.size=true:=by rw[y0h,←pl];exact z5h _ (z3i P hP)
 refine wpAny_pyIter_slot hT F.slot_set_iter (wpAny_call_entry F.slot_set_iter hT z94 ?_ (F.args_set_iter_1 _));unfold Builtin.«frozenset.__iter__» Builtin.Frozenset.slot0 slotArgs;simp only[y5p,y4q,y27,↓reduceIte,bind_assoc,y63,bne_self_eq_false];unfold Builtin.Frozenset.addrOf Builtin.Frozenset.sizeOf;refine wpAny_bind (wpAny_pure ?_)
 try dsimp only
 refine wpAny_bind (wpAny_pure ?_);refine wpAny_bind (wpAny_bind (wpAny_setEntries_of ho rfl hf (wpAny_pure ?_)));unfold setDrawn;refine wpAny_bind (wpAny_bind (wpAny_setState_of ho rfl hf ?_));show wpAny _ _ (setsByText >>= λb=>pure (!b&&false)) _ _ s;unfold setsByText;refine wpAny_bind (wpAny_bind (wpAny_askSetting (wpAny_pure (wpAny_pure ?_))));rw[y69,if_neg y0z];refine wpAny_bind (wpAny_pure ?_);refine wpAny_bind (wpAny_setEpoch_of ho rfl hf ?_);refine wpAny_bind (wpAny_newObj_type (wpAny_pure ⟨_,rfl,"set_iterator",_,⟨_,Heap.get?_push_size _ rfl,rfl⟩,slot_sit_next.lookup,?_⟩));simpa [z48,rawInt] using hQ
theorem zkn {P:List Nat}(hP:P∈places3)(hw:w.params.followText "set-order"=false):∀i,i≤P.length->SetTable.below P.toArray (z4s w P i)=i
 | 0,_=>by
  have:=z9x P hP;unfold zhh at this;rw[y1b] at this;exact beq_iff_eq.mp this.2
 | i+1,h=>by
  have:=z9x P hP;unfold zhh at this;rw[y1b,y2j] at this;have:=this.1 i (y1d.mpr (by lia))
  unfold z4s;rw[hw];simpa using this
theorem z9o {a:Addr}{es:List (Int×Value)}{ep i:Nat}{P:List Nat}{Q:Option (Value×Nat)->Shared->Prop}(ho:s.heap.get? a=some (znx w es ep P))(hP:P∈places3)(pl:P.length=es.length)(hi:i≤es.length)
  (hQ:Q ((zkk w a ep es)[i]?.map λe=>(e.2,z4s w P (i+1))) s):wpAny (model prog w) A (setNext a (z4s w P i) i ep) Q E s:=by
 have hf:(stb (!w.params.followText "set-order") P).fits es.toArray.size=true:=by rw[y0h,←pl];exact z5h _ (z3i P hP)
 unfold setNext;refine wpAny_bind (wpAny_setState_of ho rfl hf ?_);dsimp only;refine wpAny_bind (m:=setsByText) ?_;unfold setsByText;refine wpAny_bind (wpAny_askSetting (wpAny_pure ?_));show wpAny _ _ (if w.params.followText "set-order"=true then _ else _) _ _ s
 cases hw:w.params.followText "set-order" with
 | true =>
  rw[if_pos rfl,if_neg (by simp)]
  unfold setWalk;refine wpAny_bind (wpAny_bind (wpAny_setState_of ho rfl hf ?_));dsimp only;refine wpAny_bind (m:=setsByText) ?_;unfold setsByText;refine wpAny_bind (wpAny_askSetting (wpAny_pure ?_));show wpAny _ _ (if w.params.followText "set-order"=true then _ else _) _ _ s
  rw[if_pos hw];refine wpAny_bind (wpAny_askSetting (wpAny_pure (wpAny_pure ?_)));have es0:z4s w P (i+1)=z4s w P i:=by
   cases i with
   | zero=>show(if w.params.followText "set-order" then 0 else _)=0;rw[hw];rfl
   | succ j=>show(if w.params.followText "set-order" then 0 else _)=(if w.params.followText "set-order" then 0 else _);rw[hw];rfl
  rw[es0] at hQ;unfold zkk at hQ;rw[if_pos hw,y37] at hQ;exact hQ
 | false =>
  rw[if_neg y0z];show wpAny _ _ (if false=true then _ else _) _ _ s
  rw[if_neg y0z];refine wpAny_bind (wpAny_pure ?_);refine wpAny_pure ?_;have eb:SetTable.below (stb (!false) P).place (z4s w P i)=i:=zkn hP hw i (by lia)
  rw[eb];unfold zkk at hQ;rw[if_neg (by rw[hw];exact y0z)] at hQ
  show Q (match es.toArray[i]?,P.toArray[i]? with | some (_,x),some j=>some (x,j+1) | _,_=>none) s
  rw[y64,y64]
  by_cases c:i<es.length
  ·rw[y01 c] at hQ ⊢
   rw[y01 (show i<P.length by lia)]
   have e2:z4s w P (i+1)=P[i]'(by lia)+1:=by
    show(if w.params.followText "set-order" then 0 else P.getD i 0+1)=_
    rw[hw,y05,y01 (show i<P.length by lia)]
    rfl
   rw[e2] at hQ;exact hQ
  ·rw[y0u (by lia)] at hQ ⊢
   exact hQ
theorem zgn {I a:Addr}{es:List (Int×Value)}{ep i:Nat}{P:List Nat}{Q:Option Value->Shared->Prop}(hI:s.heap.get? I=some (z48 a es.length ep (z4s w P i) i))(ho:s.heap.get? a=some (znx w es ep P))(hP:P∈places3)(pl:P.length=es.length)(hi:i<es.length)
  (hQ:∀v h',(∃e,(zkk w a ep es)[i]?=some e/\v=e.2)->h'.get? I=some (z48 a es.length ep (z4s w P (i+1)) (i+1))->Heap.SameBut I s.heap h'->Q (some v) { s with heap:=h' }) :
  wpAny (model prog w) A (pyNext (.ref I)) Q E s:=by
 have hT:s.TypeIs (.ref I) "set_iterator":=⟨_,hI,rfl⟩;have hf:(stb (!w.params.followText "set-order") P).fits es.toArray.size=true:=by rw[y0h,←pl];exact z5h _ (z3i P hP)
 unfold pyNext;refine wpAny_bind (wpAny_attempt (wpAny_callSpecial?_slot (name:=Str.ofString "__next__") hT slot_sit_next
  (wpAny_call_entry slot_sit_next hT z5k ?_ (z6b _))))
 unfold Builtin.«set_iterator.__next__» slotArgs;simp only[y5p,y4q,y27,↓reduceIte,bind_assoc,y63,bne_self_eq_false];refine wpAny_bind (wpAny_pure ?_)
 try dsimp only
 refine wpAny_bind (wpAny_fieldsOf hI rfl ?_);dsimp only[rawInt];refine wpAny_bind (wpAny_setEntries_of ho rfl hf ?_);rw[y0h,if_neg (by simp)]
 simp only[y3c];refine wpAny_bind (z9o ho hP pl (by lia) ?_)
 have hol:i<(zkk w a ep es).length:=by rw[(z6d w a ep es).length_eq];exact hi
 rw[y01 hol];dsimp only[Option.map];refine wpAny_bind (wpAny_setField_rec hI (by simp) λh1 k1 b1=>?_)
 refine wpAny_bind (wpAny_setField_rec (s:={ s with heap:=h1 }) k1 (by simp) λh2 k2 b2=>?_)
 refine wpAny_pure ⟨_,rfl,wpAny_pure (hQ _ h2 ⟨_,y01 hol,rfl⟩ ?_ (b1.trans b2))⟩;rw[k2];simp[z48,rawInt]
theorem zjm {I a:Addr}{es:List (Int×Value)}{ep:Nat}{P:List Nat}{Q:Option Value->Shared->Prop}(hh:A.handled=none)(hI:s.heap.get? I=some (z48 a es.length ep (z4s w P es.length) es.length))(ho:s.heap.get? a=some (znx w es ep P))(hP:P∈places3)(pl:P.length=es.length)
  (hQ:∀h',Heap.ExtBut I s.heap h'->Q none { s with heap:=h' }):wpAny (model prog w) A (pyNext (.ref I)) Q E s:=by
 have hT:s.TypeIs (.ref I) "set_iterator":=⟨_,hI,rfl⟩;have hf:(stb (!w.params.followText "set-order") P).fits es.toArray.size=true:=by rw[y0h,←pl];exact z5h _ (z3i P hP)
 unfold pyNext;refine wpAny_bind (wpAny_attempt (wpAny_callSpecial?_slot (name:=Str.ofString "__next__") hT slot_sit_next
  (wpAny_call_entry slot_sit_next hT z5k ?_ (z6b _))))
 unfold Builtin.«set_iterator.__next__» slotArgs;simp only[y5p,y4q,y27,↓reduceIte,bind_assoc,y63,bne_self_eq_false];refine wpAny_bind (wpAny_pure ?_)
 try dsimp only
 refine wpAny_bind (wpAny_fieldsOf hI rfl ?_);dsimp only[rawInt];refine wpAny_bind (wpAny_setEntries_of ho rfl hf ?_);rw[y0h,if_neg (by simp)]
 simp only[y3c];refine wpAny_bind (z9o ho hP pl (y0b _) ?_);rw[y0u (by rw[(z6d w a ep es).length_eq];exact y0b _)]
 dsimp only[Option.map];refine wpAny_bind (wpAny_setField_rec hI (by simp) λh1 k1 b1=>?_)
 refine wpAny_bind ?_;simp only[newExc,newTuple];refine wpAny_bind (wpAny_newObj_type ?_ (by size_fits))
 refine wpAny_bind (m:=firstArgMember _ _) (wpAny_of_eq (a:=Value.none) (by first | rfl | (simp only[firstArgMember];rfl)) ?_)
 refine wpAny_newObj_type ?_ (by size_fits)
 simp only[raiseNew];refine wpAny_bind (wpAny_handled ?_);rw[show A.in1.handled=none from hh]
 refine wpAny_bind (wpAny_pure (wpAny_throw ?_));refine wpAny_bind (wpAny_isInstance (T:="StopIteration") (b:=true) ⟨_,Heap.get?_push_size _ rfl,rfl⟩ isSubtype_stop ?_);exact wpAny_pure (hQ _ ((b1.extBut.push _).push _))
theorem z6c:Slot "set_iterator" "__iter__" "set_iterator.__iter__" :=
 .of (owner:="set_iterator") (n:="__iter__") (by rw[typeLookup_type,builtinLookup_eq_fast];kernel_rfl) (by decide +kernel) (by decide +kernel) (by decide +kernel)
  (by first | exact .inl (by decide +kernel) | exact .inr (by decide +kernel)) (by rw[isSubtype_type];kernel_rfl)
theorem z95:entryFor table "set_iterator.__iter__"=some Builtin.«dict_keyiterator.__iter__» :=
 entryFor_alias (id':="dict_keyiterator.__iter__") (by kernel_rfl) rfl (by decide +kernel) (by kernel_rfl)
theorem zac (a:Value):argsOk "set_iterator.__iter__" ⟨[a],[]⟩:=by unfold argsOk;kernel_rfl
theorem zf2 (hh:A.handled=none)(I a:Addr)(hne:a≠I){es:List (Int×Value)}{ep:Nat}{P:List Nat}(hP:P∈places3)(pl:P.length=es.length) :
  Walks prog w A I [I,a] [I] es.length (λi v=>∃e,(zkk w a ep es)[i]?=some e/\v=e.2) (λi h=>h.get? I=some (z48 a es.length ep (z4s w P i) i)/\h.get? a=some (znx w es ep P)) where
 sub:=λb hb=>by simp at hb;simp[hb]
 frame:=λ_ _ _ st hk=>⟨hk I (by simp) _ st.1,hk a (by simp) _ st.2⟩
 item:=λi s Q E hi st hQ=>by
  refine zgn st.1 st.2 hP pl hi λv h' hv hI' hs'=>?_;exact hQ v h' s.toks hv ⟨hI',hs'.extBut a _ hne st.2⟩ λb o hb e=>hs'.extBut b o (λh=>hb (by simp[h])) e
 done:=λs Q E st hQ=>zjm hh st.1 st.2 hP pl λh' he'=>hQ h' s.toks λb o hb e=>he' b o (λh=>hb (by simp[h])) e
 self:=λi s Q E st hQ=>by
  have hT:s.TypeIs (.ref I) "set_iterator":=⟨_,st.1,rfl⟩;refine wpAny_pyIter_slot hT z6c (wpAny_call_entry z6c hT z95 ?_ (zac _));show wpAny _ _ (ret (.ref I)) _ _ s;exact wpAny_pure ⟨_,rfl,"set_iterator",_,hT,slot_sit_next.lookup,hQ⟩
abbrev zky:Obj:={ cls:=.type "list",data:=.seq ([]:List Value).toArray }
theorem zba {a:Addr}{es:List (Int×Value)}{Q:List Value->Shared->Prop}(hh:A.handled=none)(hS:SSet w s.heap a es)
  (hQ:∀h' tk vs,(∀b o,s.heap.get? b=some o->h'.get? b=some o)->s.heap.objs.size≤h'.objs.size->(∃es':List (Int×Value),es'.Perm es/\vs=es'.map (·.2))->Q vs { s with heap:=h',toks:=tk }) :
  wpAny (model prog w) A (collect (.ref a)) Q E s:=by
 obtain⟨ep,P,ho,hP,pl,hel⟩:=hS;have hla:a<s.heap.objs.size:=Heap.lt_size ho;unfold collect;refine wpAny_bind (wpAny_runValue (codeAny_builtin F.entry_proto_collect ?_));rw[Around.under_plainId F.plain_proto_collect _];show wpAny _ A.in1 (newList [] >>= λl=>again (.builtin "list.__iadd__" ⟨[l,.ref a],[]⟩)) _ _ s;refine wpAny_bind (wpAny_newObj_type ?_);refine wpAny_pure ⟨plainId_quiet F.plain_list_iadd _,codeAny_builtin F.entry_list_iadd ?_⟩;rw[Around.under_plainId F.plain_list_iadd _];have ho1:(s.heap.push zky).get? a=some (znx w es ep P):=Heap.get?_push_of_some _ ho
 show wpAny _ A.in1 (Builtin.List.listExtendWith (.ref s.heap.objs.size) (.ref a) (.ref s.heap.objs.size)) _ _ _;unfold Builtin.List.listExtendWith;refine wpAny_bind (wpAny_typeOf (T:="set") ⟨_,ho1,rfl⟩ ?_);have h1:Builtin.List.listSameRef (.ref s.heap.objs.size) (.ref a)=false:=by simp only[Builtin.List.listSameRef,beq_eq_false_iff_ne];exact(y0p hla).symm
 have h2:(Value.type "set"==Value.type "list")=false:=by decide
 have h3:(Value.type "set"==Value.type "tuple")=false:=by decide
 simp only[h1,h2,h3,Bool.or_false,y27,if_false];refine wpAny_bind (zil (s:={ s with heap:=s.heap.push zky }) ho1 hP pl ?_)
 refine wpAny_bind (wpAny_holding ?_);unfold Builtin.List.listLengthHint;have ho2:=Heap.get?_push_of_some (z48 a es.length ep 0 0) ho1;refine wpAny_bind (wpAny_specialOf (T:="set") ⟨_,ho2,rfl⟩ F.slot_set_len.lookup ?_);have hsp:splitId "set.__len__"=some ("set","__len__"):=by decide +kernel
 dsimp only;rw[hsp];dsimp only;refine wpAny_bind (wpAny_isInstance (T:="set") (b:=true) ⟨_,ho2,rfl⟩ sub_set_self ?_);simp only[y4q,y27,if_false];rw[if_pos]
 rotate_left
 ·decide +kernel
 refine wpAny_bind (wpAny_typeOf (T:="set") ⟨_,ho2,rfl⟩ ?_);refine wpAny_pure ?_;show wpAny _ A.in1 (rule "list.extend.makes-room" >>= λ_=>Builtin.List.listTouch (.ref s.heap.objs.size) >>= λ_ =>
  again (.builtin "list.extend.loop" ⟨[.ref s.heap.objs.size,.ref _,.ref s.heap.objs.size],[]⟩)) _ _ _
 refine wpAny_bind (wpAny_rule ?_);have hS₁:((s.heap.push zky).push (z48 a es.length ep 0 0)).get? s.heap.objs.size=some zky:=Heap.get?_push_of_some _ (Heap.get?_push_size _ rfl);have szI:(s.heap.push zky).objs.size=s.heap.objs.size+1:=by rw[Heap.size_push]
 have hI₁:((s.heap.push zky).push (z48 a es.length ep 0 0)).get? (s.heap.objs.size+1)=some (z48 a es.length ep 0 0):=by rw[←szI];exact Heap.get?_push_size _ rfl
 have old:∀b o,s.heap.get? b=some o->((s.heap.push zky).push (z48 a es.length ep 0 0)).get? b=some o:=λb o e=>Heap.get?_push_of_some _ (Heap.get?_push_of_some _ e);rw[szI];generalize (s.heap.push zky).push (z48 a es.length ep 0 0)=h2 at hS₁ hI₁ ho2 old ⊢
 refine wpAny_bind ?_;show wpAny _ A.in1 (updateSeq s.heap.objs.size (·.push .none) >>= λ_=>updateSeq s.heap.objs.size (·.pop)) _ _ _;refine wpAny_bind (wpAny_updateSeq hS₁ rfl ?_);have hS₂:=Heap.get?_update_self (Obj.mapSeq (·.push Value.none)) hS₁ rfl;refine wpAny_updateSeq hS₂ rfl ?_;have hS₃:=Heap.get?_update_self (Obj.mapSeq (·.pop)) hS₂ rfl
 have oth:∀b o,b≠s.heap.objs.size->h2.get? b=some o->((h2.update s.heap.objs.size (Obj.mapSeq (·.push Value.none))).update s.heap.objs.size (Obj.mapSeq (·.pop))).get? b=some o :=
  λb o hb e=>(Heap.get?_update_other _ _ (Ne.symm hb)).trans ((Heap.get?_update_other _ _ (Ne.symm hb)).trans e)
 have hh1:A.in1.handled=none:=hh;have W:=(zf2 (prog:=prog) (w:=w) (A:=A.in1) hh1 (s.heap.objs.size+1) a (y0p (y2p hla)) (ep:=ep) hP pl).toS
 have hSf:s.heap.objs.size ∉ [s.heap.objs.size+1,a]:=by
  simp only[y0k,y15,or_false,not_or];exact⟨y0p (y2x _),y36 hla⟩
 have n24:es.length≤sizeLine:=by have:=z3i P hP;rw[sizeLine_eq];lia
 refine wpAny_pure ⟨plainId_quiet F.plain_extend_loop _,codeAny_extend_loopS W n24 _ hSf _ es.length 0 _ _ _ rfl (y25 _)
  ⟨oth _ _ (y77 _) hI₁,oth _ _ (y0p hla) ho2⟩ hS₃ (ItemsOf.nil _) λs' acc' c' hm hS' hacc=>?_⟩
 show wpAny _ A (load s.heap.objs.size >>= _) _ _ s';refine wpAny_bind (wpAny_load hS' ?_);refine wpAny_pure ?_;obtain⟨h',g',d',tk',os'⟩:=s';have eg:g'=s.gens:=hm.gens;have ed:d'=s.drawn:=hm.drawn
 have eo:os'=s.os:=hm.os;subst eg ed eo;refine hQ h' tk' acc'.toList (λb o e=>?_) (y3w (Heap.lt_size hS')) ⟨zkk w a ep es,z6d w a ep es,?_⟩
 ·have hb:=Heap.lt_size e;exact hm.heap b o (by simp only[y0k,y15,or_false,not_or];exact⟨y0p hb,y0p (y2p hb)⟩) (oth b o (y0p hb) (old b o e))
 ·have hl:=(z6d w a ep es).length_eq;refine y2f λj=>?_;rw[y37,y06]
  by_cases c:j<es.length
  ·obtain⟨e,he,hv⟩:=hacc.2 j (acc'[j]'(by rw[hacc.1];exact c)) (by simp)
   rw[he,Array.getElem?_eq_getElem (by rw[hacc.1];exact c),hv]
   rfl
  ·rw[y5t (by rw[hacc.1];lia),y0u (by lia)]
   rfl
theorem zd0 {a:Addr}{es:List (Int×Value)}{Q:Value->Shared->Prop}(hh:A.handled=none)(hS:SSet w s.heap a es)
  (hQ:∀(h':Heap) (tk:Nat) (p:Addr) (out:Array Value) (ms:List Int) (e:Nat),(∀b o,s.heap.get? b=some o->h'.get? b=some o)->s.heap.objs.size≤p->h'.get? p=some (seqObj "list" out e)->IntsAre out.toList ms->ms.Perm (es.map (·.1))->ms.Pairwise (·≤·)->Q (.ref p) { s with heap:=h',toks:=tk }) :
  wpAny (model prog w) A (call (.builtin "sorted") [.ref a]) Q E s:=by
 have hel:∀e∈es,∃(n:Nat) (t:Tok),n<12/\e=((n:Int),Value.int (n:Int) t):=by
  obtain⟨ep,P,ho,hP,pl,hel⟩:=hS;exact hel
 have hlen:es.length≤3:=by
  obtain⟨ep,P,ho,hP,pl,hel⟩:=hS;rw[←pl];exact z3i P hP
 refine Calls.call_function_entry kind_sorted plain_sorted entry_sorted (args_sorted1 _) ?_;unfold Builtin.«sorted»;refine wpAny_bind (m:=checkCount "sorted" 1 1 _) (wpAny_pure ?_);refine wpAny_bind (zba (by exact hh) hS λh1 tk vs k1 sz1 hvs=>?_)
 obtain⟨es',hp,rfl⟩:=hvs;have intsA:∀{l:List (Int×Value)},(∀e∈l,∃(n:Nat) (t:Tok),n<12/\e=((n:Int),Value.int (n:Int) t))->IntsAre (l.map (·.2)) (l.map (·.1)):=λ{l}=>by
  induction l with
  | nil=>intro _;exact .nil
  | cons x r ih =>
   intro h;obtain⟨n,t,_,rfl⟩:=h x y0d;exact .cons _ _ (ih λe he=>h e (y0a _ he))
 have hI:=intsA (l:=es') (λe he=>hel e (hp.mem_iff.mp he));have h64:(es'.map (·.2)).length<64:=by rw[y04,hp.length_eq];lia
 generalize es'.map (·.2)=vs at hI h64 ⊢
 refine wpAny_bind (wpAny_newList ?_);have hoL:(h1.push (seqObj "list" vs.toArray 0)).get? h1.objs.size=some (seqObj "list" vs.toArray 0):=Heap.get?_push_size _ rfl;show wpAny _ _ _ _ _ { s with heap:=h1.push (seqObj "list" vs.toArray 0),toks:=tk }
 refine wpAny_bind (wpAny_holding (wpAny_call_entry slot_list_sort ⟨_,hoL,rfl⟩ entry_list_sort (list_sort_tree hoL hI h64 λout ns' a1 a2 a3=>⟨_,rfl,?_⟩) (args_list_sort _)));obtain⟨e,he⟩:=sortedHeap_at (out:=out) hoL;refine wpAny_pure ⟨_,rfl,hQ _ tk h1.objs.size out ns' e (λb o hb=>?_) sz1 he a1 (a2.trans (hp.map _)) a3⟩;have hlt:=Heap.lt_size (k1 b o hb);rw[sortedHeap_old (y0p hlt) (by rw[size_push'];exact y2p hlt)]
 exact Heap.get?_push_of_some _ (k1 b o hb)
end
end L2.EX
set_option Elab.async false
set_option linter.all false
set_option maxRecDepth 100000
namespace My
open PySem L2 L2.EX
def pr (p:Nat×Nat):PyData:=.tuple [.int (p.1:Int),.int (p.2:Int)]
def z39 (l:List Nat):PyData:=.list (l.map λ(n:Nat)=>.int (n:Int))
def z09 (l:List Nat):List V:=l.map λ(n:Nat)=>.int (n:Int)
def Frz (L:List Addr)(H H':Hp):Prop:=∀b o,b ∉ L->H b=some o->H' b=some o
theorem Frz.of {L:List Addr}{H H':Hp}(s:Same H H'):Frz L H H':=λb o _ h=>s b o h
theorem Frz.trans {L:List Addr}{H H1 H2:Hp}(a:Frz L H H1)(b:Frz L H1 H2):Frz L H H2:=λc o hc h=>b c o hc (a c o hc h)
theorem Frz.upd {L:List Addr}{H:Hp}{a:Addr}{o:HO}(h:a∈L):Frz L H (upd H a o):=λb u hb q=>by
 rw[z0a (by rintro rfl;exact hb h)]
 exact q
structure Fix (K:y03)(C:Addr)(F:Hp)(me:Addr)(N:PM.Net)(aS aP:Addr):Prop where
 obj:∃dx fs aT aA,F me=some (.ins C dx fs)/\fs.lookup ("many_gives":Str)=some (.int (N.G:Int))/\fs.lookup ("tie_ends":Str)=some (.ref aT)/\fs.lookup ("sent":Str)=some (.ref aS)/\fs.lookup ("spare":Str)=some (.ref aP)/\fs.lookup ("ties_at":Str)=some (.ref aA) /\
  Is K F (.ref aT) (.list (N.ends.map pr))/\Is K F (.ref aA) (.list (N.at'.map z39)) /\
  (∀m:Str,m∈(["far_end","may_go","gives_with_rest","has_room","steps_to_room","row_behind","send_by_steps","way_from","skip_dead_ties","leads_on","send_along","fill"]:List Str)->fs.lookup m=none)
structure PourAt (K:y03)(C:Addr)(H:Hp)(me:Addr)(N:PM.Net)(aS aP:Addr)(ap aj:List Int)(M:List Addr):Prop where
 ok:∃F,Same F H/\F aS=none/\F aP=none/\(∀m∈M,F m=none)/\Fix K C F me N aS aP
 mu:∀m∈M,m≠aS/\m≠aP
 st:H aS=some (.lst (ap.map V.int))
 sp:H aP=some (.lst (aj.map V.int))
 ne:aS≠aP
 wf:N.WF
 ls:ap.length=N.ends.length
 lp:aj.length=N.nE
 sm:N.nE≤1000
 sk:N.ends.length≤1000
section
variable {K:y03}{C:Addr}{H H':Hp}{me:Addr}{N:PM.Net}{aS aP:Addr}{ap aj:List Int}{M:List Addr}
theorem PourAt.same (p:PourAt K C H me N aS aP ap aj M)(s:Same H H'):PourAt K C H' me N aS aP ap aj M:=by
 obtain⟨F,h1,h2⟩:=p.ok;exact⟨⟨F,h1.trans s,h2⟩,p.mu,s _ _ p.st,s _ _ p.sp,p.ne,p.wf,p.ls,p.lp,p.sm,p.sk⟩
theorem PourAt.but (p:PourAt K C H me N aS aP ap aj M)(s:Frz [aS,aP] H H'){ck aG:List Int}(h1:H' aS=some (.lst (ck.map V.int)))(h2:H' aP=some (.lst (aG.map V.int)))(l1:ck.length=ap.length)(l2:aG.length=aj.length):PourAt K C H' me N aS aP ck aG M:=by
 obtain⟨F,f1,f2,f3,f4⟩:=p.ok;refine⟨⟨F,λb o q=>s b o (λz=>?_) (f1 b o q),f2,f3,f4⟩,p.mu,h1,h2,p.ne,p.wf,l1.trans p.ls,l2.trans p.lp,p.sm,p.sk⟩;simp only[y0k,y15,or_false] at z;rcases z with rfl | rfl
 ·rw[f2] at q;cases q
 ·rw[f3] at q;cases q
theorem PourAt.frz (p:PourAt K C H me N aS aP ap aj M){L:List Addr}(s:Frz L H H')(hL:∀x∈L,x∈M):PourAt K C H' me N aS aP ap aj M:=by
 obtain⟨F,f1,f2,f3,f4,f5⟩:=p.ok;refine⟨⟨F,λb o q=>s b o (λz=>?_) (f1 b o q),f2,f3,f4,f5⟩,p.mu,s _ _ (λz=>(p.mu _ (hL _ z)).1 rfl) p.st,s _ _ (λz=>(p.mu _ (hL _ z)).2 rfl) p.sp,p.ne,p.wf,p.ls,p.lp,p.sm,p.sk⟩;rw[f4 b (hL b z)] at q;cases q
theorem PourAt.new (p:PourAt K C H me N aS aP ap aj M){l:Addr}(h:H l=none):PourAt K C H me N aS aP ap aj (l::M):=by
 obtain⟨F,f1,f2,f3,f4,f5⟩:=p.ok;refine⟨⟨F,f1,f2,f3,λm hm=>?_,f5⟩,λm hm=>?_,p.st,p.sp,p.ne,p.wf,p.ls,p.lp,p.sm,p.sk⟩
 ·rcases y0k.mp hm with rfl | hm
  ·exact f1.free h
  ·exact f4 m hm
 ·rcases y0k.mp hm with rfl | hm
  ·exact⟨λz=>(z08 p.st h) z.symm,λz=>(z08 p.sp h) z.symm⟩
  ·exact p.mu m hm
theorem PourAt.less (p:PourAt K C H me N aS aP ap aj M){L:List Addr}(h:∀x∈L,x∈M):PourAt K C H me N aS aP ap aj L:=by
 obtain⟨F,f1,f2,f3,f4,f5⟩:=p.ok;exact⟨⟨F,f1,f2,f3,λm hm=>f4 m (h m hm),f5⟩,λm hm=>p.mu m (h m hm),p.st,p.sp,p.ne,p.wf,p.ls,p.lp,p.sm,p.sk⟩
theorem Fix.get {F:Hp}(f:Fix K C F me N aS aP):∃dx fs aT aA ts rs,F me=some (.ins C dx fs)/\fs.lookup ("many_gives":Str)=some (.int (N.G:Int))/\fs.lookup ("tie_ends":Str)=some (.ref aT)/\fs.lookup ("sent":Str)=some (.ref aS)/\fs.lookup ("spare":Str)=some (.ref aP)/\fs.lookup ("ties_at":Str)=some (.ref aA) /\
  F aT=some (.lst ts)/\IsAll K F ts (N.ends.map pr)/\F aA=some (.lst rs)/\IsAll K F rs (N.at'.map z39) /\
  (∀m:Str,m∈(["far_end","may_go","gives_with_rest","has_room","steps_to_room","row_behind","send_by_steps","way_from","skip_dead_ties","leads_on","send_along","fill"]:List Str)->fs.lookup m=none):=by
 obtain⟨dx,fs,aT,aA,g1,g2,g3,g4,g5,g6,g7,g8,g9⟩:=f.obj;obtain⟨a,ts,e1,h1,h2⟩:=is_list.mp g7;obtain⟨b,rs,e2,h3,h4⟩:=is_list.mp g8;cases e1;cases e2;exact⟨dx,fs,aT,aA,ts,rs,g1,g2,g3,g4,g5,g6,h1,h2,h3,h4,g9⟩
theorem Same.frz {F:Hp}(s:Same F H){L:List Addr}(f:Frz L H H')(h:∀x∈L,F x=none):Same F H':=λb o q=>f b o (λz=>by rw[h b z] at q;cases q) (s b o q)
theorem PourAt.get (p:PourAt K C H me N aS aP ap aj M):∃dx fs aT aA ts rs,H me=some (.ins C dx fs)/\fs.lookup ("many_gives":Str)=some (.int (N.G:Int))/\fs.lookup ("tie_ends":Str)=some (.ref aT)/\fs.lookup ("sent":Str)=some (.ref aS)/\fs.lookup ("spare":Str)=some (.ref aP)/\fs.lookup ("ties_at":Str)=some (.ref aA) /\
  H aT=some (.lst ts)/\IsAll K H ts (N.ends.map pr)/\H aA=some (.lst rs)/\IsAll K H rs (N.at'.map z39) /\
  (∀m:Str,m∈(["far_end","may_go","gives_with_rest","has_room","steps_to_room","row_behind","send_by_steps","way_from","skip_dead_ties","leads_on","send_along","fill"]:List Str)->fs.lookup m=none):=by
 obtain⟨F,f1,f2,f3,f4,⟨dx,fs,aT,aA,g1,g2,g3,g4,g5,g6,g7,g8,g9⟩⟩:=p.ok;obtain⟨a,ts,e1,h1,h2⟩:=is_list.mp g7;obtain⟨b,rs,e2,h3,h4⟩:=is_list.mp g8;cases e1;cases e2;exact⟨dx,fs,aT,aA,ts,rs,f1 _ _ g1,g2,g3,g4,g5,g6,f1 _ _ h1,IsAll.same f1 _ _ h2,f1 _ _ h3,IsAll.same f1 _ _ h4,g9⟩
end
theorem zkq {K:y03}{H:Hp}{ps:List (Nat×Nat)}{xs:List V}{i:Nat}{p:Nat×Nat}(al:IsAll K H xs (ps.map pr))(h:ps[i]?=some p):∃a,xs[i]?=some (.ref a)/\H a=some (.tup [.int (p.1:Int),.int (p.2:Int)]):=by
 obtain⟨x,h1,h2⟩:=z1m (i:=i) (d:=pr p) al (by rw[y06,h];rfl)
 unfold pr at h2;obtain⟨a,rfl,ha⟩:=is_frac.mp h2;exact⟨a,h1,ha⟩
theorem z4c {K:y03}{H:Hp}{ns:List Nat}{xs:List V}(h:IsAll K H xs (ns.map λ(n:Nat)=>.int (n:Int))):xs=z09 ns:=by
 have e:(ns.map λ(n:Nat)=>PyData.int (n:Int))=(ns.map λ(n:Nat)=>(n:Int)).map PyData.int:=by rw[y1z];rfl
 rw[e] at h;rw[z9q h,y1z];rfl
theorem z28 {K:y03}{H:Hp}(ns:List Nat):IsAll K H (z09 ns) (ns.map λ(n:Nat)=>.int (n:Int)):=by
 have e:(ns.map λ(n:Nat)=>PyData.int (n:Int))=(ns.map λ(n:Nat)=>(n:Int)).map PyData.int:=by rw[y1z];rfl
 have e2:z09 ns=(ns.map λ(n:Nat)=>(n:Int)).map V.int:=by unfold z09;rw[y1z];rfl
 rw[e,e2];exact z35 _
theorem z41 {K:y03}{H:Hp}{ps:List (List Nat)}{xs:List V}{i:Nat}{l:List Nat}(al:IsAll K H xs (ps.map z39))(h:ps[i]?=some l):∃a,xs[i]?=some (.ref a)/\H a=some (.lst (z09 l)):=by
 obtain⟨x,h1,h2⟩:=z1m (i:=i) (d:=z39 l) al (by rw[y06,h];rfl)
 unfold z39 at h2;obtain⟨a,ys,rfl,ha,hal⟩:=is_list.mp h2;rw[z4c hal] at ha;exact⟨a,h1,ha⟩
theorem zhk {l:List Nat}{i n:Nat}(h:l[i]?=some n):(z09 l)[i]?=some (.int (n:Int)):=by
 unfold z09;rw[y06,h];rfl
theorem z2q {l:List Nat}{i:Nat}{v:V}(h:(z09 l)[i]?=some v):∃n:Nat,l[i]?=some n/\v = .int (n:Int):=by
 unfold z09 at h;rw[y06] at h;cases q:l[i]? with
 | none=>rw[q] at h;cases h
 | some n=>rw[q] at h;exact⟨n,rfl,(y12 h).symm⟩
theorem z3a {l:List Int}{i:Nat}{s:Int}(h:l[i]?=some s):atI (l.map V.int) (i:Int)=some (.int s):=z24 (by rw[y06,h];rfl)
theorem z19 {l:List Int}{i:Nat}(h:i<l.length):l[i]?=some (l.getD i 0):=by
 rw[y01 h];simp[y1l,y01 h]
theorem z3g {n k:Nat}(h:k<n):ixN n (k:Int)=some k:=by
 unfold ixN;rw[if_pos (by lia),if_pos (by lia)]
 rfl
theorem z7q {α:Type}{xs:List α}{x:α}(h:xs.getLast?=some x):atI xs (-1)=some x:=by
 have hne:xs ≠ []:=by rintro rfl;simp at h
 have hp:=y0x.mpr hne;unfold atI ixN;rw[if_neg (by decide),if_pos (by lia)]
 have e:((-1:Int)+xs.length).toNat=xs.length - 1:=by lia
 simp only[Option.bind_some,e];rw[y1e] at h;exact h
theorem z5r {l:List Int}{e:Nat}{s:Int}(h:l[e]?=some s):(l.map V.int)[((e:Nat):Int).toNat]?=some (.int s):=by
 rw[y3c,y06,h];rfl
theorem z3y {α:Type}(x:α):∀n:Nat,(y07 n [x]).flatten=y07 n x
 | 0=>rfl
 | n+1=>by rw[y1s,y1s,y3r,z3y x n];rfl
theorem _root_.PM.Behind.weakT {N:PM.Net}{ap:List Int}{d:Nat}{row:List Nat}{aE aa:List Int}{aD:List Nat}{P Q:Nat->Nat->Prop}(B:PM.Behind N ap d row aE P aa aD)(h:∀a k b,Q a k->PM.Tie N a k b->P a k):PM.Behind N ap d row aE Q aa aD :=
 ⟨B.len,B.old,B.new,B.beh,λa k b q t g=>B.cl a k b (h a k b q t) t g⟩
theorem _root_.PM.unr_set:∀{l:List Int} {i:Nat} {x v:Int},l[i]?=some x->x<0->0≤v->PM.unr (l.set i v)+1=PM.unr l
 | [],_,_,_,h,_,_=>by simp at h
 | y::r,0,x,v,h,h1,h2=>by
  simp at h;subst h;unfold PM.unr;have:¬v<0:=by lia
  rw[y40,y4l,y4l];simp[h1,this]
 | y::r,i+1,x,v,h,h1,h2=>by
  have ih:=PM.unr_set (l:=r) (i:=i) (x:=x) (v:=v) (by simpa using h) h1 h2
  unfold PM.unr at ih ⊢
  rw[y41,y4l,y4l];lia
theorem _root_.PM.unr_len (l:List Int):PM.unr l≤l.length:=List.countP_le_length
theorem zf5 {aa:List Int}{e:Nat}(h:e<aa.length):aa[e]?=some (PM.Lv aa e):=by
 unfold PM.Lv;rw[y01 h];simp[y1l,y01 h]
theorem zat {aa:List Int}{e:Nat}(h:0≤PM.Lv aa e):e<aa.length:=by
 rcases y3x e aa.length with z | z
 ·exact z
 ·have:PM.Lv aa e = -1:=by simp[PM.Lv,y1l,y0u z]
  lia
def goB (N:PM.Net)(ap:List Int)(e k:Nat):Bool:=decide (e<N.G)||decide (0<ap.getD k 0)
theorem zda {N:PM.Net}{ap:List Int}{e k:Nat}(hk:k<ap.length):goB N ap e k=true↔PM.Go N ap e k:=by
 unfold goB PM.Go;rw[y5x,decide_eq_true_eq,decide_eq_true_eq];constructor
 ·rintro(h | h)
  ·exact .inl h
  ·exact .inr ⟨_,z19 hk,h⟩
 ·rintro(h | ⟨s,h1,h2⟩)
  ·exact .inl h
  ·right;rw[z19 hk] at h1;cases h1;exact h2
def z5o (N:PM.Net)(aj:List Int)(e:Nat):Bool:=decide (N.G≤e)&&decide (0<aj.getD e 0)
theorem z45 {N:PM.Net}{aj:List Int}{e:Nat}(he:e<aj.length):z5o N aj e=true↔PM.Room N aj e:=by
 unfold z5o PM.Room;rw[y1b,decide_eq_true_eq,decide_eq_true_eq];constructor
 ·rintro⟨h1,h2⟩;exact⟨h1,_,z19 he,h2⟩
 ·rintro⟨h1,x,h2,h3⟩;rw[z19 he] at h2;cases h2;exact⟨h1,h3⟩
def rest (N:PM.Net)(aj:List Int):List Nat:=(y0f N.G).filter λg=>decide (0<aj.getD g 0)
section
variable (K:y03)(C:Addr)
def zk4:Sp:=λvs H Q _=>∃(me:Addr) (N:PM.Net) (aS aP:Addr) (ap aj:List Int) (M:List Addr) (e k b:Nat),vs = [.ref me,.int (e:Int),.int (k:Int)]/\PourAt K C H me N aS aP ap aj M/\PM.Tie N e k b/\Q (.int (b:Int)) H
def zmg:Sp:=λvs H Q _=>∃(me:Addr) (N:PM.Net) (aS aP:Addr) (ap aj:List Int) (M:List Addr) (e k:Nat),vs = [.ref me,.int (e:Int),.int (k:Int)]/\PourAt K C H me N aS aP ap aj M/\k<ap.length/\Q (.bl (goB N ap e k)) H
def zim:Sp:=λvs H Q _=>∃(me:Addr) (N:PM.Net) (aS aP:Addr) (ap aj:List Int) (M:List Addr),vs = [.ref me]/\PourAt K C H me N aS aP ap aj M/\∀l,H l=none->Q (.ref l) (upd H l (.lst (z09 (rest N aj))))
def ze3:Sp:=λvs H Q _=>∃(me:Addr) (N:PM.Net) (aS aP:Addr) (ap aj:List Int) (M:List Addr) (l:Addr) (es:List Nat),vs = [.ref me,.ref l]/\PourAt K C H me N aS aP ap aj M/\H l=some (.lst (z09 es))/\es.length≤1000/\(∀e∈es,e<N.nE)/\∀H',Same H H'->Q (.bl (es.any (z5o N aj))) H'
def zdi:Sp:=λvs H Q _=>∃(me:Addr) (N:PM.Net) (aS aP:Addr) (ap aj:List Int) (M:List Addr) (ar ast:Addr) (row:List Nat) (aE:List Int) (d:Nat),vs = [.ref me,.ref ar,.ref ast]/\PourAt K C H me N aS aP ap aj M/\ast∈M /\
 H ar=some (.lst (z09 row))/\ar≠ast/\H ast=some (.lst (aE.map V.int))/\aE.length=N.nE/\(∀e∈row,PM.Lv aE e=d) /\
 ∀(l:Addr) (aa:List Int) (aD:List Nat) H',Frz [ast] H H'->H' ast=some (.lst (aa.map V.int))->H l=none->H' l=some (.lst (z09 aD))->PM.Behind N ap d row aE (λa _=>a∈row) aa aD->aD.length+PM.unr aa=PM.unr aE->Q (.ref l) H'
def zo7 (N:PM.Net)(ap aj aa:List Int):Prop:=∃(d:Nat) (row:List Nat),PM.Rows N ap aj d row aa/\(row = []∨∃e∈row,PM.Room N aj e)
def zhd:Sp:=λvs H Q _=>∃(me:Addr) (N:PM.Net) (aS aP:Addr) (ap aj:List Int) (M:List Addr),vs = [.ref me]/\PourAt K C H me N aS aP ap aj M /\
 ∀(l:Addr) (aa:List Int) H',Same H H'->H l=none->H' l=some (.lst (aa.map V.int))->aa.length=N.nE->zo7 N ap aj aa->Q (.ref l) H'
def zgi (N:PM.Net)(ap aa:List Int)(e k b:Nat):Bool:=decide (PM.Lv aa b=PM.Lv aa e+1)&&goB N ap e k
def zgu:Sp:=λvs H Q _=>∃(me:Addr) (N:PM.Net) (aS aP:Addr) (ap aj:List Int) (M:List Addr) (ast:Addr) (aa:List Int) (e k b:Nat),vs = [.ref me,.int (e:Int),.int (k:Int),.ref ast]/\PourAt K C H me N aS aP ap aj M/\H ast=some (.lst (aa.map V.int))/\aa.length=N.nE/\PM.Tie N e k b/\Q (.bl (zgi N ap aa e k b)) H
def zlj:Sp:=λvs H Q _=>∃(me:Addr) (N:PM.Net) (aS aP:Addr) (ap aj:List Int) (M:List Addr) (ast atr:Addr) (aa aB:List Int) (e g:Nat) (es way:List Nat),vs = [.ref me,.int (e:Int),.ref ast,.ref atr]/\PourAt K C H me N aS aP ap aj M/\atr∈M/\ast≠atr/\H ast=some (.lst (aa.map V.int))/\aa.length=N.nE/\H atr=some (.lst (aB.map V.int)) /\
 PM.Walk N ap aj aa g aB es way/\es.getLast?=some e/\e<N.nE /\
 ∀(aH:List Int) H',Frz [atr] H H'->H' atr=some (.lst (aH.map V.int))->PM.Walk N ap aj aa g aH es way->PM.pot N.at' aH≤PM.pot N.at' aB->(∀b,PM.Exh N aj aB b->PM.Exh N aj aH b) ->
  (∃(l:List Nat) (t:Nat),N.at'[e]?=some l/\aH[e]?=some (t:Int)/\t≤l.length/\∀k b,l[t]?=some k->PM.Tie N e k b->zgi N ap aa e k b=true)->Q .non H'
end
theorem zkx {N:PM.Net}(W:N.WF){e k b:Nat}(t:PM.Tie N e k b):e<N.nE/\b<N.nE/\k<N.ends.length:=by
 obtain⟨p,hp,q⟩:=t;have h1:=W.lo k p hp;have h2:=W.gle
 have h3:=(y00.mp hp).1;rcases q with q | q<;>refine⟨?_,?_,?_⟩<;>lia
theorem zbw {N:PM.Net}(W:N.WF){ap aa:List Int}{e k b:Nat}(t:PM.Tie N e k b)(hl:ap.length=N.ends.length):zgi N ap aa e k b=true↔PM.Leads N ap aa e k b:=by
 unfold zgi PM.Leads;rw[y1b,decide_eq_true_eq,zda (by rw[hl];exact(zkx W t).2.2)]
 exact⟨λh=>⟨t,h.2,h.1⟩,λh=>⟨h.2.2,h.2.1⟩⟩
theorem zla {N:PM.Net}(W:N.WF){e k:Nat}{l:List Nat}(hl:N.at'[e]?=some l)(hk:k∈l):∃b,PM.Tie N e k b:=by
 obtain⟨p,hp,hpe⟩:=(W.mem e l k hl).mp hk;rcases hpe with z | z
 ·exact⟨p.2,p,hp,.inl ⟨z,rfl⟩⟩
 ·exact⟨p.1,p,hp,.inr ⟨z,rfl⟩⟩
theorem rest_mem {N:PM.Net}{aj:List Int}{g:Nat}:g∈rest N aj↔g<N.G/\0<aj.getD g 0:=by
 unfold rest;rw[y18,y1d,decide_eq_true_eq]
theorem ziw {N:PM.Net}{aj:List Int}:(rest N aj).length≤N.G:=by
 unfold rest;refine y17 (y3p _ _) ?_;simp
theorem zqx {N:PM.Net}(W:N.WF){ap aj aa:List Int}(hl:aa.length=N.nE)(hp:aj.length=N.nE)(h:∀e,PM.Lv aa e=if e∈rest N aj then 0 else -1):PM.Rows N ap aj 0 (rest N aj) aa:=by
 have hg:=W.gle;have two:∀e,(e∈rest N aj/\PM.Lv aa e=0)∨(e ∉ rest N aj/\PM.Lv aa e = -1):=λe=>by
  have:=h e
  by_cases c:e∈rest N aj
  ·rw[if_pos c] at this;exact .inl ⟨c,this⟩
  ·rw[if_neg c] at this;exact .inr ⟨c,this⟩
 refine⟨⟨hl,λe he=>?_,λg x hg' hx h0=>?_,λe he=>?_⟩,λe=>?_,λe=>?_,λa k b t g h1 h2=>?_,λe h1 h2=>?_⟩
 ·rcases two e with ⟨a,b⟩ | ⟨a,b⟩
  ·obtain⟨a1,a2⟩:=rest_mem.mp a;exact⟨a1,_,z19 (by lia),a2⟩
  ·lia
 ·have:g∈rest N aj:=rest_mem.mpr ⟨hg',by rw[z19 (by lia)] at hx;cases hx;exact h0⟩
  rw[h g,if_pos this]
 ·rcases two e with ⟨a,b⟩ | ⟨a,b⟩<;>lia
 ·rcases two e with ⟨a,b⟩ | ⟨a,b⟩
  ·exact⟨λ_=>by lia,λ_=>a⟩
  ·exact⟨λz=>absurd z a,λz=>by lia⟩
 ·rcases two e with ⟨a,b⟩ | ⟨a,b⟩<;>lia
 ·lia
 ·lia
theorem Frz.new {L:List Addr}{H H':Hp}{l:Addr}{o:HO}(f:Frz L H H')(h:H l=none):Frz L H (L2.upd H' l o):=λb u hb q=>by
 rw[z0a (z08 q h)];exact f b u hb q
theorem z47 (l:List Nat):(z09 l).length=l.length:=by unfold z09;rw[y04]
theorem ze9 (l:List Nat)(n:Nat):z09 l ++ [.int (n:Int)]=z09 (l ++ [n]):=by unfold z09;rw[y0g];rfl
theorem zfv (l:List Nat):(z09 l).dropLast=z09 l.dropLast:=by unfold z09;rw[List.map_dropLast]
theorem z72 {l:List Nat}{n:Nat}(h:l.getLast?=some n):(z09 l).getLast?=some (.int (n:Int)):=by
 unfold z09;rw[List.getLast?_map,h];rfl
theorem ze0:∀{n:Nat} {l:List Nat},l.Nodup->(∀x∈l,x<n)->l.length≤n
 | 0,[],_,_=>y0b _
 | 0,x::l,_,h=>absurd (h x y0d) (y43 _)
 | n+1,l,hn,h=>by
  have h1:(l.filter λx=>decide (x<n)).length≤n:=ze0 (hn.filter _) λx hx=>by simpa using (y18.mp hx).2
  have h2:l.length≤(l.filter λx=>decide (x<n)).length+l.count n:=by
   clear h1
   induction l with
   | nil=>simp
   | cons x l ih =>
    have hx:=h x y0d;have:=ih (y3j.mp hn).2 λy hy=>h y (y0a _ hy)
    rw[y3h,y61]
    by_cases c:x<n
    ·have c2:¬(x==n)=true:=by simp;lia
     simp only[c,decide_true,if_true,y1a,c2];simp;lia
    ·have c2:x=n:=by lia
     subst c2;simp;lia
  have h3:=y4p.mp hn n;lia
section
variable (K:y03)(C:Addr)
def Way (N:PM.Net)(ap aj aa:List Int)(g:Nat)(aB:List Int)(way:List Nat):Prop:=(way = []/\PM.Exh N aj aB g)∨(way ≠ []/\∃(es:List Nat) (f:Nat),PM.Path N aa ap es way/\es[0]?=some g/\es[way.length]?=some f/\PM.Room N aj f)
def zoe:Sp:=λvs H Q _=>∃(me:Addr) (N:PM.Net) (aS aP:Addr) (ap aj:List Int) (M:List Addr) (ast atr:Addr) (aa aB:List Int) (g:Nat),vs = [.ref me,.int (g:Int),.ref ast,.ref atr]/\PourAt K C H me N aS aP ap aj M/\atr∈M/\ast≠atr/\H ast=some (.lst (aa.map V.int))/\aa.length=N.nE/\H atr=some (.lst (aB.map V.int)) /\
 PM.Lv aa g=0/\g<N.G/\PM.Tr N aB/\PM.Dead N ap aj aa aB /\
 ∀(lw:Addr) (way:List Nat) (aH:List Int) H',Frz [atr] H H'->H' atr=some (.lst (aH.map V.int))->H lw=none->H' lw=some (.lst (z09 way))->PM.Tr N aH->PM.Dead N ap aj aa aH->(∀b,PM.Exh N aj aB b->PM.Exh N aj aH b)->Way N ap aj aa g aH way->way.length≤1000->Q (.ref lw) H'
end
theorem zaw:∀(b:Bool) (l:List Nat),PM.alt b (z09 l)=z09 (PM.alt b l)
 | true,[]=>rfl
 | false,[]=>rfl
 | true,x::r=>by
  show V.int (x:Int)::PM.alt false (z09 r)=V.int (x:Int)::z09 (PM.alt false r);rw[zaw false r]
 | false,x::r=>by
  show PM.alt true (z09 r)=z09 (PM.alt true r);exact zaw true r
theorem z8p (a:Int)(ap:List Int)(l:List Nat)(k:Nat):PM.addAll a ap (l ++ [k])=(PM.addAll a ap l).set k ((PM.addAll a ap l).getD k 0+a):=by
 unfold PM.addAll;rw[y4d];rfl
section
variable (K:y03)(C:Addr)
def zlm:Sp:=λvs H Q _=>∃(me:Addr) (N:PM.Net) (aS aP:Addr) (ap aj:List Int) (M:List Addr) (lw:Addr) (cap aa:List Int) (g f:Nat) (es way:List Nat),vs = [.ref me,.int (g:Int),.ref lw]/\PourAt K C H me N aS aP ap aj M/\lw∈M/\H lw=some (.lst (z09 way))/\way.length≤1000/\way ≠ [] /\
 PM.Flow N cap ap aj/\PM.Path N aa ap es way/\es[0]?=some g/\es[way.length]?=some f/\PM.Room N aj f/\g<N.G/\0<aj.getD g 0 /\
 ∀(a:Int) (aG:List Int) H',0<a->Frz [aS,aP] H H'->H' aS=some (.lst ((PM.sendBy a ap way).map V.int))->H' aP=some (.lst (aG.map V.int))->PM.Sent N cap ap aj way g f a aG->aG.getD g 0<aj.getD g 0->(∀e,e<N.G->e≠g->aG.getD e 0=aj.getD e 0)->Q .non H'
end
theorem zdy {α:Type}:∀(b:Bool) (l:List α),(PM.alt b l).length≤l.length
 | true,[]=>y0b _
 | false,[]=>y0b _
 | true,x::r=>by
  have:=zdy false r;show(PM.alt false r).length+1≤r.length+1;lia
 | false,x::r=>by
  have:=zdy true r;show(PM.alt true r).length≤r.length+1;lia
theorem szz {n:Nat}(h:n≤1000000):n≤sizeLine:=y17 h (by decide)
section
variable (K:y03)(C:Addr)
def zhc:Sp:=λvs H Q _=>∃(me:Addr) (N:PM.Net) (aS aP:Addr) (aN aC:List Int) (M:List Addr) (ast:Addr) (cap aa:List Int),vs = [.ref me,.ref ast]/\PourAt K C H me N aS aP aN aC M/\ast∈M/\H ast=some (.lst (aa.map V.int))/\aa.length=N.nE /\
 PM.Flow N cap aN aC/\PM.Steps N aN aC aa /\
 ∀(ap aj:List Int) H',Frz [aS,aP] H H'->H' aS=some (.lst (ap.map V.int))->H' aP=some (.lst (aj.map V.int))->PM.Flow N cap ap aj->(∀(e:Nat) x y,aC[e]?=some x->aj[e]?=some y->y≤x)->(∀e,0≤PM.Lv aa e->PM.Room N aC e->aj.sum<aC.sum)->Q .non H'
end
theorem tr0 {N:PM.Net}(W:N.WF):PM.Tr N (y07 N.nE 0):=⟨by rw[y1k],λe l t _ h=>by
 rw[y1f] at h
 split at h
 ·cases h;constructor<;>lia
 ·cases h⟩
theorem zqk {N:PM.Net}{ap aj aa:List Int}:PM.Dead N ap aj aa (y07 N.nE 0):=λe l j k t _ _ h hj=>by
 rw[y1f] at h
 split at h
 ·cases h;lia
 ·cases h
theorem zfg {N:PM.Net}{aj:List Int}:(rest N aj).Nodup:=List.Pairwise.filter _ y4m
theorem zfq {l:List Nat}(h:l.Nodup){i g:Nat}(hg:l[i]?=some g):g ∉ l.take i:=λhm=>by
 obtain⟨j,hj⟩:=y08 hm;have hji:j<i:=by
  have:=(y00.mp hj).1;rw[y0t] at this;lia
 rw[y5c hji] at hj;have hi:=(y00.mp hg).1;have hjl:=(y00.mp hj).1
 have e:l[j]=l[i]:=by
  rw[(y00.mp hj).2,(y00.mp hg).2]
 exact y2b.mp h j i hjl hi hji e
section
variable (K:y03)(C:Addr)
def z3v (aa:List Int):List Bool:=aa.map λs=>decide (0≤s)
def zl8:Sp:=λvs H Q _=>∃(me:Addr) (N:PM.Net) (aS aP:Addr) (aN aC:List Int) (M:List Addr) (cap:List Int),vs = [.ref me]/\PourAt K C H me N aS aP aN aC M/\PM.Flow N cap aN aC /\
 ∀(l:Addr) (ap aj aa:List Int) H',Frz [aS,aP] H H'->H' aS=some (.lst (ap.map V.int))->H' aP=some (.lst (aj.map V.int))->PM.Done N cap ap aj aa->(∀(e:Nat) x y,aC[e]?=some x->aj[e]?=some y->y≤x)->aa.length=N.nE->H l=none->H' l=some (.lst ((z3v aa).map V.bl))->Q (.ref l) H'
end
def z97 (aa:List Int)(i:Nat):List Nat:=(y0f i).filter λe=>decide (0≤PM.Lv aa e)
theorem z9l (aa:List Int)(i:Nat):z97 aa (i+1)=z97 aa i++(if 0≤PM.Lv aa i then [i] else []):=by
 unfold z97;rw[y3q,y3i];congr 1
 by_cases c:0≤PM.Lv aa i<;>simp[c]
theorem zbd (aa:List Int)(i:Nat):(z97 aa i).length≤i:=by
 unfold z97;refine y17 (y3p _ _) ?_;simp
theorem reach_mem {aa:List Int}{e:Nat}:e∈z97 aa aa.length↔0≤PM.Lv aa e:=by
 unfold z97;rw[y18,y1d,decide_eq_true_eq];exact⟨λh=>h.2,λh=>⟨zat h,h⟩⟩
theorem z2h {K:y03}{H H':Hp}:∀{ps:List (Nat×Nat)} {xs:List V},IsAll K H xs (ps.map pr)->(∀b ys,H b=some (.tup ys)->H' b=some (.tup ys))->IsAll K H' xs (ps.map pr)
 | [],xs,h,_=>by simpa only[y3l,IsAll] using h
 | p::ps,xs,h,k=>by
  rw[y0l] at h ⊢
  simp only[IsAll] at h;obtain⟨v,vs,rfl,q,al⟩:=h;refine z1c ?_ (z2h al k);obtain⟨a,rfl,ha⟩:=is_frac.mp q;exact is_frac.mpr ⟨a,rfl,k _ _ ha⟩
structure FF (fs:List (Str×V))(n:Nat)(g:Str->Option V):Prop where
 len:fs.length≤n
 get:∀m,fs.lookup m=g m
theorem FF.nil:FF [] 0 λ_=>none:=⟨y0b _,λ_=>rfl⟩
theorem FF.put {fs:List (Str×V)}{n:Nat}{g:Str->Option V}(h:FF fs n g)(f:Str)(v:V):FF (z8z f v fs) (n+1) λm=>if m=f then some v else g m :=
 ⟨y17 (z5w f v fs) (Nat.succ_le_succ h.len),λm=>by rw[z5s,h.get m]⟩
theorem zep {K:y03}{H:Hp}:∀{xs:List V} {ds:List PyData},xs.length=ds.length->(∀(i:Nat) x d,xs[i]?=some x->ds[i]?=some d->Is K H x d)->IsAll K H xs ds
 | [],[],_,_=>z0r
 | [],_::_,h,_=>by simp at h
 | _::_,[],h,_=>by simp at h
 | x::xs,d::ds,h,g=>z1c (g 0 x d rfl rfl) (zep (by simpa using h) λi y e h1 h2=>g (i+1) y e (by simpa using h1) (by simpa using h2))
theorem zn1 {α:Type}(n e:Nat)(f:Nat->α)(v:α):((y0f n).map f).set e v=(y0f n).map λx=>if x=e then v else f x:=by
 apply y2f;intro i;rw[List.getElem?_set,y06,y06,y04,y2q]
 by_cases hi:i<n
 ·rw[y1w hi]
  by_cases c:e=i
  ·subst c;simp[hi]
  ·have c':¬i=e:=λz=>c z.symm;simp[c,c']
 ·rw[y0u (by simpa using hi)]
  by_cases c:e=i
  ·subst c;simp[hi]
  ·simp[c]
theorem z6g {α:Type}{n e:Nat}(f:Nat->α)(h:e<n):((y0f n).map f)[e]?=some (f e):=by
 rw[y06,y1w h];rfl
theorem zbx:∀{ends:List (Nat×Nat)} {ap:List Int} {p:Nat×Nat} {s:Int} {e:Nat},ap.length=ends.length->PM.load (ends ++ [p]) (ap ++ [s]) e=PM.load ends ap e+(if PM.inc p e then s else 0)
 | [],[],p,s,e,_=>by simp[PM.load]
 | [],_::_,_,_,_,h=>by simp at h
 | _::_,[],_,_,_,h=>by simp at h
 | q::r,x::y,p,s,e,h=>by
  have ih:=zbx (ends:=r) (ap:=y) (p:=p) (s:=s) (e:=e) (by simpa using h)
  simp only[y7a,PM.load,ih];lia
def z0s (G:Nat)(az:List (Nat×Nat)):List (Nat×Nat):=az.map λp=>(p.1,G+p.2)
def zdk (ends:List (Nat×Nat))(i e:Nat):List Nat:=(y0f i).filter λk=>PM.inc (ends.getD k (0,0)) e
theorem zih (ends:List (Nat×Nat))(i e:Nat):zdk ends (i+1) e=zdk ends i e++(if PM.inc (ends.getD i (0,0)) e then [i] else []):=by
 unfold zdk;rw[y3q,y3i];congr 1;rw[y3h,y7i]
def zev (cap:List Int)(ends:List (Nat×Nat))(ss:List Int)(i e:Nat):Int:=cap.getD e 0 - PM.load (ends.take i) (ss.take i) e
def z2p (G T:Nat)(az:List (Nat×Nat)):PM.Net:=PM.netOf G T az ((y0f (G+T)).map (zdk (z0s G az) az.length))
theorem zaf {G T:Nat}{az:List (Nat×Nat)}(h:∀p∈az,p.1<G/\p.2<T):(z2p G T az).WF:=by
 have look:∀(k:Nat) p,(z0s G az)[k]?=some p->∃q,az[k]?=some q/\p=(q.1,G+q.2):=λk p hp=>by
  unfold z0s at hp;rw[y06] at hp;cases z:az[k]? with
  | none=>rw[z] at hp;cases hp
  | some q=>rw[z] at hp;exact⟨q,rfl,(y12 hp).symm⟩
 refine⟨y4k _ _,by show((y0f (G+T)).map _).length=G+T;simp,λk p hp=>?_,λe l k hl=>?_⟩
 ·obtain⟨q,h1,rfl⟩:=look k p hp;obtain⟨a,b⟩:=h q (y02 h1);refine⟨a,?_,?_⟩
  ·show G≤G+q.2;lia
  ·show G+q.2<G+T;lia
 ·have hl':((y0f (G+T)).map (zdk (z0s G az) az.length))[e]?=some l:=hl;have he:e<G+T:=by simpa using (y00.mp hl').1
  rw[z6g _ he] at hl';cases hl';unfold zdk;rw[y18,y1d];constructor
  ·rintro⟨h1,h2⟩;have hk:(z0s G az)[k]?=some ((z0s G az).getD k (0,0)):=by
    have:k<(z0s G az).length:=by unfold z0s;rw[y04];exact h1
    rw[y01 this];simp[y1l,y01 this]
   exact⟨_,hk,by simpa [PM.inc] using h2⟩
  ·rintro⟨p,hp,hq⟩;have hp':(z0s G az)[k]?=some p:=hp;have hk:k<az.length:=by have:=(y00.mp hp').1;unfold z0s at this;rw[y04] at this;exact this
   refine⟨hk,?_⟩;rw[show(z0s G az).getD k (0,0)=p by simp[y1l,hp']]
   simpa [PM.inc] using hq
structure Aprt (x lT lS lP lA:Addr)(as:List Addr):Prop where
 Px:lP≠x
 PT:lP≠lT
 PS:lP≠lS
 PA:lP≠lA
 inP:lP ∉ as
 inx:x ∉ as
 inT:lT ∉ as
 inS:lS ∉ as
 inA:lA ∉ as
 nd:as.Nodup
structure IniAt (K:y03)(C:Addr)(H:Hp)(x dx lT lS lP lA:Addr)(fs:List (Str×V))(tl:List V)(E:List (Nat×Nat))(ss:List Int)(as:List Addr)(n:Nat)(sf:Nat->Int)(af:Nat->List Nat):Prop where
 me:H x=some (.ins C dx fs)
 te:H lT=some (.lst tl)
 al:IsAll K H tl (E.map pr)
 st:H lS=some (.lst (ss.map V.int))
 ta:H lA=some (.lst (as.map V.ref))
 sp:H lP=some (.lst (((y0f n).map sf).map V.int))
 tt:∀(e:Nat) (a:Addr),as[e]?=some a->H a=some (.lst (z09 (af e)))
section
variable {K:y03}{C:Addr}{H H':Hp}{x dx lT lS lP lA:Addr}{fs:List (Str×V)}{tl:List V}{E:List (Nat×Nat)}{ss:List Int}{as:List Addr}{n:Nat}{sf:Nat->Int}{af:Nat->List Nat}
theorem IniAt.same (i:IniAt K C H x dx lT lS lP lA fs tl E ss as n sf af)(s:Same H H'):IniAt K C H' x dx lT lS lP lA fs tl E ss as n sf af :=
 ⟨s _ _ i.me,s _ _ i.te,IsAll.same s _ _ i.al,s _ _ i.st,s _ _ i.ta,s _ _ i.sp,λe a h=>s _ _ (i.tt e a h)⟩
theorem IniAt.aj (i:IniAt K C H x dx lT lS lP lA fs tl E ss as n sf af)(A:Aprt x lT lS lP lA as)(sf':Nat->Int):IniAt K C (upd H lP (.lst (((y0f n).map sf').map V.int))) x dx lT lS lP lA fs tl E ss as n sf' af :=
 ⟨by rw[z0a A.Px.symm];exact i.me,by rw[z0a A.PT.symm];exact i.te,z2h i.al λb ys hb=>by rw[z0a (z6q hb i.sp (by intro z;cases z))];exact hb,by rw[z0a A.PS.symm];exact i.st,by rw[z0a A.PA.symm];exact i.ta,z01,
  λe a h=>by rw[z0a (λz=>A.inP (by rw[←z];exact y02 h))];exact i.tt e a h⟩
theorem IniAt.tie (i:IniAt K C H x dx lT lS lP lA fs tl E ss as n sf af)(A:Aprt x lT lS lP lA as){e:Nat}{a:Addr}(ha:as[e]?=some a)(l:List Nat):IniAt K C (upd H a (.lst (z09 l))) x dx lT lS lP lA fs tl E ss as n sf (λy=>if y=e then l else af y):=by
 have hm:=y02 ha;have ne:∀{b:Addr},b ∉ as->b≠a:=λ{b} hb z=>hb (by rw[z];exact hm)
 refine⟨by rw[z0a (ne A.inx)];exact i.me,by rw[z0a (ne A.inT)];exact i.te,z2h i.al λb ys hb=>by rw[z0a (z6q hb (i.tt e a ha) (by intro z;cases z))];exact hb,by rw[z0a (ne A.inS)];exact i.st,by rw[z0a (ne A.inA)];exact i.ta,by rw[z0a (ne A.inP)];exact i.sp,λy b hb=>?_⟩
 by_cases c:y=e
 ·subst c;rw[ha] at hb;cases hb;rw[z01,if_pos rfl]
 ·have hne:b≠a:=λz=>by
   subst z;have h1:=(y00.mp hb).1;have h2:=(y00.mp ha).1
   have h3:as[y]=as[e]:=by rw[(y00.mp hb).2,(y00.mp ha).2]
   rcases Nat.lt_or_gt_of_ne c with q | q
   ·exact y2b.mp A.nd y e h1 h2 q h3
   ·exact y2b.mp A.nd e y h2 h1 q h3.symm
  rw[z0a hne,if_neg c];exact i.tt y b hb
end
theorem zey (l:List Int):(y0f l.length).map (λe=>l.getD e 0)=l:=by
 apply y2f;intro i;rw[y06]
 by_cases h:i<l.length
 ·rw[y1w h,z19 h];rfl
 ·rw[y0u (by simpa using h),y0u (by lia)]
  rfl
section
variable (K:y03)(C:Addr)
def zh7:Sp:=λvs H Q _=>∃(x dx ag ak ai ase:Addr) (gs ts ss:List Int) (az:List (Nat×Nat)),vs = [.ref x,.ref ag,.ref ak,.ref ai,.ref ase]/\H x=some (.ins C dx [])/\H ag=some (.lst (gs.map V.int))/\H ak=some (.lst (ts.map V.int))/\Is K H (.ref ai) (.list (az.map pr))/\H ase=some (.lst (ss.map V.int)) /\
 (∀p∈az,p.1<gs.length/\p.2<ts.length)/\ss.length=az.length/\gs.length+ts.length≤1000/\az.length≤1000 /\
 ∀(aS aP:Addr) H',Frz [x] H H'->H aS=none->H aP=none->PourAt K C H' x (z2p gs.length ts.length az) aS aP ss ((y0f (gs.length+ts.length)).map (zev (gs++ts) (z0s gs.length az) ss az.length)) []->Q .non H'
end
section
variable (K:y03)
def zqc (H:Hp)(Q:VK)(gs ts:List Int)(az:List (Nat×Nat))(R:List Int->List Int->Prop):Prop :=
 ∀(p q aS n1 n2:Addr) (ap aj aa:List Int) H',Same H H'->(H p=none/\H q=none/\H aS=none/\H n1=none/\H n2=none)->(aS≠n1/\aS≠n2/\n1≠n2)->H' p=some (.tup [.ref aS,.ref q])->H' q=some (.tup [.ref n1,.ref n2])->H' aS=some (.lst (ap.map V.int)) ->
  H' n1=some (.lst (((z3v aa).take gs.length).map V.bl))->H' n2=some (.lst (((z3v aa).drop gs.length).map V.bl))->PM.Done (z2p gs.length ts.length az) (gs++ts) ap aj aa->aa.length=gs.length+ts.length->R ap aj->Q (.ref p) H'
def zlo:Sp:=λvs H Q _=>∃(ag ak ai ase:Addr) (gs ts ss:List Int) (az:List (Nat×Nat)),vs = [.ref ag,.ref ak,.ref ai,.ref ase]/\H ag=some (.lst (gs.map V.int))/\H ak=some (.lst (ts.map V.int))/\Is K H (.ref ai) (.list (az.map pr))/\H ase=some (.lst (ss.map V.int)) /\
 (∀p∈az,p.1<gs.length/\p.2<ts.length)/\ss.length=az.length/\gs.length+ts.length≤1000/\az.length≤1000/\(∀(k:Nat) s,ss[k]?=some s->0≤s)/\(∀e<gs.length+ts.length,0≤zev (gs++ts) (z0s gs.length az) ss az.length e) /\
 zqc H Q gs ts az λ_ aj=>∀(e:Nat) x y,((y0f (gs.length+ts.length)).map (zev (gs++ts) (z0s gs.length az) ss az.length))[e]?=some x->aj[e]?=some y->y≤x
def zoa:Sp:=λvs H Q _=>∃(ag ak ai:Addr) (gs ts:List Int) (az:List (Nat×Nat)),vs = [.ref ag,.ref ak,.ref ai]/\H ag=some (.lst (gs.map V.int))/\H ak=some (.lst (ts.map V.int))/\Is K H (.ref ai) (.list (az.map pr)) /\
 (∀p∈az,p.1<gs.length/\p.2<ts.length)/\gs.length+ts.length≤1000/\az.length≤1000/\(∀g∈gs++ts,0≤g)/\zqc H Q gs ts az λ_ _=>True
end
theorem zb6:∀(ends:List (Nat×Nat)) (n e:Nat),PM.load ends (y07 n 0) e=0
 | [],n,e=>by cases n<;>rfl
 | p::r,0,e=>rfl
 | p::r,n+1,e=>by
  rw[y1s];simp only[PM.load,zb6 r n e];simp
theorem zqw {gs ts ss:List Int}{az:List (Nat×Nat)}(hl:ss.length=az.length)(hn:∀(k:Nat) s,ss[k]?=some s->0≤s)(hs:∀e<gs.length+ts.length,0≤zev (gs++ts) (z0s gs.length az) ss az.length e) :
  PM.Flow (z2p gs.length ts.length az) (gs++ts) ss ((y0f (gs.length+ts.length)).map (zev (gs++ts) (z0s gs.length az) ss az.length)):=by
 have hel:(z0s gs.length az).length=az.length:=by unfold z0s;rw[y04]
 refine⟨by show ss.length=(az.map _).length;rw[y04];exact hl,by show _=gs.length+ts.length;simp,by show _=gs.length+ts.length;simp,hn,λe c s hc h=>?_,λe s h=>?_⟩
 ·have he:e<gs.length+ts.length:=by simpa using (y00.mp h).1
  rw[z6g _ he] at h;cases h;unfold zev;rw[y0c (by lia),y0c (by lia)]
  rw[show(gs++ts).getD e 0=c by simp only[y1l,hc,Option.getD_some]]
  rfl
 ·have he:e<gs.length+ts.length:=by simpa using (y00.mp h).1
  rw[z6g _ he] at h;cases h;exact hs e he
theorem znj {P:Program}{w:World}{K:y03}{mg:Str->Option Value}{base:Heap}{x:Str}{C:Addr}{k:Nat}{ps:List Str}{sp:Sp}(D:MDef P w K mg base C "__init__" k ps sp)(h1:y4u K C=true)(h2:y0i K (.ref C)=true)(h3:mg x=some (.ref C)):CDef P w K mg base x C k ps sp:=by
 obtain⟨f,fd,F,b,m⟩:=D.is;exact⟨⟨f,fd,F,b,⟨h1,m.at_,m.fn,h2⟩⟩,h3⟩
end My
set_option Elab.async false
set_option linter.all false
set_option maxRecDepth 100000
namespace My
open PySem L2 L2.EX
end My
set_option Elab.async false
set_option linter.all false
set_option maxRecDepth 100000
namespace My
open PySem L2 L2.EX
theorem z68 {α:Type}{a b:List α}{i:Nat}{d:α}(h:i<a.length):(a++b).getD i d=a.getD i d:=by
 simp[y1l,y0s h]
theorem z8h {α:Type}{a b:List α}{i:Nat}{d:α}:(a++b).getD (a.length+i) d=b.getD i d:=by
 simp[y1l,y10 (y4k _ _)]
section
variable {gs ts ap aj aa:List Int}{az:List (Nat×Nat)}
end
def p1 (gv:List Bool):List Bool->List (Nat×Nat)->List Bool
 | tk,p::ps=>p1 gv (if gv.getD p.1 false=true then tk.set p.2 true else tk) ps
 | tk,[]=>tk
def p2 (tk:List Bool):List Bool->List (Nat×Nat)->List Int->List Bool
 | gv,p::ps,s::ss=>p2 tk (if tk.getD p.2 false=true/\0<s then gv.set p.1 true else gv) ps ss
 | gv,_,_=>gv
def rnd (az:List (Nat×Nat))(ss:List Int)(x:List Bool×List Bool):List Bool×List Bool:=(p2 (p1 x.1 x.2 az) x.1 az ss,p1 x.1 x.2 az)
def its (az:List (Nat×Nat))(ss:List Int):Nat->List Bool×List Bool->List Bool×List Bool
 | 0,x=>x
 | n+1,x=>rnd az ss (its az ss n x)
structure Mk (G T:Nat)(x:List Bool×List Bool):Prop where
 l1:x.1.length=G
 l2:x.2.length=T
section
variable {G T:Nat}{az:List (Nat×Nat)}{ss:List Int}
end
theorem zeo {aa:List Int}{e:Nat}(h:e<aa.length):(z3v aa).getD e false=PM.nr aa e:=by
 unfold z3v PM.nr PM.Lv;simp[y1l,y06,y01 h]
section
variable {gs ts ap aj aa:List Int}{az:List (Nat×Nat)}
end
theorem zdg {l:List Int}{i:Nat}{v:V}(h:(l.map V.int)[i]?=some v):∃n:Int,l[i]?=some n/\v = .int n:=by
 rw[y06] at h;cases q:l[i]? with
 | none=>rw[q] at h;cases h
 | some n=>rw[q] at h;exact⟨n,rfl,(y12 h).symm⟩
theorem zpk {l:List Bool}{i:Nat}{v:V}(h:(l.map V.bl)[i]?=some v):∃n:Bool,l[i]?=some n/\v = .bl n:=by
 rw[y06] at h;cases q:l[i]? with
 | none=>rw[q] at h;cases h
 | some n=>rw[q] at h;exact⟨n,rfl,(y12 h).symm⟩
theorem zom {l:List Int}{i:Nat}(h:i<l.length):atI (l.map V.int) (i:Int)=some (.int (l.getD i 0)):=z3a (z19 h)
structure TellsP (H:Hp)(p q aS n1 n2:Addr)(G:Nat)(ap aa:List Int):Prop where
 h1:H p=some (.tup [.ref aS,.ref q])
 h2:H q=some (.tup [.ref n1,.ref n2])
 h3:H aS=some (.lst (ap.map V.int))
 h4:H n1=some (.lst (((z3v aa).take G).map V.bl))
 h5:H n2=some (.lst (((z3v aa).drop G).map V.bl))
structure AsksP (K:y03)(H:Hp)(ag ak ai:Addr)(gs ts:List Int)(az:List (Nat×Nat)):Prop where
 g:H ag=some (.lst (gs.map V.int))
 t:H ak=some (.lst (ts.map V.int))
 i:Is K H (.ref ai) (.list (az.map pr))
 ok:∀p∈az,p.1<gs.length/\p.2<ts.length
 sm:gs.length+ts.length≤400
 sk:az.length≤400
 nn:∀g∈gs++ts,0≤g
 bd:∀g∈gs++ts,Bd 1200 g
theorem zqr {K:y03}{H:Hp}{a:Addr}{p:Nat×Nat}(h:H a=some (.tup [.int (p.1:Int),.int (p.2:Int)])):Is K H (.ref a) (pr p):=is_frac.mpr ⟨a,rfl,h⟩
def zpj (gs ts:List Int)(az:List (Nat×Nat))(ss:List Int)(e:Nat):Int:=(gs++ts).getD e 0 - PM.load (z0s gs.length az) ss e
structure Fits (gs ts:List Int)(az:List (Nat×Nat))(ss:List Int):Prop where
 len:ss.length=az.length
 nn:∀(k:Nat) s,ss[k]?=some s->0≤s
 rm:∀e<gs.length+ts.length,0≤zpj gs ts az ss e
theorem zi4:∀(ends:List (Nat×Nat)) (ss:List Int) (e:Nat),(∀(k:Nat) s,ss[k]?=some s->0≤s)->0≤PM.load ends ss e
 | [],ss,e,_=>by simp[PM.load]
 | p::ps,[],e,_=>by simp[PM.load]
 | p::ps,s::ss,e,h=>by
  have ih:=zi4 ps ss e λk x hx=>h (k+1) x (by simpa using hx)
  have h0:=h 0 s rfl;simp only[PM.load]
  split<;>lia
section
variable {gs ts ss ap aj aa ck aG steps':List Int}{az:List (Nat×Nat)}
end
end My
set_option Elab.async false
set_option linter.all false
set_option maxRecDepth 100000
namespace My
open PySem L2 L2.EX
theorem z7x:∀(ps kvs:List (Key×V)),(ps.map (·.1)).Nodup->(∀p∈ps,∀q∈kvs,q.1≠p.1)->z3t kvs ps=kvs++ps
 | [],kvs,_,_=>by simp[z3t]
 | p::ps,kvs,h1,h2=>by
  rw[y0l,y3j] at h1;have e:zh3 kvs p.1 p.2=kvs ++ [(p.1,p.2)]:=by
   unfold zh3;rw[if_neg];rw[y1t];rintro⟨q,hq,hd⟩;exact h2 p y0d q hq (of_decide_eq_true hd)
  show z3t (zh3 kvs p.1 p.2) ps=_;rw[e,z7x ps _ h1.2,y32]
  ·rfl
  ·intro p' hp' q hq;rcases y0y.mp hq with hq | hq
   ·exact h2 p' (y0a _ hp') q hq
   ·rw[y09.mp hq];rintro e;exact h1.1 (y1i.mpr ⟨p',hp',e.symm⟩)
theorem z0l (l:List Nat):(z09 l).length=l.length:=by unfold z09;rw[y04]
theorem z73 {l:List Nat}(h:l.Nodup){e a:Nat}(he:l[e]?=some a):l.idxOf a=e:=by
 obtain⟨h1,h2⟩:=y00.mp he;rw[←h2];exact h.idxOf_getElem e h1
def z2c (av:List Nat):List (Key×V):=(y0f av.length).map λj=>(Sum.inl ((av.getD j 0:Nat):Int),V.int (j:Int))
theorem zd2 (av:List Nat):(z2c av).map (·.1)=av.map λ(h:Nat)=>(Sum.inl (h:Int):Key):=by
 unfold z2c;rw[y1z];refine List.ext_getElem (by simp) λi h1 h2=>?_
 simp at h1 h2;simp[y1l,h1]
theorem zgg {av:List Nat}(h:av.Nodup):(av.map λ(h:Nat)=>(Sum.inl (h:Int):Key)).Nodup:=by
 refine List.Pairwise.map _ (λa b hab e=>hab ?_) h;injection e with e
 lia
theorem zf9 {av:List Nat}(h:av.Nodup):z3t [] (z2c av)=z2c av:=by
 rw[z7x]
 ·simp
 ·rw[zd2];exact zgg h
 ·intro p _ q hq;cases hq
def z31 (av:List Nat)(h:Nat):Option Nat:=if h∈av then some (av.idxOf h) else none
theorem zi3 {α:Type}{p:α->Bool}:∀{l:List α} {j:Nat} {x:α},l[j]?=some x->p x=true->(∀(m:Nat) y,m<j->l[m]?=some y->p y=false)->l.find? p=some x
 | [],_,_,h,_,_=>by simp at h
 | a::r,0,x,h,hp,_=>by
  simp at h;subst h;rw[y35,hp]
 | a::r,j+1,x,h,hp,hn=>by
  have h0:=hn 0 a (by lia) rfl
  rw[y35,h0];exact zi3 (by simpa using h) hp λm y hm hy=>hn (m+1) y (by lia) (by simpa using hy)
theorem z8w {av:List Nat}(hd:av.Nodup)(h:Nat):zcb (z2c av) (.inl (h:Int))=(z31 av h).map λj=>V.int (j:Int):=by
 have look:∀(m:Nat) y,(z2c av)[m]?=some y->∃x,av[m]?=some x/\y=(.inl (x:Int),.int (m:Int)):=λm y hy=>by
  unfold z2c at hy;have hm:=(y00.mp hy).1;simp at hm;rw[y06,y1w hm] at hy;simp[y1l,hm] at hy;exact⟨av[m],y01 hm,hy.symm⟩
 unfold zcb z31
 by_cases c:h∈av
 ·rw[if_pos c];obtain⟨j,hj⟩:=y08 c;have hjl:=(y00.mp hj).1;have he:=(y00.mp hj).2
  have hidx:av.idxOf h=j:=z73 hd hj;have hat:(z2c av)[j]?=some (.inl (h:Int),.int (j:Int)):=by
   unfold z2c;rw[y06,y1w hjl];simp[y1l,hj]
  rw[zi3 hat (by simp) λm y hm hy=>?_,hidx]
  ·rfl
  ·obtain⟨x,hx,rfl⟩:=look m y hy;refine decide_eq_false λe=>?_;injection e with e
   have ex:x=h:=by lia
   subst ex;have hml:=(y00.mp hx).1;have h1:=hd.idxOf_getElem m hml
   rw[(y00.mp hx).2] at h1;lia
 ·rw[if_neg c];have:(z2c av).find? (λkv=>decide (kv.1 = .inl (h:Int)))=none:=by
   rw[List.find?_eq_none];intro y hy e;obtain⟨m,hm⟩:=y08 hy;obtain⟨x,hx,rfl⟩:=look m y hm;have e':=of_decide_eq_true e;injection e' with e'
   have ex:x=h:=by lia
   subst ex;exact c (y02 hx)
  rw[this];rfl
def z3e (av:List Nat)(g:Nat)(row:List Nat):List (Nat×Nat):=row.filterMap λh=>(z31 av h).map λp=>(g,p)
def z44 (drs:List (List Nat))(av aq:List Nat):Nat->List (Nat×Nat)
 | 0=>[]
 | i+1=>z44 drs av aq i++z3e av i (drs.getD (aq.getD i 0) [])
def z0o (drs:List (List Nat))(av aq:List Nat):List (Nat×Nat):=z44 drs av aq aq.length
theorem zai {av:List Nat}{h p:Nat}(hp:z31 av h=some p):av[p]?=some h:=by
 unfold z31 at hp
 split at hp
 ·rename_i c;cases hp;have:=y1g c;rw[y01 this];simp
 ·cases hp
theorem place_of {av:List Nat}(hd:av.Nodup){h p:Nat}(hp:av[p]?=some h):z31 av h=some p:=by
 unfold z31;rw[if_pos (y02 hp),z73 hd hp]
theorem z8m {av:List Nat}(hd:av.Nodup){g:Nat}{row:List Nat}{a b:Nat}:(a,b)∈z3e av g row↔a=g/\∃h,av[b]?=some h/\h∈row:=by
 unfold z3e;rw[y52];constructor
 ·rintro⟨h,hr,e⟩;cases q:z31 av h with
  | none=>rw[q] at e;cases e
  | some p =>
   rw[q] at e;cases e;exact⟨rfl,h,zai q,hr⟩
 ·rintro⟨rfl,h,hb,hr⟩;exact⟨h,hr,by rw[place_of hd hb];rfl⟩
theorem z6z {drs:List (List Nat)}{av aq:List Nat}(hd:av.Nodup){a b:Nat}:∀{i:Nat},(a,b)∈z44 drs av aq i↔a<i/\∃h,av[b]?=some h/\h∈drs.getD (aq.getD a 0) []
 | 0=>by simp[z44]
 | i+1=>by
  rw[z44,y0y,z6z hd,z8m hd];constructor
  ·rintro(⟨h1,h2⟩ | ⟨rfl,h2⟩)
   ·exact⟨by lia,h2⟩
   ·exact⟨by lia,h2⟩
  ·rintro⟨h1,h2⟩
   by_cases c:a=i
   ·subst c;exact .inr ⟨rfl,h2⟩
   ·exact .inl ⟨by lia,h2⟩
theorem z26 {drs:List (List Nat)}{av aq:List Nat}(hd:av.Nodup):PM.TiesOk (λc=>drs.getD c []) av aq (z0o drs av aq):=λg t=>by
 unfold z0o;rw[z6z hd];constructor
 ·rintro⟨h1,h,h2,h3⟩;exact⟨aq.getD g 0,h,PM.get_of_lt h1,h2,h3⟩
 ·rintro⟨c,h,h1,h2,h3⟩;refine⟨(y00.mp h1).1,h,h2,?_⟩;rw[PM.getD_of h1];exact h3
theorem zd5 (av:List Nat)(g:Nat)(row:List Nat):(z3e av g row).length≤row.length:=List.length_filterMap_le _ _
theorem z7e (av:List Nat)(g h:Nat)(row:List Nat):z3e av g (row ++ [h])=z3e av g row++(match z31 av h with | some p=>[(g,p)] | none=>[]):=by
 unfold z3e;rw[List.filterMap_append];congr 1;cases q:z31 av h<;>simp[q]
def z5l (av aq:List Nat):PyData:=.tuple [z39 av,z39 aq]
def z64 (drs:List (List Nat)):PyData:=.list (drs.map z39)
theorem is_crowd {K:y03}{H:Hp}{v:V}{av aq:List Nat}:Is K H v (z5l av aq)↔∃a b c,v = .ref a/\H a=some (.tup [.ref b,.ref c])/\H b=some (.lst (z09 av))/\H c=some (.lst (z09 aq)):=by
 unfold z5l z39;constructor
 ·intro h;obtain⟨a,xs,rfl,ha,al⟩:=is_tuple.mp h;simp only[IsAll] at al;obtain⟨v1,vs1,rfl,q1,v2,vs2,rfl,q2,rfl⟩:=al;obtain⟨b,ys,rfl,hb,al1⟩:=is_list.mp q1;obtain⟨c,zs,rfl,hc,al2⟩:=is_list.mp q2;rw[z4c al1] at hb;rw[z4c al2] at hc;exact⟨a,b,c,rfl,ha,hb,hc⟩
 ·rintro⟨a,b,c,rfl,ha,hb,hc⟩;exact is_tuple.mpr ⟨a,_,rfl,ha,z1c (is_list.mpr ⟨b,_,rfl,hb,z28 _⟩) (z46 (is_list.mpr ⟨c,_,rfl,hc,z28 _⟩))⟩
structure AsksC (K:y03)(H:Hp)(aw ad:Addr)(ws:List Int)(drs:List (List Nat)):Prop where
 w:H aw=some (.lst (ws.map V.int))
 d:Is K H (.ref ad) (z64 drs)
 len:drs.length=ws.length
 few:ws.length≤20
 row:∀r∈drs,r.length≤20
 pos:∀x∈ws,1≤x
 bd:∀x∈ws,Bd 300 x
theorem AsksC.same {K:y03}{H H':Hp}{aw ad:Addr}{ws:List Int}{drs:List (List Nat)}(t:AsksC K H aw ad ws drs)(s:Same H H'):AsksC K H' aw ad ws drs:=⟨s _ _ t.w,Is.same s _ _ t.d,t.len,t.few,t.row,t.pos,t.bd⟩
theorem zkf {drs:List (List Nat)}(h:∀r∈drs,r.length≤20)(k:Nat):(drs.getD k []).length≤20:=by
 by_cases z:k<drs.length
 ·have e:drs.getD k []=drs[k]:=by simp[y1l,y01 z]
  rw[e];exact h _ (y2i z)
 ·have e:drs.getD k [] = []:=by simp[y1l,y0u (show drs.length≤k by lia)]
  rw[e];simp
theorem z78 {drs:List (List Nat)}{av aq:List Nat}(h:∀r∈drs,r.length≤20):∀i,(z44 drs av aq i).length≤i*20
 | 0=>by simp[z44]
 | i+1=>by
  have a:=z78 (av:=av) (aq:=aq) h i;have b:=zd5 av i (drs.getD (aq.getD i 0) [])
  have c:=zkf h (aq.getD i 0);rw[z44,y0e];lia
def z2l (ws:List Int)(aq:List Nat):Int:=(aq.map λc=>ws.getD c 0).sum
def zan (K:y03):Sp:=λvs H Q _=>∃(aw:Addr) (vc:V) (ws:List Int) (av aq:List Nat),vs = [.ref aw,vc]/\H aw=some (.lst (ws.map V.int))/\Is K H vc (z5l av aq)/\aq.length≤20/\(∀c∈aq,c<ws.length)/\∀H',Same H H'->Q (.int (z2l ws aq)) H'
structure CrowdOk (n m:Nat)(av aq:List Nat):Prop where
 nd:av.Nodup
 hl:av.length≤20
 cl:aq.length≤20
 ci:∀c∈aq,c<n
def z0q (ws:List Int)(av aq:List Nat):List Int:=aq.map λc=>ws.getD c 0*(av.length:Int)
def takesIn (ws:List Int)(av aq:List Nat):List Int:=y07 av.length (z2l ws aq)
def zaa (K:y03):Sp:=λvs H Q _=>∃(aw ad:Addr) (vc:V) (ws:List Int) (drs:List (List Nat)) (av aq:List Nat),vs = [.ref aw,.ref ad,vc]/\AsksC K H aw ad ws drs/\Is K H vc (z5l av aq)/\CrowdOk ws.length 0 av aq /\
 zqc H Q (z0q ws av aq) (takesIn ws av aq) (z0o drs av aq) λ_ _=>True
def pick {α:Type}(xs:List α)(bs:List Bool)(w:Bool):List α:=((xs.zip bs).filter λp=>p.2==w).map (·.1)
theorem z8n {α:Type}{xs:List α}{bs:List Bool}{i:Nat}{x:α}{b w:Bool}(h1:xs[i]?=some x)(h2:bs[i]?=some b):pick (xs.take (i+1)) (bs.take (i+1)) w=pick (xs.take i) (bs.take i) w++(if b=w then [x] else []):=by
 unfold pick;have e1:(xs.take i).length=(bs.take i).length:=by
  have:=(y00.mp h1).1;have:=(y00.mp h2).1
  rw[y0t,y0t];lia
 rw[z0h h1,z0h h2,y4y e1,y3i,y0g];congr 1
 by_cases c:b=w<;>simp[c]
def zen (K:y03):Sp:=λvs H Q _=>∃(ax ab:Addr) (xs:List Nat) (bs:List Bool) (w:Bool),vs = [.ref ax,.ref ab,.bl w]/\H ax=some (.lst (z09 xs))/\H ab=some (.lst (bs.map V.bl))/\xs.length=bs.length/\xs.length≤20/\∀l H',H l=none->Same H H'->H' l=some (.lst (z09 (pick xs bs w)))->Q (.ref l) H'
theorem zgc {ws:List Int}(hb:∀x∈ws,Bd 300 x):∀{aq:List Nat},aq.length≤20->(∀c∈aq,c<ws.length)->Bd (300+aq.length) (z2l ws aq)
 | [],_,_=>by
  show(0:Int).natAbs<_;exact Nat.two_pow_pos _
 | c::cs,hl,h=>by
  have ih:=zgc hb (aq:=cs) (by simp at hl;lia) λx hx=>h x (y0a _ hx)
  have hc:=h c y0d;have b1:=hb _ (y02 (z19 hc))
  have e:z2l ws (c::cs)=ws.getD c 0+z2l ws cs:=by simp[z2l]
  rw[e];rw[y1a];exact Bd.add (k:=300+(cs.length+1)) (m:=300) (n:=300+cs.length) b1 ih (by lia) (by lia)
def z2m (c:PM.Cr):PyData:=z5l c.1 c.2
def z2n (ws:List Int)(c:Nat):Int:=if c<ws.length then ws.getD c 0 else 1
def z2i (drs:List (List Nat))(c:Nat):List Nat:=drs.getD c []
structure DoOk (ws:List Int)(drs:List (List Nat))(au:Nat):Prop where
 few:au≤20
 some:∀c<ws.length,z2i drs c ≠ []
 lt:∀c<ws.length,∀h∈z2i drs c,h<au
theorem zbt {ws:List Int}(h:∀x∈ws,1≤x)(c:Nat):0<z2n ws c:=by
 unfold z2n
 split
 ·rename_i hc;have:=h _ (y02 (z19 hc));lia
 ·decide
theorem z8f {xs:List Nat}{bs:List Bool}{f:Nat->Bool}(hl:xs.length=bs.length)(h:∀(i x:Nat),xs[i]?=some x->bs[i]?=some (f x)):pick xs bs true=xs.filter f/\pick xs bs false=xs.filter λx=>!f x:=by
 have key:∀(i:Nat) (w:Bool),i≤xs.length->pick (xs.take i) (bs.take i) w=(xs.take i).filter λx=>f x==w:=by
  intro i w
  induction i with
  | zero=>intro _;simp[pick]
  | succ i ih =>
   intro hi;have hx:xs[i]?=some xs[i]:=y01 (by lia)
   rw[z8n hx (h i _ hx),ih (by lia),z0h hx,y3i]
   congr 1
   by_cases c:f xs[i]=w<;>simp[c]
 have k1:=key xs.length true (y0b _);have k2:=key xs.length false (y0b _)
 rw[y0c (y0b _),y0c (by lia)] at k1 k2
 refine⟨?_,?_⟩
 ·rw[k1];exact y5g λx _=>by simp
 ·rw[k2];exact y5g λx _=>by simp
theorem z27 {l:List Nat}(h:l.Pairwise (· < ·)):l.Nodup:=h.imp λh=>y0p h
section
variable {ws:List Int}{drs:List (List Nat)}{c:PM.Cr}{ap aj aa:List Int}
theorem zid (hh:c.1.Pairwise (· < ·))(hc:c.2.Pairwise (· < ·))(hi:∀x∈c.2,x<ws.length)
  (D:PM.Done (z2p (z0q ws c.1 c.2).length (takesIn ws c.1 c.2).length (z0o drs c.1 c.2)) (z0q ws c.1 c.2++takesIn ws c.1 c.2) ap aj aa) :
  ∃nc nh:Nat->Bool,PM.Cut (z2n ws) (z2i drs) c.1 c.2 c.1.length (PM.tot (z2n ws) c) nc nh/\(∀(i x:Nat),c.2[i]?=some x->((z3v aa).take (z0q ws c.1 c.2).length)[i]?=some (nc x))/\(∀(i x:Nat),c.1[i]?=some x->((z3v aa).drop (z0q ws c.1 c.2).length)[i]?=some (nh x)):=by
 have gl:(z0q ws c.1 c.2).length=c.2.length:=by unfold z0q;simp
 have tl:(takesIn ws c.1 c.2).length=c.1.length:=by unfold takesIn;simp
 rw[gl,tl] at D;rw[gl];have n1:=z27 hh;have n2:=z27 hc
 have ll:aa.length=c.2.length+c.1.length:=D.st.len;have nl:(z3v aa).length=c.2.length+c.1.length:=by unfold z3v;rw[y04];exact ll
 have ew:∀x∈c.2,ws.getD x 0=z2n ws x:=λx hx=>by
  unfold z2n;rw[if_pos (hi x hx)]
 have etot:z2l ws c.2=PM.tot (z2n ws) c:=by
  unfold z2l PM.tot;rw[y0m ew]
 have eg:z0q ws c.1 c.2++takesIn ws c.1 c.2=c.2.map (λx=>z2n ws x*(c.1.length:Int))++y07 c.1.length (PM.tot (z2n ws) c):=by
  unfold z0q takesIn;rw[etot];congr 1;exact y0m λx hx=>by rw[ew x hx]
 rw[eg] at D;have hok:PM.TiesOk (z2i drs) c.1 c.2 (z0o drs c.1 c.2):=z26 n1;have hb:∀p∈z0o drs c.1 c.2,p.1<c.2.length/\p.2<c.1.length:=λp hp=>by
  obtain⟨g,t⟩:=p;obtain⟨x,h,g1,g2,_⟩:=(hok g t).mp hp;exact⟨(y00.mp g1).1,(y00.mp g2).1⟩
 refine⟨λx=>PM.nr aa (c.2.idxOf x),λh=>PM.nr aa (c.2.length+c.1.idxOf h),?_,λi x hx=>?_,λi x hx=>?_⟩
 ·refine PM.cut_of (az:=z0o drs c.1 c.2) hok (zaf hb) D (λi x hx=>by rw[z73 n2 hx]) (λi x hx=>by rw[z73 n1 hx]) ?_
  have e1:(c.1.map λ_=>PM.tot (z2n ws) c).sum=(c.1.length:Int)*PM.tot (z2n ws) c:=by
   generalize PM.tot (z2n ws) c=W
   induction c.1 with
   | nil=>simp
   | cons a r ih=>simp[ih];rw[y7j];lia
  rw[e1];unfold PM.tot;rw[PM.mul_sum];congr 1;exact y0m λx _=>y28 _ _
 ·have hil:=(y00.mp hx).1;show _=some (PM.nr aa (c.2.idxOf x));rw[y6n,if_pos hil,z73 n2 hx];have e:=zeo (aa:=aa) (e:=i) (by lia)
  rw[←e,y01 (by lia)]
  simp[y1l,y01 (show i<(z3v aa).length by lia)]
 ·have hil:=(y00.mp hx).1;show _=some (PM.nr aa (c.2.length+c.1.idxOf x));rw[y54,z73 n1 hx];have e:=zeo (aa:=aa) (e:=c.2.length+i) (by lia)
  rw[←e,y01 (by lia)]
  simp[y1l,y01 (show c.2.length+i<(z3v aa).length by lia)]
end
def znu (ws:List Int)(drs:List (List Nat))(c:PM.Cr):Prop:=PM.Hi (z2n ws) (z2i drs) c (PM.tot (z2n ws) c) c.1.length
theorem znd {ws:List Int}{drs:List (List Nat)}{c:PM.Cr}{nc nh:Nat->Bool}(C:PM.Cut (z2n ws) (z2i drs) c.1 c.2 c.1.length (PM.tot (z2n ws) c) nc nh)(hn:∀h∈c.1,nh h=false)(own:∀x∈c.2,∃h∈c.1,h∈z2i drs x):znu ws drs c:=by
 have h:=C.hi_rest;have e:PM.restOf c nc nh=c:=by
  unfold PM.restOf;have e1:(c.1.filter λh=>!nh h)=c.1:=y6b.mpr λh hh=>by rw[hn h hh];rfl
  have e2:(c.2.filter λx=>!nc x)=c.2:=y6b.mpr λx hx=>by
   obtain⟨h,h1,h2⟩:=own x hx;cases q:nc x with
   | false=>rfl
   | true =>
    have:=C.up x hx h h1 h2 q;rw[hn h h1] at this;cases this
  rw[e1,e2]
 rw[e] at h;exact h
def zab (K:y03):Sp:=λvs H Q _=>∃(aw ad:Addr) (au:Nat) (ws:List Int) (drs:List (List Nat)),vs = [.ref aw,.ref ad,.int (au:Int)]/\AsksC K H aw ad ws drs/\DoOk ws drs au /\
 ∀L:List PM.Cr,(au=0->L = [])->(0<au->PM.Crowds (z2n ws) (z2i drs) au ws.length L)->(∀c∈L,znu ws drs c)->Res K H Q (.list (L.map z2m))
theorem zay {ws:List Int}{drs:List (List Nat)}{au:Nat}(D:DoOk ws drs au)(h0:0<au):PM.Crowds (z2n ws) (z2i drs) au ws.length [(y0f au,y0f ws.length)]:=by
 refine⟨λi x y hx hy=>?_,λc hc=>?_,λc hc x hx=>?_,λi c hc x hx h hh=>?_,λh=>?_,λx=>?_,λc hc=>?_,λc hc=>?_⟩
 ·have:=(y00.mp hy).1;simp at this
 ·rw[y09.mp hc];intro e;have e':y0f au = []:=e;have:(y0f au).length=0:=by rw[e'];rfl
  simp at this;lia
 ·rw[y09.mp hc] at hx ⊢
  have hx':x<ws.length:=y1d.mp hx;obtain⟨h,r,e⟩:=y2m (D.some x hx');have hm:h∈z2i drs x:=by rw[e];exact y0d
  exact⟨h,y1d.mpr (D.lt x hx' h hm),hm⟩
 ·have hi:=(y00.mp hc).1;simp at hi;subst hi;simp at hc;subst hc;have hx':x<ws.length:=y1d.mp hx
  exact⟨0,_,y0b _,rfl,y1d.mpr (D.lt x hx' h hh)⟩
 ·simp[y4n]
 ·simp[y4n]
 ·rw[y09.mp hc];exact y48
 ·rw[y09.mp hc];exact y48
def z7c (H:Hp)(a b:Addr):Hp:=del (del H a) b
theorem z6e {H H':Hp}{a b:Addr}(s:Same H H'):Same (z7c H a b) (z7c H' a b):=z5f (z5f s)
theorem z5d {H:Hp}{a b:Addr}:Same (z7c H a b) H:=del_sub.trans del_sub
theorem z3u {H:Hp}{a b x:Addr}(h1:x≠a)(h2:x≠b):z7c H a b x=H x:=by unfold z7c;rw[z8l h2,z8l h1]
theorem zef {H:Hp}{a b:Addr}:del (del H a) b=del (del H b) a:=by
 funext x;unfold del
 split<;>split<;>rfl
theorem z86 {H:Hp}{a b:Addr}{o:HO}:z7c (upd H a o) a b=z7c H a b:=by unfold z7c;rw[z2z]
theorem z56 {H:Hp}{a b:Addr}{o:HO}:z7c (upd H b o) a b=z7c H a b:=by unfold z7c;rw[zef,z2z,zef]
structure Two (K:y03)(H H':Hp)(a b:Addr)(vs us:List V)(ds es:List PyData):Prop where
 ne:a≠b
 old:Same H (z7c H' a b)
 h1:H' a=some (.lst vs)
 h2:H' b=some (.lst us)
 a1:IsAll K (z7c H' a b) vs ds
 a2:IsAll K (z7c H' a b) us es
section
variable {K:y03}{H H' H'':Hp}{a b:Addr}{vs us:List V}{ds es:List PyData}
theorem Two.same (t:Two K H H' a b vs us ds es):Same H H':=t.old.trans z5d
theorem Two.more (t:Two K H H' a b vs us ds es)(s:Same H' H''):Two K H H'' a b vs us ds es:=⟨t.ne,t.old.trans (z6e s),s _ _ t.h1,s _ _ t.h2,IsAll.same (z6e s) _ _ t.a1,IsAll.same (z6e s) _ _ t.a2⟩
theorem Two.set1 (t:Two K H H' a b vs us ds es){ws:List V}{fs:List PyData}(h:IsAll K (z7c H' a b) ws fs):Two K H (upd H' a (.lst ws)) a b ws us fs es:=⟨t.ne,by rw[z86];exact t.old,z01,by rw[z0a t.ne.symm];exact t.h2,by rw[z86];exact h,by rw[z86];exact t.a2⟩
theorem Two.set2 (t:Two K H H' a b vs us ds es){ws:List V}{fs:List PyData}(h:IsAll K (z7c H' a b) ws fs):Two K H (upd H' b (.lst ws)) a b vs ws ds fs:=⟨t.ne,by rw[z56];exact t.old,by rw[z0a t.ne];exact t.h1,z01,by rw[z56];exact t.a1,by rw[z56];exact h⟩
theorem Two.crowd (t:Two K H H' a b vs us ds es){c x y:Addr}{av aq:List Nat}(hx:x≠a/\x≠b)(hy:y≠a/\y≠b)(h0:H' c=some (.tup [.ref x,.ref y]))(h1:H' x=some (.lst (z09 av)))(h2:H' y=some (.lst (z09 aq))):Is K (z7c H' a b) (.ref c) (z5l av aq):=by
 have n1:c≠a:=λz=>by rw[z,t.h1] at h0;cases h0
 have n2:c≠b:=λz=>by rw[z,t.h2] at h0;cases h0
 exact is_crowd.mpr ⟨c,x,y,rfl,by rw[z3u n1 n2];exact h0,by rw[z3u hx.1 hx.2];exact h1,by rw[z3u hy.1 hy.2];exact h2⟩
end
def zc4 (U:List PM.Cr):Nat:=(U.map λc=>2*c.1.length - 1).sum
theorem z88:∀{l:List Nat} {k n:Nat},l.Pairwise (· < ·)->(∀x∈l,k≤x)->(∀x∈l,x<n)->l ≠ []->k+l.length≤n
 | [],_,_,_,_,_,h=>absurd rfl h
 | x::r,k,n,h,hk,hn,_=>by
  rw[y44] at h;have h1:=hk x y0d;have h2:=hn x y0d
  by_cases c:r = []
  ·subst c;simp;lia
  ·have ih:=z88 (l:=r) (k:=k+1) (n:=n) h.2 (λy hy=>by have:=h.1 y hy;lia) (λy hy=>hn y (y0a _ hy)) c
   rw[y1a];lia
theorem z1a {l:List Nat}{n:Nat}(h:l.Pairwise (· < ·))(hb:∀x∈l,x<n):l.length≤n:=by
 by_cases c:l = []
 ·subst c;simp
 ·have:=z88 (k:=0) h (λ_ _=>y25 _) hb c;lia
theorem zh2 {l:List Nat}{n:Nat}(hn:l.Nodup)(hb:∀x∈l,x<n):l.length≤n:=by
 have p:(l.mergeSort (λa b=>decide (a≤b))).Perm l:=List.mergeSort_perm l _;have sr:(l.mergeSort (λa b=>decide (a≤b))).Pairwise (λa b=>decide (a≤b)=true):=List.pairwise_mergeSort (λa b c h1 h2=>by simp at h1 h2 ⊢;lia) (λa b=>by simp;lia) l
 have nd:=p.nodup_iff.mpr hn;have rs:(l.mergeSort (λa b=>decide (a≤b))).Pairwise (· < ·):=(sr.and nd).imp λh=>by
  have:=of_decide_eq_true h.1;have:=h.2
  lia
 have:=z1a rs λx hx=>hb x (p.mem_iff.mp hx);rw[p.length_eq] at this;exact this
theorem z6v {ws:List Int}{drs:List (List Nat)}{au aq:Nat}{L:List PM.Cr}(C:PM.Crowds (z2n ws) (z2i drs) au aq L)(hm:au≤20:=by assumption):L.length≤20:=by
 have key:∀(L:List PM.Cr),(∀c∈L,c.1 ≠ [])->L.length≤(L.map λc=>c.1.length).sum:=by
  intro L
  induction L with
  | nil=>intro _;simp
  | cons c r ih =>
   intro h;have a:=ih λd hd=>h d (y0a _ hd);have b:=y0x.mpr (h c y0d)
   simp;lia
 have a:=key L C.ne;have tot:∀(L:List PM.Cr),(∀h:Nat,(L.map λc=>c.1.count h).sum≤if h<au then 1 else 0)->(L.map λc=>c.1.length).sum≤au:=by
  intro L hL;have e:(L.map λc=>c.1.length).sum=(L.flatMap λc=>c.1).length:=by rw[List.length_flatMap]
  rw[e];have cnt:∀h,(L.flatMap λc=>c.1).count h=(L.map λc=>c.1.count h).sum:=λh=>by rw[y56];rfl
  have nd:(L.flatMap λc=>c.1).Nodup:=y4p.mpr λh=>by
   rw[cnt];have:=hL h
   split at this<;>lia
  have lt:∀h∈L.flatMap λc=>c.1,h<au:=λh hh=>by
   have p:=y2w.mpr hh;rw[cnt] at p;have:=hL h
   split at this<;>lia
  exact zh2 nd lt
 have b:=tot L λh=>by rw[C.hs h];exact y0b _
 lia
def zbj (p:Int×Int)(c:PM.Cr):PyData:=.tuple [z3l p.1 p.2,z39 c.1,z39 c.2]
def z37:List (Int×Int)->List PM.Cr->List PyData
 | p::ps,c::L=>zbj p c::z37 ps L
 | _,_=>[]
theorem z7d:∀{ps:List (Int×Int)} {L:List PM.Cr} {p:Int×Int} {c:PM.Cr},ps.length=L.length->z37 (ps ++ [p]) (L ++ [c])=z37 ps L ++ [zbj p c]
 | [],[],p,c,_=>rfl
 | [],_::_,_,_,h=>by simp at h
 | _::_,[],_,_,h=>by simp at h
 | p'::ps,c'::L,p,c,h=>by
  simp only[y7a,z37];rw[z7d (by simpa using h)]
theorem z75:∀{ps:List (Int×Int)} {L:List PM.Cr} {i:Nat} {d:PyData},(z37 ps L)[i]?=some d->∃p c,ps[i]?=some p/\L[i]?=some c/\d=zbj p c
 | [],_,_,_,h=>by simp[z37] at h
 | _::_,[],_,_,h=>by simp[z37] at h
 | p::ps,c::L,0,d,h=>by
  simp[z37] at h;exact⟨p,c,rfl,rfl,h.symm⟩
 | p::ps,c::L,i+1,d,h=>by
  simp[z37] at h;obtain⟨p',c',h1,h2,h3⟩:=z75 h;exact⟨p',c',by simpa using h1,by simpa using h2,h3⟩
theorem z8y:∀{ps:List (Int×Int)} {L:List PM.Cr},ps.length=L.length->(z37 ps L).length=L.length
 | [],[],_=>rfl
 | [],_::_,h=>by simp at h
 | _::_,[],h=>by simp at h
 | p::ps,c::L,h=>by
  simp only[z37,y1a];rw[z8y (by simpa using h)]
theorem z5b:∀{l:List Nat} {x:Nat},x∈l->x≤l.sum
 | [],_,h=>by cases h
 | y::r,x,h=>by
  rw[y0q];rcases y0k.mp h with rfl | h
  ·lia
  ·have:=z5b h;lia
structure LayOk (ws:List Int)(L:List PM.Cr)(ps:List (Int×Int)):Prop where
 len:ps.length=L.length
 at_:∀(i:Nat) c p,L[i]?=some c->ps[i]?=some p->Low p/\p.1*(c.1.length:Int)=PM.tot (z2n ws) c*p.2
structure CrOk (ws:List Int)(drs:List (List Nat))(au:Nat)(L:List PM.Cr):Prop where
 none:au=0->L = []
 cr:0<au->PM.Crowds (z2n ws) (z2i drs) au ws.length L
 rst:∀c∈L,znu ws drs c
theorem CrOk.lt {ws:List Int}{drs:List (List Nat)}{au:Nat}{L:List PM.Cr}(C:CrOk ws drs au L){c:PM.Cr}(hc:c∈L):(∀h∈c.1,h<au)/\(∀x∈c.2,x<ws.length)/\c.1 ≠ []/\c.1.Pairwise (· < ·)/\c.2.Pairwise (· < ·):=by
 have h0:0<au:=by
  rcases y21 au with z | z
  ·rw[C.none z] at hc;cases hc
  ·exact z
 have K:=C.cr h0;obtain⟨i,hi⟩:=y08 hc;have one:∀(f:PM.Cr->Nat),f c≤(L.map f).sum:=λf=>by
  have:f c∈L.map f:=y1i.mpr ⟨c,hc,rfl⟩;exact z5b this
 refine⟨λh hh=>?_,λx hx=>?_,K.ne c hc,K.hr c hc,K.cr c hc⟩
 ·have a:=one λc=>c.1.count h;rw[K.hs h] at a;have b:=y2w.mpr hh
  by_cases z:h<au
  ·exact z
  ·rw[if_neg z] at a;lia
 ·have a:=one λc=>c.2.count x;rw[K.cs x] at a;have b:=y2w.mpr hx
  by_cases z:x<ws.length
  ·exact z
  ·rw[if_neg z] at a;lia
theorem CrOk.few {ws:List Int}{drs:List (List Nat)}{au:Nat}{L:List PM.Cr}(C:CrOk ws drs au L)(hm:au≤20):L.length≤20:=by
 rcases y21 au with z | z
 ·rw[C.none z];simp
 ·exact z6v (C.cr z) hm
def zdu (K:y03):Sp:=λvs H Q _=>∃(aw ad:Addr) (au:Nat) (ws:List Int) (drs:List (List Nat)),vs = [.ref aw,.ref ad,.int (au:Int)]/\AsksC K H aw ad ws drs/\DoOk ws drs au /\
 ∀(L:List PM.Cr) (ps:List (Int×Int)),CrOk ws drs au L->LayOk ws L ps->Res K H Q (.list (z37 ps L))
structure LoadOk (au:Nat)(L:List PM.Cr)(ps qs:List (Int×Int)):Prop where
 len:qs.length=au
 at_:∀(i:Nat) c p,L[i]?=some c->ps[i]?=some p->∀h∈c.1,qs[h]?=some p
def zgz (K:y03):Sp:=λvs H Q _=>∃(aw ad:Addr) (au:Nat) (ws:List Int) (drs:List (List Nat)),vs = [.ref aw,.ref ad,.int (au:Int)]/\AsksC K H aw ad ws drs/\DoOk ws drs au /\
 ∀(L:List PM.Cr) (ps qs:List (Int×Int)),CrOk ws drs au L->LayOk ws L ps->LoadOk au L ps qs->Res K H Q (z5j qs)
theorem is_layer {K:y03}{H:Hp}{v:V}{p:Int×Int}{c:PM.Cr}:Is K H v (zbj p c)↔∃a f x y,v = .ref a/\H a=some (.tup [.ref f,.ref x,.ref y])/\H f=some (.tup [.int p.1,.int p.2])/\H x=some (.lst (z09 c.1))/\H y=some (.lst (z09 c.2)):=by
 unfold zbj z39;constructor
 ·intro h;obtain⟨a,xs,rfl,ha,al⟩:=is_tuple.mp h;simp only[IsAll] at al;obtain⟨v1,vs1,rfl,q1,v2,vs2,rfl,q2,v3,vs3,rfl,q3,rfl⟩:=al;obtain⟨f,rfl,hf⟩:=is_frac.mp q1;obtain⟨b,ys,rfl,hb,al1⟩:=is_list.mp q2;obtain⟨d,zs,rfl,hd,al2⟩:=is_list.mp q3;rw[z4c al1] at hb;rw[z4c al2] at hd;exact⟨a,f,b,d,rfl,ha,hf,hb,hd⟩
 ·rintro⟨a,f,x,y,rfl,ha,hf,hx,hy⟩;exact is_tuple.mpr ⟨a,_,rfl,ha,z1c (is_frac.mpr ⟨f,rfl,hf⟩) (z1c (is_list.mpr ⟨x,_,rfl,hx,z28 _⟩) (z46 (is_list.mpr ⟨y,_,rfl,hy,z28 _⟩)))⟩
theorem z6m {K:y03}{H:Hp}{v:V}{d:PyData}(h:Is K H v d):∀n,IsAll K H (y07 n v) (y07 n d)
 | 0=>z0r
 | n+1=>by
  rw[y1s,y1s];exact z1c h (z6m h n)
theorem z67 {K:y03}{H:Hp}:∀{ds:List PyData} {xs:List V} {i:Nat} {v:V} {d:PyData},IsAll K H xs ds->Is K H v d->IsAll K H (xs.set i v) (ds.set i d)
 | [],xs,i,v,d,h,_=>by
  simp only[IsAll] at h;subst h;exact z0r
 | e::ds,xs,i,v,d,h,hv=>by
  simp only[IsAll] at h;obtain⟨u,us,rfl,q,al⟩:=h;cases i with
  | zero=>exact z1c hv al
  | succ i=>exact z1c q (z67 al hv)
theorem zjs {α:Type}{l:List α}{n i:Nat}{x:α}(h:(l.take n)[i]?=some x):l[i]?=some x:=by
 rw[y6n] at h
 split at h
 ·exact h
 ·cases h
theorem zgh:∀{l:List Nat} {i j a b:Nat},i≠j->l[i]?=some a->l[j]?=some b->a+b≤l.sum
 | [],_,_,_,_,_,h,_=>by simp at h
 | x::r,0,0,_,_,h,_,_=>absurd rfl h
 | x::r,0,j+1,a,b,_,h1,h2=>by
  simp at h1 h2;subst h1;have:=z5b (y02 h2);rw[y0q];lia
 | x::r,i+1,0,a,b,_,h1,h2=>by
  simp at h1 h2;subst h2;have:=z5b (y02 h1);rw[y0q];lia
 | x::r,i+1,j+1,a,b,h,h1,h2=>by
  have:=zgh (l:=r) (i:=i) (j:=j) (a:=a) (b:=b) (by lia) (by simpa using h1) (by simpa using h2)
  rw[y0q];lia
theorem CrOk.apart {ws:List Int}{drs:List (List Nat)}{au:Nat}{L:List PM.Cr}(C:CrOk ws drs au L)(hm:au≤20){i j h:Nat}{c d:PM.Cr}(hij:i≠j)(hi:L[i]?=some c)(hj:L[j]?=some d)(h1:h∈c.1):¬h∈d.1:=λh2=>by
 have h0:0<au:=by
  rcases y21 au with z | z
  ·rw[C.none z] at hi;simp at hi
  ·exact z
 have e:=(C.cr h0).hs h;have a:=zgh (l:=L.map λc=>c.1.count h) (i:=i) (j:=j) (a:=c.1.count h) (b:=d.1.count h) hij (by rw[y06,hi];rfl) (by rw[y06,hj];rfl)
 have p1:=y2w.mpr h1;have p2:=y2w.mpr h2
 rw[e] at a
 split at a<;>lia
def RowsOk (n au:Nat)(drs:List (List Nat)):Prop:=drs.length=n/\∀r∈drs,r ≠ []/\r.Pairwise (· < ·)/\∀h∈r,h<au
theorem RowsOk.doOk {n au:Nat}{drs:List (List Nat)}{ws:List Int}(h:RowsOk n au drs)(hw:ws.length=n)(hm:au≤20):DoOk ws drs au:=by
 have look:∀c<ws.length,z2i drs c∈drs:=λc hc=>by
  have hc':c<drs.length:=by rw[h.1];lia
  have e:z2i drs c=drs[c]:=by unfold z2i;simp[y1l,y01 hc']
  rw[e];exact y2i hc'
 exact⟨hm,λc hc=>(h.2 _ (look c hc)).1,λc hc=>(h.2 _ (look c hc)).2.2⟩
theorem RowsOk.row {n au:Nat}{drs:List (List Nat)}(h:RowsOk n au drs)(hm:au≤20):∀r∈drs,r.length≤20:=λr hr=>y17 (z1a (h.2 r hr).2.1 (h.2 r hr).2.2) hm
theorem zlv (ds:List PyData):PyData.eqv (.list ds) (.list [])=ds.isEmpty:=by
 cases ds with
 | nil=>exact z4p (z54 (n:=59) λd hd=>by cases hd)
 | cons d ds=>simp[PyData.eqv,PyData.eqvAll]
def RowOk (au:Nat)(r:List Nat):Prop:=r.Pairwise (· < ·)/\∀h∈r,h<au
theorem RowOk.add {k au:Nat}{r:List Nat}(h:r.Pairwise (· < ·)/\∀x∈r,x<k):(r ++ [k]).Pairwise (· < ·)/\∀x∈r ++ [k],x<k+1:=by
 refine⟨List.pairwise_append.mpr ⟨h.1,y5o _ _,λx hx y hy=>?_⟩,λx hx=>?_⟩
 ·rw[y09.mp hy];exact h.2 x hx
 ·rcases y0y.mp hx with hx | hx
  ·have:=h.2 x hx;lia
  ·rw[y09.mp hx];lia
end My
set_option Elab.async false
set_option linter.all false
set_option maxRecDepth 100000
namespace My
open PySem L2 L2.EX
section
variable {ws:List Int}{drs:List (List Nat)}{au:Nat}{L:List PM.Cr}{ps:List (Int×Int)}
theorem zdc {n d k t:Int}(hg:y22 n d=1)(h:n*k=t*d):d∣k:=by
 have h1:d∣n*k:=⟨t,by rw[h,y28]⟩
 have hg':Nat.Coprime d.natAbs n.natAbs:=by
  have:y22 d n=1:=by rw[y73];exact hg
  exact this
 have h2:d.natAbs∣n.natAbs*k.natAbs:=by
  rw[←y4e];exact y2u.mpr h1
 exact y2u.mp (hg'.dvd_of_dvd_mul_left h2)
theorem zor (hp:∀x∈ws,1≤x)(c:PM.Cr):0≤PM.tot (z2n ws) c:=by
 unfold PM.tot;refine PM.sum_nn λi x hx=>?_;obtain⟨y,_,rfl⟩:=y1i.mp (y02 hx);exact y2e (zbt hp y)
theorem LayOk.part (lo:LayOk ws L ps)(co:CrOk ws drs au L)(hm:au≤20)(hp:∀x∈ws,1≤x)(hb:∀x∈ws,Bd 300 x)(hw:ws.length≤20){i:Nat}{c:PM.Cr}{p:Int×Int}(hc:L[i]?=some c)(hi:ps[i]?=some p):Low p/\0≤p.1/\p.2≤20/\Bd 400 p.1:=by
 obtain⟨low,e⟩:=lo.at_ i c p hc hi;obtain⟨l1,l2,ne,r1,r2⟩:=co.lt (y02 hc);have aO:=y0x.mpr ne;have cl:=z1a r1 l1
 have cl2:=z1a r2 l2;have t0:=zor hp c
 have d1:=low.1;have dv:=zdc low.2 e
 have d20:p.2≤(c.1.length:Int):=y6o (by lia) dv
 have n0:0≤p.1:=by
  rcases y2t p.1 0 with z | z
  ·have a:p.1*(c.1.length:Int)<0:=Int.mul_neg_of_neg_of_pos z (by lia)
   have b:0≤PM.tot (z2n ws) c*p.2:=y2g t0 (by lia)
   lia
  ·exact z
 have etot:z2l ws c.2=PM.tot (z2n ws) c:=by
  unfold z2l PM.tot;rw[y0m λx hx=>?_];unfold z2n;rw[if_pos (l2 x hx)]
 have wb:=(zgc hb (aq:=c.2) (by lia) l2).le (show 300+c.2.length≤320 by lia)
 rw[etot] at wb;have b2:Bd 325 (PM.tot (z2n ws) c*p.2):=Bd.mul (m:=320) (n:=5) wb (by show _<_;lia)
 refine⟨low,n0,by lia,(b2.le (by decide)).of_le ?_⟩
 rw[←e];have:p.1≤p.1*(c.1.length:Int):=by
  have:=y2c (show(1:Int)≤(c.1.length:Int) by lia) n0
  lia
 have:0≤p.1*(c.1.length:Int):=y2g n0 (by lia)
 lia
theorem LayOk.falls (lo:LayOk ws L ps)(co:CrOk ws drs au L)(hp:∀x∈ws,1≤x){i:Nat}{c d:PM.Cr}{p q:Int×Int}(hc:L[i]?=some c)(hd:L[i+1]?=some d)(h1:ps[i]?=some p)(h2:ps[i+1]?=some q):q.1*p.2<p.1*q.2:=by
 have h0:0<au:=by
  rcases y21 au with z | z
  ·rw[co.none z] at hc;simp at hc
  ·exact z
 have f:=PM.Crowds.fall (zbt hp) (co.cr h0) hc hd;obtain⟨lp,ep⟩:=lo.at_ i c p hc h1;obtain⟨lq,eq⟩:=lo.at_ (i+1) d q hd h2;have nc:=y0x.mpr (co.lt (y02 hc)).2.2.1
 have nd:=y0x.mpr (co.lt (y02 hd)).2.2.1;have p2:=lp.1
 have q2:=lq.1;have m:0<p.2*q.2:=y4w (by lia) (by lia)
 have a:=y3n f m;have e1:PM.tot (z2n ws) d*(c.1.length:Int)*(p.2*q.2)=(q.1*p.2)*((c.1.length:Int)*d.1.length):=by grind
 have e2:PM.tot (z2n ws) c*(d.1.length:Int)*(p.2*q.2)=(p.1*q.2)*((c.1.length:Int)*d.1.length):=by grind
 rw[e1,e2] at a;exact y50 a (y2g (by lia) (by lia))
def z5t (L:List PM.Cr)(i:Nat):List Nat:=(L.take i).flatMap (·.1)
def z63 (L:List PM.Cr)(i:Nat):List Nat:=(L.take i).flatMap (·.2)
theorem z5c (co:CrOk ws drs au L)(h0:0<au):(z5t L L.length).Perm (y0f au):=by
 rw[y6c];intro h;unfold z5t;rw[y0c (y0b _),y56,y4n];exact(co.cr h0).hs h
theorem z5p (co:CrOk ws drs au L)(h0:0<au):(z63 L L.length).Perm (y0f ws.length):=by
 rw[y6c];intro h;unfold z63;rw[y0c (y0b _),y56,y4n];exact(co.cr h0).cs h
end
theorem zdv (l:List Nat):Sh 60 (z39 l):=(z54 (n:=0) λd hd=>by
 obtain⟨x,_,rfl⟩:=y1i.mp hd;exact z8j _).le (by decide)
theorem zkv {n:Nat}{τ:St}{Q:VK}{H:Hp}(hn:n≤20)(hd:∀l,H l=none->Q (.ref l) (upd H l (.lst (z09 (y0f n))))):z6n (Itr 0 n) (z4x 0) zlg (xV 0) (none :: τ) Q H:=by
 refine z9j (λi ys H2=>H2=H/\ys=z09 (y0f i)) ⟨rfl,rfl⟩ (z0i (by lia)) ?_ ?_ ?_
 ·rintro i ys H2 hi ⟨rfl,rfl⟩;rw[z0l,y2q];lia
 ·rintro i ys H2 hi ⟨rfl,rfl⟩;dsimp only[z4x,zlg,xV,sg,List.set];refine z7r (CNx.mk ⟨rfl,?_⟩ hi);rw[y3q,show(0:Int)+(i:Int)=(i:Int) by lia]
  unfold z09;rw[y0g];rfl
 ·rintro ys H2 ⟨rfl,rfl⟩ l hl';exact hd l hl'
end My
set_option Elab.async false
set_option linter.all false
set_option maxRecDepth 100000
namespace My
open PySem L2 L2.EX
def QOk (qs:List (Int×Int)):Prop:=∀q∈qs,1≤q.2/\q.2≤20/\0≤q.1/\Bd 400 q.1
end My
set_option linter.all false
namespace PM
theorem z6f {α:Type}(f:α->List Nat)(g:Nat->Int):∀L:List α,((L.flatMap f).map g).sum=(L.map λc=>((f c).map g).sum).sum
 | []=>rfl
 | c::r=>by rw[y5h,y0g,y1x,y0l,y0q,z6f f g r]
theorem z69 {l m:List Nat}(g:Nat->Int)(h:l.Perm m):(l.map g).sum=(m.map g).sum:=by
 induction h with
 | nil=>rfl
 | cons x _ ih=>rw[y0l,y0l,y0q,y0q,ih]
 | swap x y l=>simp only[y0l,y0q];lia
 | trans _ _ a b=>exact a.trans b
theorem sum_leI {α:Type}{f g:α->Int}:∀{l:List α},(∀x∈l,f x≤g x)->(l.map f).sum≤(l.map g).sum
 | [],_=>y20 _
 | x::r,h=>by
  rw[y0l,y0l,y0q,y0q];have a:=h x y0d;have b:=sum_leI λy hy=>h y (y0a x hy)
  lia
theorem sum_mulR {α:Type}(f:α->Int)(k:Int):∀l:List α,(l.map f).sum*k=(l.map λx=>f x*k).sum
 | []=>by simp
 | x::r=>by rw[y0l,y0l,y0q,y0q,y7j,sum_mulR f k r]
theorem sum_eqI {α:Type}{f g:α->Int}:∀{l:List α},(∀x∈l,f x≤g x)->(l.map g).sum≤(l.map f).sum->∀x∈l,f x=g x
 | [],_,_,x,hx=>by cases hx
 | y::r,h,k,x,hx=>by
  rw[y0l,y0l,y0q,y0q] at k;have a:=h y y0d;have b:=sum_leI λz hz=>h z (y0a y hz)
  rcases y0k.mp hx with rfl | hx
  ·lia
  ·exact sum_eqI (λz hz=>h z (y0a y hz)) (by lia) x hx
def SH (au:Nat)(T:Nat->Bool)(x:Nat->Int):Int:=((y0f au).map λh=>if T h then x h else 0).sum
def IW (wk:Nat->Int)(dr:Nat->List Nat)(aq:Nat)(T:Nat->Bool):Int:=((y0f aq).map λk=>if (dr k).all T then wk k else 0).sum
structure Sol (wk:Nat->Int)(dr:Nat->List Nat)(au aq:Nat)(M:Int)(L:List Cr)(x:Nat->Int):Prop where
 hp:(L.flatMap (·.1)).Perm (y0f au)
 cp:(L.flatMap (·.2)).Perm (y0f aq)
 hi:∀c∈L,Hi wk dr c (tot wk c) c.1.length
 ne:∀c∈L,c.1 ≠ []
 eq:∀c∈L,∀h∈c.1,x h*c.1.length=tot wk c*M
 up:∀(i:Nat) c,L[i]?=some c->∀k∈c.2,∀h∈dr k,∃(j:Nat) (d:Cr),j≤i/\L[j]?=some d/\h∈d.1
 fall:∀(i:Nat) c d,L[i]?=some c->L[i+1]?=some d->∀h∈c.1,∀g∈d.1,x g<x h
 wp:∀k,0<wk k
 mp:0<M
section
variable {wk:Nat->Int}{dr:Nat->List Nat}{au aq:Nat}{M:Int}{L L':List Cr}{x x':Nat->Int}
theorem Sol.len (S:Sol wk dr au aq M L x){c:Cr}(hc:c∈L):(0:Int)<c.1.length:=by
 have:=y0x.mpr (S.ne c hc);lia
theorem Sol.same (S:Sol wk dr au aq M L x){c:Cr}(hc:c∈L){h g:Nat}(hh:h∈c.1)(hg:g∈c.1):x h=x g:=by
 have a:=S.eq c hc h hh;have b:=S.eq c hc g hg
 exact y1h (by have:=S.len hc;lia) (a.trans b.symm)
theorem Sol.borne (S:Sol wk dr au aq M L x)(T:Nat->Bool):IW wk dr aq T*M≤SH au T x:=by
 unfold IW SH;rw[←z69 _ S.cp,←z69 _ S.hp,z6f,z6f,sum_mulR];refine sum_leI λc hc=>?_;have hn:=S.len hc;obtain⟨h0,r0,e0⟩:=y2m (S.ne c hc);have m0:h0∈c.1:=by rw[e0];exact y0d
 have ex:=S.eq c hc h0 m0;have one:(c.2.map λk=>if (dr k).all T then wk k else 0).sum≤inside wk dr c T:=by
  unfold inside;refine sum_leI λk hk=>?_;have wpk:=S.wp k
  by_cases a:(dr k).all T=true
  ·have b:(c.1.all λh=>(!(dr k).contains h||T h))=true:=y2j.mpr λh hh=>by
    cases q:(dr k).contains h with
    | false=>rfl
    | true =>
     have:=y2j.mp a h (y1v.mp q);rw[this];rfl
   rw[if_pos a,if_pos b];exact y20 _
  ·rw[if_neg a]
   split<;>lia
 have two:(c.1.map λh=>if T h then x h else 0).sum=x h0*cnt c T:=by
  unfold cnt;rw[mul_sum];congr 1;refine y0m λh hh=>?_;rw[S.same hc hh m0]
  split<;>simp
 rw[two];have thr:=S.hi c hc T;refine y3e (y26 one (by have:=S.mp;lia)) ?_
 refine y3s (a:=(c.1.length:Int)) ?_ hn;have e1:x h0*cnt c T*(c.1.length:Int)=tot wk c*cnt c T*M:=by
  rw[y1q,ex,y1q]
 rw[e1,y1q,y28 (inside wk dr c T) _];exact y26 thr (by have:=S.mp;lia)
theorem Sol.falls (S:Sol wk dr au aq M L x):∀(n i:Nat) {c d:Cr},L[i]?=some c->L[i+n]?=some d->∀h∈c.1,∀g∈d.1,x g≤x h
 | 0,i,c,d,hc,hd,h,hh,g,hg=>by
  rw[Nat.add_zero,hc] at hd;cases hd;have:=S.same (y02 hc) hh hg;lia
 | n+1,i,c,d,hc,hd,h,hh,g,hg=>by
  have hlt:=(y00.mp hd).1;have he:L[i+n]?=some (L[i+n]'(by lia)):=y01 (by lia)
  obtain⟨g0,r0,e0⟩:=y2m (S.ne _ (y02 he));have m0:g0∈(L[i+n]'(by lia)).1:=by rw[e0];exact y0d
  have a:=S.falls n i hc he h hh g0 m0;have b:=S.fall (i+n) _ _ he hd g0 m0 g hg
  lia
theorem Sol.tight (S:Sol wk dr au aq M L x)(v:Int):SH au (λh=>decide (v≤x h)) x≤IW wk dr aq (λh=>decide (v≤x h))*M:=by
 unfold IW SH;rw[←z69 _ S.cp,←z69 _ S.hp,z6f,z6f,sum_mulR];refine sum_leI λc hc=>?_;obtain⟨i,hi⟩:=y08 hc;have hn:=S.len hc;obtain⟨h0,r0,e0⟩:=y2m (S.ne c hc);have m0:h0∈c.1:=by rw[e0];exact y0d
 by_cases q:v≤x h0
 ·have one:(c.1.map λh=>if decide (v≤x h)=true then x h else 0).sum=x h0*(c.1.length:Int):=by
   have:(c.1.map λh=>if decide (v≤x h)=true then x h else 0)=c.1.map λ_=>x h0*1:=y0m λh hh=>by
    rw[S.same hc hh m0,if_pos (decide_eq_true q),y4s]
   rw[this,←mul_sum];congr 1;clear this e0 m0 hi hn hc
   induction c.1 with
   | nil=>rfl
   | cons y r ih=>rw[y0l,y0q,ih,y1a];lia
  have two:(c.2.map λk=>if (dr k).all (λh=>decide (v≤x h))=true then wk k else 0).sum=tot wk c:=by
   unfold tot;congr 1;refine y0m λk hk=>if_pos (y2j.mpr λh hh=>decide_eq_true ?_);obtain⟨j,d,hj,hd,hin⟩:=S.up i c hi k hk h hh;have:=S.falls (i - j) j hd (by rw[show j+(i - j)=i by lia];exact hi) h hin h0 m0
   lia
  rw[one,two,S.eq c hc h0 m0];exact y20 _
 ·have one:(c.1.map λh=>if decide (v≤x h)=true then x h else 0).sum=0:=by
   have:(c.1.map λh=>if decide (v≤x h)=true then x h else 0)=c.1.map λ_=>0:=y0m λh hh=>by
    rw[S.same hc hh m0,if_neg (λz=>q (of_decide_eq_true z))]
   rw[this];clear this e0 m0 hi hn hc
   induction c.1 with
   | nil=>rfl
   | cons y r ih=>rw[y0l,y0q,ih];rfl
  rw[one];refine y2g ?_ (by have:=S.mp;lia)
  have:((c.2.map λ_=>(0:Int))).sum≤(c.2.map λk=>if (dr k).all (λh=>decide (v≤x h))=true then wk k else 0).sum:=sum_leI λk _=>by
   have:=S.wp k
   split<;>lia
  have z:∀l:List Nat,(l.map λ_=>(0:Int)).sum=0:=λl=>by
   induction l with
   | nil=>rfl
   | cons y r ih=>rw[y0l,y0q,ih];rfl
  rw[z] at this;exact this
theorem Sol.level (S:Sol wk dr au aq M L x)(S':Sol wk dr au aq M L' x'){v:Int}(up:∀h<au,(v+1≤x h∨v+1≤x' h)->x h=x' h):∀h<au,v≤x h->x h=x' h:=by
 intro h hh hv;have a:=S.tight v;have b:=S'.borne λh=>decide (v≤x h)
 have c:SH au (λh=>decide (v≤x h)) x≤SH au (λh=>decide (v≤x h)) x':=y3e a b;unfold SH at c;have k:=sum_eqI (f:=λh=>if decide (v≤x h)=true then x' h else 0) (g:=λh=>if decide (v≤x h)=true then x h else 0) (l:=y0f au) (λg hg=>by
  have hg':=y1d.mp hg
  by_cases q:v≤x g
  ·simp only[decide_eq_true q,if_true];have:=up g hg';lia
  ·simp only[decide_eq_false q];exact y20 _) c h (y1d.mpr hh)
 simp only[decide_eq_true hv,if_true] at k;exact k.symm
theorem Sol.unique (S:Sol wk dr au aq M L x)(S':Sol wk dr au aq M L' x'):∀h<au,x h=x' h:=by
 obtain⟨V,hV⟩:∃V:Int,∀h<au,x h<V/\x' h<V:=by
  clear S S'
  induction au with
  | zero=>exact⟨0,λh hh=>by lia⟩
  | succ n ih =>
   obtain⟨V,hV⟩:=ih;refine⟨(if V≤x n then x n+1 else V)+(if V≤x' n then (if x' n<0 then 0 else x' n)+1+(if V<0 then -V else V)+(if x n<0 then -(x n) else x n) else 0),λh hh=>?_⟩
   by_cases z:h=n
   ·subst z;constructor<;>(repeat split)<;>lia
   ·have:=hV h (by lia)
    constructor<;>(repeat split)<;>lia
 have key:∀n:Nat,∀h<au,(V - n≤x h∨V - n≤x' h)->x h=x' h:=by
  intro n
  induction n with
  | zero =>
   intro h hh hv;have:=hV h hh;lia
  | succ n ih =>
   intro h hh hv;have e:V - ((n+1:Nat):Int)+1=V - (n:Int):=by lia
   rcases hv with hv | hv
   ·exact S.level S' (v:=V - ((n+1:Nat):Int)) (λg hg hv'=>ih g hg (by rw[e] at hv';exact hv')) h hh hv
   ·exact(S'.level S (v:=V - ((n+1:Nat):Int)) (λg hg hv'=>(ih g hg (by rw[e] at hv';exact hv'.symm)).symm) h hh hv).symm
 intro h hh;refine key (V - x h).toNat h hh (.inl ?_);have:=hV h hh;lia
end
end PM
set_option Elab.async false
set_option linter.all false
set_option maxRecDepth 100000
namespace My
open PySem L2 L2.EX
def z61:List (Int×Int)->Int
 | []=>1
 | p::r=>p.2*z61 r
theorem z53:∀{ps:List (Int×Int)},(∀p∈ps,1≤p.2)->0<z61 ps
 | [],_=>by decide
 | p::r,h=>by
  have a:=h p y0d;have b:=z53 λq hq=>h q (y0a _ hq)
  show 0<p.2*z61 r;exact y4w (by lia) b
theorem z2j:∀{ps:List (Int×Int)} {p:Int×Int},p∈ps->p.2∣z61 ps
 | q::r,p,h=>by
  show p.2∣q.2*z61 r;rcases y0k.mp h with rfl | h
  ·exact y5i _ _
  ·exact y30 (z2j h) (y5q _ _)
theorem zl7 {p q:Int×Int}(l1:Low p)(l2:Low q)(e:p.1*q.2=q.1*p.2):p=q:=by
 have a:=(zag l1.2 e).1;have b:=(zag l2.2 e.symm).1
 have h1:=l1.1;have h2:=l2.1
 have e2:p.2=q.2:=Int.dvd_antisymm (by lia) (by lia) a b
 rw[e2] at e;have e1:=y1h (by lia) e
 exact Prod.ext e1 e2
def xOf (qs:List (Int×Int))(M:Int)(h:Nat):Int:=(qs.getD h (0,1)).1*(M / (qs.getD h (0,1)).2)
theorem z8v {qs:List (Int×Int)}{M:Int}{h:Nat}{p:Int×Int}(hp:qs[h]?=some p)(hd:p.2∣M):xOf qs M h*p.2=p.1*M:=by
 unfold xOf;rw[y05,hp];show p.1*(M / p.2)*p.2=p.1*M;rw[y2r,y6d hd]
variable {ws:List Int}{drs:List (List Nat)}{au:Nat}{L L':List PM.Cr}{ps ps' qs qs':List (Int×Int)}
theorem z4q {α:Type}{f:PM.Cr->List α}:(L.take L.length).flatMap f=L.flatMap f:=by rw[y0c (y0b _)]
theorem LoadOk.of_hand (lk:LoadOk au L ps qs)(lo:LayOk ws L ps)(co:CrOk ws drs au L)(h0:0<au){h:Nat}(hh:h<au):∃(i:Nat) (c:PM.Cr) (p:Int×Int),L[i]?=some c/\ps[i]?=some p/\h∈c.1/\qs[h]?=some p:=by
 have hm:h∈z5t L L.length:=(z5c co h0).mem_iff.mpr (y1d.mpr hh);unfold z5t at hm;rw[z4q] at hm;obtain⟨c,hc,hin⟩:=y2k.mp hm;obtain⟨i,hi⟩:=y08 hc;have hil:=(y00.mp hi).1
 have hp:ps[i]?=some (ps[i]'(by rw[lo.len];exact hil)):=y01 _
 exact⟨i,c,_,hi,hp,hin,lk.at_ i c _ hi hp h hin⟩
theorem LoadOk.sol (lk:LoadOk au L ps qs)(lo:LayOk ws L ps)(co:CrOk ws drs au L)(h0:0<au)(hp:∀x∈ws,1≤x){M:Int}(hM:0<M)(hd:∀p∈ps,p.2∣M):PM.Sol (z2n ws) (z2i drs) au ws.length M L (xOf qs M):=by
 have K:=co.cr h0;have pick:∀{i:Nat} {c:PM.Cr},L[i]?=some c->∃p,ps[i]?=some p/\p.2∣M/\Low p/\p.1*(c.1.length:Int)=PM.tot (z2n ws) c*p.2/\∀h∈c.1,xOf qs M h*p.2=p.1*M:=λ{i c} hi=>by
  have hil:=(y00.mp hi).1;have hp:ps[i]?=some (ps[i]'(by rw[lo.len];exact hil)):=y01 _
  have a:=lo.at_ i c _ hi hp;have d:=hd _ (y02 hp)
  exact⟨_,hp,d,a.1,a.2,λh hh=>z8v (lk.at_ i c _ hi hp h hh) d⟩
 refine⟨by have:=z5c co h0;unfold z5t at this;rwa [z4q] at this,by have:=z5p co h0;unfold z63 at this;rwa [z4q] at this,λc hc=>co.rst c hc,K.ne,λc hc h hh=>?_,K.up,λi c d hc hd' h hh g hg=>?_,λk=>zbt hp k,hM⟩
 ·obtain⟨i,hi⟩:=y08 hc;obtain⟨p,_,_,low,e,ex⟩:=pick hi;have ex:=ex h hh;refine y1h (a:=p.2) (by have:=low.1;lia) ?_
  rw[y1q,ex,y1q,e,y1q]
 ·obtain⟨p,hp1,_,low,_,ex⟩:=pick hc;obtain⟨q,hq1,_,low',_,ey⟩:=pick hd';have ex:=ex h hh;have ey:=ey g hg
  have f:=lo.falls co hp hc hd' hp1 hq1;have l1:=low.1
  have l2:=low'.1;have pos:0<p.2*q.2:=y4w (by lia) (by lia)
  refine y50 (a:=p.2*q.2) ?_ (by lia)
  have a1:xOf qs M g*(p.2*q.2)=q.1*p.2*M:=by
   rw[y28 p.2 q.2,←y2r,ey,y1q]
  have a2:xOf qs M h*(p.2*q.2)=p.1*q.2*M:=by
   rw[←y2r,ex,y1q]
  rw[a1,a2];exact y3n f hM
theorem LoadOk.qok (lk:LoadOk au L ps qs)(lo:LayOk ws L ps)(co:CrOk ws drs au L)(h0:0<au)(hm:au≤20)(hp:∀x∈ws,1≤x)(hb:∀x∈ws,Bd 300 x)(hw:ws.length≤20):QOk qs/\∀q∈qs,Low q:=by
 have all:∀q∈qs,Low q/\0≤q.1/\q.2≤20/\Bd 400 q.1:=λq hq=>by
  obtain⟨h,hh⟩:=y08 hq;have hl:=(y00.mp hh).1;rw[lk.len] at hl;obtain⟨i,c,p,h1,h2,h3,h4⟩:=lk.of_hand lo co h0 hl;rw[hh] at h4;cases h4;exact lo.part co hm hp hb hw h1 h2
 exact⟨λq hq=>⟨(all q hq).1.1,(all q hq).2.2.1,(all q hq).2.1,(all q hq).2.2.2⟩,λq hq=>(all q hq).1⟩
theorem LoadOk.unique (lk:LoadOk au L ps qs)(lo:LayOk ws L ps)(co:CrOk ws drs au L)(lk':LoadOk au L' ps' qs')(lo':LayOk ws L' ps')(co':CrOk ws drs au L')(h0:0<au)(hp:∀x∈ws,1≤x):qs=qs':=by
 have low:∀{L:List PM.Cr} {ps:List (Int×Int)},LayOk ws L ps->∀p∈ps,Low p:=λ{L ps} lo p hp=>by
  obtain⟨i,hi⟩:=y08 hp;have hil:=(y00.mp hi).1;rw[lo.len] at hil;exact(lo.at_ i _ p (y01 hil) hi).1
 have m1:=z53 λp hp=>(low lo p hp).1;have m2:=z53 λp hp=>(low lo' p hp).1
 have mm:0<z61 ps*z61 ps':=y4w m1 m2;have s:=lk.sol lo co h0 hp mm λp hp=>y30 (z2j hp) (y5i _ _)
 have s':=lk'.sol lo' co' h0 hp mm λp hp=>y30 (z2j hp) (y5q _ _);have u:=s.unique s'
 refine y2f λh=>?_
 by_cases hh:h<au
 ·obtain⟨i,c,p,_,hp1,_,e1⟩:=lk.of_hand lo co h0 hh;obtain⟨j,d,q,_,hq1,_,e2⟩:=lk'.of_hand lo' co' h0 hh;have a1:=z8v e1 (y30 (z2j (y02 hp1)) (y5i _ (z61 ps')));have a2:=z8v e2 (y30 (z2j (y02 hq1)) (y5q (z61 ps) _))
  rw[←u h hh] at a2;have l1:=low lo p (y02 hp1);have l2:=low lo' q (y02 hq1)
  have e:p.1*q.2=q.1*p.2:=by
   refine y1h (a:=z61 ps*z61 ps') (by lia) ?_
   rw[y1q,←a1,y1q,y1q q.1,←a2,y1q]
  rw[e1,e2];exact congrArg some (zl7 l1 l2 e)
 ·rw[y0u (by rw[lk.len];lia),y0u (by rw[lk'.len];lia)]
end My
set_option Elab.async false
set_option linter.all false
set_option maxRecDepth 100000
namespace My
open PySem L2 L2.EX
section
variable {H H' H'':Hp}{vs us:List V}{l:Addr}{o:HO}
end
end My
namespace My
open PySem L2 L2.EX
variable {L:List PM.Cr}{au:Nat}
end My
namespace My
open PySem L2 L2.EX
end My
set_option linter.all false
namespace PM
def ab (l:List Int)(T:Int):Int:=(l.map λx=>if T<x then x - T else 0).sum
theorem sum_zeroI {α:Type}:∀l:List α,(l.map λ_=>(0:Int)).sum=0
 | []=>rfl
 | x::r=>by rw[y0l,y0q,sum_zeroI r];rfl
section
variable {wk:Nat->Int}{dr:Nat->List Nat}{au aq:Nat}{M:Int}{L:List Cr}{x o:Nat->Int}
end
end PM
set_option Elab.async false
set_option linter.all false
set_option maxRecDepth 100000
namespace My
open PySem L2 L2.EX
section
variable {X:Cx}{o e:Expr}{es:List Expr}{ta:TE}{t:TA}{aU aO:Pos}
end
def vl (M:Int)(p:Int×Int):Int:=p.1*(M / p.2)
theorem zgd {M:Int}{p:Int×Int}(h:p.2∣M):vl M p*p.2=p.1*M:=by
 unfold vl;rw[y2r,y6d h]
def FOk (p:Int×Int):Prop:=1≤p.2/\p.2≤60/\0≤p.1/\Bd 400 p.1
def zs0 (lv a p:Int×Int):Int×Int:=if 0<p.1*lv.2 - lv.1*p.2 then (a.1*p.2*lv.2+(p.1*lv.2 - lv.1*p.2)*a.2,a.2*p.2*lv.2) else a
def zrs (qs:List (Int×Int))(lv:Int×Int):Int×Int:=qs.foldl (zs0 lv) (0,1)
theorem z3r {A B:Hp}{b:Addr}(s:Same A B)(h:B b=none):A b=none:=by
 cases hz:A b with
 | none=>rfl
 | some o=>rw[s _ _ hz] at h;cases h
structure SS (way c size j:Nat)(lf:Int)(ss:List Int):Prop where
 len:ss.length=size
 nn:∀x∈ss,0≤x
 sum:ss.sum+lf=60
 lf0:0≤lf
 zero:∀i,j≤i->i<size->ss[i]?=some 0
 w1:way=1->lf=if c<j then 0 else 60
 w2:way=2->lf=60 - (j:Int)*(60 / (size:Int))
theorem zle:∀{l:List Int},(∀x∈l,0≤x)->0≤l.sum
 | [],_=>by decide
 | x::r,h=>by
  rw[y0q];have:=h x y0d;have:=zle λy hy=>h y (y0a _ hy)
  lia
def zs (T:Nat->Bool)(w:Int)(l:List (Nat×Int)):Int:=(l.map λp=>if T p.1 then w*p.2 else 0).sum
structure Cmp (M:Int)(qs oq:List (Int×Int))(ws:List Int):Prop where
 hM:0<M
 qok:∀p∈qs,FOk p/\p.2∣M
 ook:∀p∈oq,FOk p/\p.2∣M
 len:qs.length=oq.length
 ab:∀T,PM.ab (qs.map (vl M)) T≤PM.ab (oq.map (vl M)) T
 sq:(qs.map λp=>vl M p*vl M p).sum≤(oq.map λp=>vl M p*vl M p).sum
 tot:(zrs qs (0,1)).1=ws.sum*(zrs qs (0,1)).2
theorem zcc {α β:Type}(f:α->β)(d:α):∀l:List α,((y0f l.length).map λh=>f (l.getD h d))=l.map f:=λl=>by
 refine y2f λh=>?_
 by_cases c:h<l.length
 ·rw[y06,y06,y1w c,y01 c];simp[y05,c]
 ·rw[y0u (by rw[y04,y2q];lia),y0u (by rw[y04];lia)]
end My
set_option Elab.async false
set_option linter.all false
set_option maxRecDepth 100000
namespace My
open PySem L2 L2.EX
theorem z4j (f:Nat->Int):∀n,PM.upTo f n=((y0f n).map f).sum
 | 0=>rfl
 | n+1=>by
  rw[y3q,y0g,y1x,PM.upTo,z4j f n];simp
theorem z55 {l:List Nat}(h:l.Nodup){e a:Nat}(he:l[e]?=some a):l.idxOf a=e:=by
 obtain⟨h1,h2⟩:=y00.mp he;subst h2;exact h.idxOf_getElem e h1
theorem znc {gs ts:List Int}{az:List (Nat×Nat)}(S:Nat->Bool):PM.bnd (z2p gs.length ts.length az) (gs++ts) S=PM.upTo (λe=>if S e then 0 else gs.getD e 0) gs.length+PM.upTo (λj=>if S (gs.length+j) then ts.getD j 0 else 0) ts.length:=by
 show PM.upTo (λe=>if PM.side (z2p gs.length ts.length az) S e then (gs++ts).getD e 0 else 0) (gs.length+ts.length)=_
 rw[PM.upTo_split];congr 1
 ·refine PM.upTo_congr λe he=>?_;have:PM.side (z2p gs.length ts.length az) S e = !S e:=by
   unfold PM.side;exact if_pos he
  rw[this,z68 he];cases S e<;>rfl
 ·refine PM.upTo_congr λe he=>?_;have:PM.side (z2p gs.length ts.length az) S (gs.length+e)=S (gs.length+e):=by
   unfold PM.side;exact if_neg (show ¬gs.length+e<gs.length by lia)
  rw[this,z8h]
theorem z7b:∀{ends:List (Nat×Nat)} {ss:List Int} {k:Nat} {p:Nat×Nat} {s:Int},(∀(k:Nat) s,ss[k]?=some s->0≤s)->ends[k]?=some p->ss[k]?=some s->s≤PM.load ends ss p.1
 | [],_,_,_,_,_,h,_=>by simp at h
 | _::_,[],_,_,_,_,_,h=>by simp at h
 | q::r,x::y,0,p,s,hn,h1,h2=>by
  simp at h1 h2;subst h1 h2;have:=zi4 r y q.1 λk s hs=>hn (k+1) s (by simpa using hs)
  simp only[PM.load,PM.inc];simp;lia
 | q::r,x::y,k+1,p,s,hn,h1,h2=>by
  have ih:=z7b (ends:=r) (ss:=y) (k:=k) (p:=p) (s:=s) (λk s hs=>hn (k+1) s (by simpa using hs)) (by simpa using h1) (by simpa using h2)
  have:=hn 0 x rfl;simp only[PM.load]
  split<;>lia
structure Turned (gs ts:List Int)(az:List (Nat×Nat))(bg bt:List Nat)(m:Nat)(gs2 ts2:List Int)(turned some':List (Nat×Nat)):Prop where
 hbg:bg.Perm (y0f gs.length)
 hbt:bt.Perm (y0f ts.length)
 lg:gs2.length=gs.length+m
 lt:ts2.length=ts.length+m
 g1:∀e<gs.length,gs2.getD e 0=gs.getD (bg.getD e 0) 0
 g2:∀e,gs.length≤e->gs2.getD e 0=0
 t1:∀e<ts.length,ts2.getD e 0=ts.getD (bt.getD e 0) 0
 t2:∀e,0≤ts2.getD e 0
 hA:∀p'∈turned,∃p∈az,bg[p'.1]?=some p.1/\bt[p'.2]?=some p.2
 hB:∀p∈az,∃p'∈turned,bg[p'.1]?=some p.1/\bt[p'.2]?=some p.2
 hs:∀p∈some',gs.length≤p.1/\p.1<gs.length+m/\p.2<ts.length
section
variable {gs ts gs2 ts2 ap aj aa ck aG steps':List Int}{az turned some':List (Nat×Nat)}{bg bt:List Nat}{m:Nat}
end
theorem z9i (l:List Nat):z09 l=(l.map λ(n:Nat)=>(n:Int)).map V.int:=by unfold z09;rw[y1z];rfl
theorem zp5 {l:List Nat}{i n:Nat}(h:l[i]?=some n):atI (z09 l) (i:Int)=some (.int (n:Int)):=z24 (zhk h)
theorem zpf {l:List Nat}{n j:Nat}(h:(l.map λ(n:Nat)=>(n:Int))[j]?=some (n:Int)):l[j]?=some n:=by
 rw[y06] at h;cases q:l[j]? with
 | none=>rw[q] at h;cases h
 | some x =>
  rw[q] at h;simp at h;exact congrArg some (by lia)
structure TurnP (az:List (Nat×Nat))(bg bt bi:List Nat)(tn:List (Nat×Nat)):Prop where
 at_:∀(k:Nat) p',tn[k]?=some p'->∃(a:Nat) (p:Nat×Nat),bi[k]?=some a/\az[a]?=some p/\bg[p'.1]?=some p.1/\bt[p'.2]?=some p.2
end My
set_option linter.all false
namespace PM
structure Ev (own:(Nat->Bool)->Int)(au:Nat)(x:Nat->Int):Prop where
 borne:∀T,own T≤SH au T x
 tight:∀v:Int,SH au (λh=>decide (v≤x h)) x≤own λh=>decide (v≤x h)
section
variable {wk:Nat->Int}{dr:Nat->List Nat}{aq:Nat}
end
theorem Sol.ev {wk:Nat->Int}{dr:Nat->List Nat}{au aq:Nat}{M:Int}{L:List Cr}{x:Nat->Int}(S:Sol wk dr au aq M L x):Ev (λT=>IW wk dr aq T*M) au x:=⟨S.borne,S.tight⟩
end PM
set_option Elab.async false
set_option linter.all false
set_option maxRecDepth 100000
namespace L2.EX
section
variable {X:Cx}
open PySem
def zri (x y:V)(H:Hp)(Q:VK):Prop:=match y with
 | .non=>Q (.bl (!decide (x = .non))) H
 | _=>False
end
end L2.EX
namespace My
open PySem L2 L2.EX
def zrz (ws:List Int)(drs:List (List Nat))(M:Int)(T:Nat->Bool):Int:=PM.IW (z2n ws) (z2i drs) ws.length T*M
def zrq (p:Int×Int):Prop:=Low p/\0≤p.1/\p.2≤20/\Bd 400 p.1
structure Borns (ws:List Int)(drs:List (List Nat))(au:Nat)(qs:List (Int×Int)):Prop where
 len:qs.length=au
 ok:∀q∈qs,zrq q
 ev:∃D:Int,0<D/\(∀q∈qs,q.2∣D)/\∀M:Int,0<M->D∣M->PM.Ev (zrz ws drs M) au (xOf qs M)
theorem zke {ws:List Int}{drs:List (List Nat)}{au:Nat}{L:List PM.Cr}{ps qs:List (Int×Int)}(co:CrOk ws drs au L)(lo:LayOk ws L ps)(lk:LoadOk au L ps qs)(h0:0<au)(hm:au≤20)(hp:∀x∈ws,1≤x)(hb:∀x∈ws,Bd 300 x)(hw:ws.length≤20):Borns ws drs au qs:=by
 obtain⟨qok,qlow⟩:=lk.qok lo co h0 hm hp hb hw;have low:∀p∈ps,1≤p.2:=λp hp=>by
  obtain⟨i,hi⟩:=y08 hp;have hil:=(y00.mp hi).1;rw[lo.len] at hil;exact(lo.at_ i _ p (y01 hil) hi).1.1
 refine⟨lk.len,λq hq=>⟨qlow q hq,(qok q hq).2.2.1,(qok q hq).2.1,(qok q hq).2.2.2⟩,z61 ps,z53 low,λq hq=>?_,λM hM hd=>?_⟩
 ·obtain⟨h,hh⟩:=y08 hq;have hl:=(y00.mp hh).1;rw[lk.len] at hl;obtain⟨i,c,p,_,h2,_,h4⟩:=lk.of_hand lo co h0 hl;rw[hh] at h4;cases h4;exact z2j (y02 h2)
 ·exact(lk.sol lo co h0 hp hM λp hp=>y30 (z2j hp) hd).ev
section
variable {ws ws':List Int}{drs drs':List (List Nat)}{au:Nat}{qs qs':List (Int×Int)}
theorem zmv {q q':Int×Int}{x x' M:Int}(hM:0<M)(l1:1≤q.2)(l2:1≤q'.2)(a1:x*q.2=q.1*M)(a2:x'*q'.2=q'.1*M)(h:x≤x'):q.1*q'.2≤q'.1*q.2:=by
 have pos:0<q.2*q'.2:=y4w (by lia) (by lia)
 have:=y26 h (show 0≤q.2*q'.2 by lia)
 refine y3s (a:=M) ?_ hM;have c1:q.1*q'.2*M=x*(q.2*q'.2):=by grind
 have c2:q'.1*q.2*M=x'*(q.2*q'.2):=by grind
 rw[c1,c2];exact this
theorem zjb {ws:List Int}{k:Nat}(h:k<ws.length):z2n ws k=ws.getD k 0:=if_pos h
end
structure TArgs (K:y03)(H:Hp)(a aw ad al:Addr)(ns ws:List Int)(drs:List (List Nat))(au:Nat)(qs:List (Int×Int)):Prop where
 s:SqL K H a (ns.map V.int)
 ask:AsksC K H aw ad ws drs
 rows:RowsOk ws.length au drs
 works:∀x∈ws,x≤10^60+1000
 h0:0<au
 h5:au≤5
 few:ws.length≤6
 isf:Is K H (.ref al) (z5j qs)
 b:Borns ws drs au qs
theorem zcz {l:List Nat}{ms:List Int}(hp:ms.Perm (l.map λ(x:Nat)=>(x:Int))):∃r:List Nat,ms.map V.int=z09 r/\r.Perm l:=by
 have e:(ms.map y3o).Perm l:=by
  have:=hp.map y3o;rw[y1z] at this;have i:l.map (y3o∘λ(x:Nat)=>(x:Int))=l:=by
   conv=>rhs;rw[←List.map_id l]
   exact y0m λx _=>by simp
  rw[i] at this;exact this
 refine⟨ms.map y3o,?_,e⟩;unfold z09;rw[y1z];refine y0m λx hx=>?_;obtain⟨n,_,rfl⟩:=y1i.mp (hp.mem_iff.mp hx);simp
end My
set_option linter.all false
namespace PM
end PM
set_option Elab.async false
set_option linter.all false
set_option maxRecDepth 100000
namespace My
open PySem L2 L2.EX
theorem zhu (ns:List Int)(a n:Nat):∃ms:List Int,zfs (ns.map V.int) (some (a:Int)) (some ((a:Int)+(n:Int)))=ms.map V.int/\ms.length≤n/\ms.length≤ns.length:=by
 unfold zfs;rw[show(a:Int)+(n:Int)=((a+n:Nat):Int) by lia,HT.sIx_nat,HT.sIx_nat]
 refine⟨(ns.drop (min a (ns.map V.int).length)).take (min (a+n) (ns.map V.int).length - min a (ns.map V.int).length),?_,?_,?_⟩
 ·rw[y6p,y7t]
 ·rw[y0t,y4j];lia
 ·rw[y0t,y4j];lia
def zcy:Sp:=λvs H Q _=>∃c:Int,vs = [.int c]/\∀z:Int,1≤z->z≤10^60->Q (.int z) H
def zij:Sp:=λvs H Q _=>∃(c:Int) (au:Nat) (th:Bool),vs = [.int c,.int (au:Int),.bl th]/\1≤au/\au≤12/\∀(r:Addr) (row:List Nat) (H':Hp),row ≠ []->row.Pairwise (· < ·)->(∀h∈row,h<au)->H r=none->Same H H'->H' r=some (.lst (z09 row))->Q (.ref r) H'
structure CrowdA (K:y03)(H:Hp)(aw ad:Addr)(ws:List Int)(drs:List (List Nat))(au:Nat):Prop where
 ask:AsksC K H aw ad ws drs
 rows:RowsOk ws.length au drs
 works:∀x∈ws,x≤10^60
 h0:0<au
 h12:au≤12
 few:ws.length≤8
theorem CrowdA.same {K:y03}{H H':Hp}{aw ad:Addr}{ws:List Int}{drs:List (List Nat)}{au:Nat}(c:CrowdA K H aw ad ws drs au)(s:Same H H'):CrowdA K H' aw ad ws drs au:=⟨c.ask.same s,c.rows,c.works,c.h0,c.h12,c.few⟩
def zhv (K:y03):Sp:=λvs H Q _=>∃(a:Addr) (ns:List Int),vs = [.ref a]/\SqL K H a (ns.map V.int)/\ns.length≤63/\∀(p aw ad:Addr) (ws:List Int) (drs:List (List Nat)) (au:Nat) (H':Hp),CrowdA K H' aw ad ws drs au->Same H H'->H' p=some (.tup [.ref aw,.ref ad,.int (au:Int)])->Q (.ref p) H'
theorem zc5 {K:y03}{H:Hp}{lw ld u:Addr}{O:HO}(h1:H lw=none)(h2:upd H lw (.lst []) ld=none)(h3:upd (upd H lw (.lst [])) ld (.lst []) u=none):Two K (upd H u O) (upd (upd (upd H lw (.lst [])) ld (.lst [])) u O) lw ld [] [] [] []/\u≠lw/\u≠ld/\H u=none:=by
 have n1:ld≠lw:=λz=>by rw[z,z01] at h2;cases h2
 have n2:u≠ld:=λz=>by rw[z,z01] at h3;cases h3
 have n3:u≠lw:=λz=>by rw[z,z0a n1.symm,z01] at h3;cases h3
 have hld:H ld=none:=by rw[z0a n1] at h2;exact h2
 have hu:H u=none:=by rw[z0a n2,z0a n3] at h3;exact h3
 refine⟨⟨n1.symm,λb o hb=>?_,?_,?_,z0r,z0r⟩,n3,n2,hu⟩
 ·by_cases z:b=u
  ·subst z;rw[z3u n3 n2,z01];rw[z01] at hb;exact hb
  ·rw[z0a z] at hb;have m1:=z08 hb h1;have m2:=z08 hb hld
   rw[z3u m1 m2,z0a z,z0a m2,z0a m1];exact hb
 ·rw[z0a n3.symm,z0a n1.symm,z01]
 ·rw[z0a n2.symm,z01]
theorem zmw {P:Bool->Prop}{c b:Bool}(h:∀th,P th):if c=true then P true else P b:=by
 split
 ·exact h _
 ·exact h _
theorem zi5 {l:List Nat}{ms:List Int}(nd:l.Nodup)(hp:ms.Perm (l.map λ(x:Nat)=>(x:Int)))(hs:ms.Pairwise (·≤·)):∃r:List Nat,ms.map V.int=z09 r/\r.Perm l/\r.Pairwise (· < ·):=by
 obtain⟨r,e,p⟩:=zcz hp;refine⟨r,e,p,?_⟩;have em:ms=r.map λ(x:Nat)=>(x:Int):=by
  rw[z9i] at e;exact List.map_inj_right (λx y h=>by cases h;rfl) |>.mp e
 rw[em,y5j] at hs;have nr:r.Nodup:=p.nodup_iff.mpr nd;exact(hs.and nr).imp λh=>by lia
def zc7 (j au:Nat):List Nat:=if 2≤au then [j % au,(j+1) % au] else [j % au]
theorem zjy {j au:Nat}(h0:0<au):(zc7 j au).Nodup/\zc7 j au ≠ []/\∀h∈zc7 j au,h<au:=by
 unfold zc7;have a:=y6y j h0;have b:=y6y (j+1) h0
 split
 ·rename_i h2;refine⟨?_,by simp,λh hh=>?_⟩
  ·have:j % au≠(j+1) % au:=λz=>by
    have e:(j+1) % au=(j % au+1) % au:=by rw[Nat.add_mod,y7b (show 1<au by lia)]
    rw[e] at z
    by_cases w:j % au+1<au
    ·rw[y7b w] at z;lia
    ·have w':j % au+1=au:=by lia
     rw[w',Nat.mod_self] at z;lia
   simp[this]
  ·simp at hh;lia
 ·exact⟨by simp,by simp,λh hh=>by simp at hh;lia⟩
theorem zj1 {j au:Nat}(h0:0<au):zfs [V.int ((j:Int) % (au:Int)),V.int (((j:Int)+1) % (au:Int))] none (some (if (2:Int)<(au:Int) then 2 else (au:Int)))=((zc7 j au).map λ(x:Nat)=>(x:Int)).map V.int:=by
 obtain⟨m,hm⟩:∃m:Nat,(if (2:Int)<(au:Int) then (2:Int) else (au:Int))=(m:Int):=by
  split
  ·exact⟨2,rfl⟩
  ·exact⟨au,rfl⟩
 rw[hm,zcl];unfold zc7;have e1:(j:Int) % (au:Int)=((j % au:Nat):Int):=by lia
 have e2:((j:Int)+1) % (au:Int)=(((j+1) % au:Nat):Int):=by
  rw[show(j:Int)+1=((j+1:Nat):Int) by lia]
  lia
 rw[e1,e2]
 split
 ·rename_i h2;have:m=2:=by split at hm<;>lia
  subst this;rfl
 ·rename_i h2;have:m=1:=by split at hm<;>lia
  subst this;rfl
def bag (M:Int)(L:List (Nat×(Int×Int)))(h:Nat):Int:=(L.map λx=>if x.1=h then vl M x.2 else 0).sum
def z4u (drs:List (List Nat))(shs:List (List (Int×Int))):List (Nat×(Int×Int)):=(drs.zip shs).flatMap λx=>x.1.zip x.2
def LdB (M:Int)(L:List (Nat×(Int×Int)))(qs:List (Int×Int)):Prop:=∀(h:Nat) q,qs[h]?=some q->Low q/\q.1*M=q.2*bag M L h
theorem zj5 (M:Int)(L:List (Nat×(Int×Int)))(g:Nat)(p:Int×Int)(h:Nat):bag M (L ++ [(g,p)]) h=bag M L h+(if g=h then vl M p else 0):=by
 unfold bag;rw[y0g,y1x];simp only[y0l,y3l,y0q,List.sum_nil,y60]
theorem LdB.add {M:Int}{L:List (Nat×(Int×Int))}{qs:List (Int×Int)}(b:LdB M L qs){g:Nat}{q p:Int×Int}(hq:qs[g]?=some q)(hp:1≤p.2)(hd:p.2∣M){n e:Int}(lo:Low (n,e))(he:n*(q.2*p.2)=(q.1*p.2+p.1*q.2)*e):LdB M (L ++ [(g,p)]) (qs.set g (n,e)):=by
 intro h r hr;rw[zj5];have gl:=(y00.mp hq).1
 by_cases z:g=h
 ·subst z;rw[y0v gl] at hr;cases hr;refine⟨lo,?_⟩;rw[if_pos rfl];obtain⟨l1,e1⟩:=b g q hq;have v:=zgd hd;have pos:q.2*p.2≠0:=y65 (by have:=l1.1;lia) (by lia)
  refine y1h pos ?_;show n*M*(q.2*p.2)=e*(bag M L g+vl M p)*(q.2*p.2);have a1:n*M*(q.2*p.2)=(q.1*M)*p.2*e+(p.1*M)*q.2*e:=by
   have:n*M*(q.2*p.2)=n*(q.2*p.2)*M:=by grind
   rw[this,he]
   grind
  rw[a1,e1,←v]
  grind
 ·rw[y13 (by lia)] at hr
  rw[if_neg z,y60];exact b h r hr
theorem zc8 {drs:List (List Nat)}{shs:List (List (Int×Int))}{i:Nat}{r:List Nat}{s:List (Int×Int)}(hr:drs[i]?=some r)(hs:shs[i]?=some s):z4u (drs.take (i+1)) (shs.take (i+1))=z4u (drs.take i) (shs.take i)++r.zip s:=by
 unfold z4u;have hi:=(y00.mp hr).1;have hi2:=(y00.mp hs).1
 rw[z0h hr,z0h hs,y4y (by rw[y0t,y0t];lia),y4z]
 simp
theorem zlp {M:Int}{m n:Nat}(hM:0<M)(bM:Bd n M)(h:Nat):∀(L:List (Nat×(Int×Int))),(∀x∈L,1≤x.2.2/\x.2.2∣M/\Bd m x.2.1)->(bag M L h).natAbs≤L.length*2^(m+n)
 | [],_=>by simp[bag]
 | x::r,hx=>by
  have a:=hx x y0d;have ih:=zlp hM bM h r λy hy=>hx y (y0a _ hy)
  have e:bag M (x::r) h=(if x.1=h then vl M x.2 else 0)+bag M r h:=rfl
  have v:(vl M x.2).natAbs≤2^(m+n):=by
   unfold vl;have b:Bd n (M / x.2.2):=by
    refine Bd.of_le bM ?_;have h1:0≤M / x.2.2:=y5w (by lia) (by lia)
    have h2:M / x.2.2≤M:=y76 _ (by lia)
    lia
   exact y3w (a.2.2.mul b)
  have t:(if x.1=h then vl M x.2 else 0).natAbs≤2^(m+n):=by
   split
   ·exact v
   ·exact y25 _
  rw[e,y1a,y7k,Nat.one_mul];have:=y5f (if x.1=h then vl M x.2 else 0) (bag M r h)
  lia
theorem LdB.bd {M:Int}(hM:0<M)(bM:Bd 600 M){L:List (Nat×(Int×Int))}(hL:∀x∈L,1≤x.2.2/\x.2.2∣M/\Bd 600 x.2.1)(few:L.length≤240){qs:List (Int×Int)}(b:LdB M L qs){h:Nat}{q:Int×Int}(hq:qs[h]?=some q):Bd 1300 q.1/\Bd 600 q.2:=by
 obtain⟨l,e⟩:=b h q hq;rw[y28 q.2] at e;obtain⟨l1,l2⟩:=zif l.2 (by lia) e
 refine⟨?_,bM.of_le l2⟩;have k:(bag M L h).natAbs≤L.length*2^1200:=zlp hM bM h L hL;show q.1.natAbs<2^1300;have e2:(2:Nat)^1300=2^100*2^1200:=by rw[←y7g]
 rw[e2];have k2:L.length*2^1200≤240*2^1200:=y3t _ few;have k3:240*2^1200<2^100*2^1200:=Nat.mul_lt_mul_of_pos_right (by decide) (y6e (by decide))
 lia
structure ShOk (M:Int)(drs:List (List Nat))(au:Nat)(shs:List (List (Int×Int))):Prop where
 len:shs.length=drs.length
 few:drs.length≤20
 row:∀(i:Nat) r s,drs[i]?=some r->shs[i]?=some s->s.length=r.length/\r.length≤12/\∀h∈r,h<au
 ok:∀s∈shs,∀p∈s,Low p/\p.2∣M/\Bd 600 p.1
 hM:0<M
 bM:Bd 600 M
theorem znk {M:Int}{drs:List (List Nat)}{au:Nat}{shs:List (List (Int×Int))}(k:ShOk M drs au shs):∀x∈z4u drs shs,1≤x.2.2/\x.2.2∣M/\Bd 600 x.2.1:=λx hx=>by
 unfold z4u at hx;obtain⟨y,hy,hxy⟩:=y2k.mp hx;obtain⟨a,b,c⟩:=k.ok y.2 (y1c hy).2 x.2 (y1c hxy).2;exact⟨a.1,b,c⟩
theorem zjc {drs:List (List Nat)}{shs:List (List (Int×Int))}(hl:shs.length=drs.length)(i:Nat):∀x∈z4u (drs.take i) (shs.take i),x∈z4u drs shs:=λx hx=>by
 unfold z4u at hx ⊢
 have e:drs.zip shs=(drs.take i).zip (shs.take i)++(drs.drop i).zip (shs.drop i):=by
  rw[←y4y (by rw[y0t,y0t,hl]),y66,y66]
 rw[e,y4z];exact y3a _ hx
theorem zdj {M:Int}{drs:List (List Nat)}{au:Nat}{shs:List (List (Int×Int))}(k:ShOk M drs au shs):∀i:Nat,i≤drs.length->(z4u (drs.take i) (shs.take i)).length≤12*i
 | 0,_=>by simp[z4u]
 | i+1,hi=>by
  have hr:drs[i]?=some (drs[i]'(by lia)):=y01 _
  have hs:shs[i]?=some (shs[i]'(by rw[k.len];lia)):=y01 _
  rw[zc8 hr hs,y0e,y45];have:=zdj k i (by lia)
  have:=k.row i _ _ hr hs;lia
def zh1 (K:y03):Sp:=λvs H Q _=>∃(ad as:Addr) (au:Nat) (drs:List (List Nat)) (shs:List (List (Int×Int))) (M:Int),vs = [.ref ad,.int (au:Int),.ref as]/\Is K H (.ref ad) (z64 drs)/\Is K H (.ref as) (.list (shs.map z5j))/\ShOk M drs au shs/\au≤20/\∀qs:List (Int×Int),qs.length=au->LdB M (z4u drs shs) qs->Res K H Q (z5j qs)
theorem Grow.setAt {K:y03}{H H':Hp}{l:Addr}{vs:List V}{ds:List PyData}{v:V}{d:PyData}(g:Grow K H H' l vs ds)(i:Nat)(h:Is K (del H' l) v d):Grow K H (upd H' l (.lst (vs.set i v))) l (vs.set i v) (ds.set i d) :=
 ⟨by rw[z2z];exact g.old,z01,by rw[z2z];exact z67 g.all h⟩
def FV (M:Int)(p:Int×Int)(X:Int):Prop:=Low p/\p.1*M=p.2*X
section
variable {M:Int}{p q:Int×Int}{X Y:Int}
theorem FV.uniq (hM:0<M)(a:FV M p X)(b:FV M q X):p=q:=by
 refine zl7 a.1 b.1 ?_;refine y1h (a:=M) (by lia) ?_
 have e1:=a.2;have e2:=b.2
 have:p.1*q.2*M=p.1*M*q.2:=by grind
 rw[this,e1];have:q.1*p.2*M=q.1*M*p.2:=by grind
 rw[this,e2]
 grind
theorem FV.plus (a:FV M p X)(b:FV M q Y){n e:Int}(he:1≤e)(hg:y22 n e=1)(h:n*(p.2*q.2)=(p.1*q.2+q.1*p.2)*e):FV M (n,e) (X+Y):=by
 refine⟨⟨he,hg⟩,?_⟩;have p1:=a.1.1;have q1:=b.1.1
 have pos:p.2*q.2≠0:=y65 (by lia) (by lia)
 refine y1h pos ?_;show n*M*(p.2*q.2)=e*(X+Y)*(p.2*q.2);have:n*M*(p.2*q.2)=n*(p.2*q.2)*M:=by grind
 rw[this,h];have:(p.1*q.2+q.1*p.2)*e*M=(p.1*M)*q.2*e+(q.1*M)*p.2*e:=by grind
 rw[this,a.2,b.2]
 grind
theorem FV.zero:FV M (0,1) 0:=⟨⟨y20 _,by decide⟩,by simp⟩
theorem FV.bd (hM:0<M)(bM:Bd 600 M)(bX:Bd 1300 X)(a:FV M p X):Bd 1300 p.1/\Bd 600 p.2:=by
 have e:=a.2;rw[y28 p.2] at e;obtain⟨l1,l2⟩:=zif a.1.2 (by lia) e
 exact⟨bX.of_le l1,bM.of_le l2⟩
theorem FV.whole {w:Int}(hM:0<M)(a:FV M p (w*M)):p=(w,1):=by
 refine FV.uniq hM a ⟨⟨y20 _,by show y22 w 1=1;simp⟩,by show w*M=1*(w*M);simp⟩
end
structure FVs (M:Int)(ps:List (Int×Int))(Xs:List Int):Prop where
 len:ps.length=Xs.length
 at_:∀(i:Nat) p X,ps[i]?=some p->Xs[i]?=some X->FV M p X
 hM:0<M
 bM:Bd 600 M
 bX:∀X∈Xs,Bd 1220 X
 few:Xs.length≤30
theorem zhb {k:Nat}:∀(l:List Int),(∀x∈l,Bd k x)->l.sum.natAbs≤l.length*2^k
 | [],_=>by simp
 | x::r,h=>by
  have a:=h x y0d;have b:=zhb r λy hy=>h y (y0a _ hy)
  rw[y0q,y1a,y7k,Nat.one_mul];have:=y5f x r.sum;have a':x.natAbs<2^k:=a
  lia
theorem zog {k n:Nat}{x:Int}(h:x.natAbs≤n*2^k)(hn:n≤64):Bd (k+7) x:=by
 show x.natAbs<2^(k+7);rw[y7g];have:n*2^k≤64*2^k:=y3t _ hn;have:0<2^k:=y6e (by decide)
 lia
theorem zn3 {k:Nat}{l:List Int}(h:∀x∈l,Bd k x)(hl:l.length≤64):Bd (k+7) l.sum:=zog (zhb l h) hl
theorem zkt (l:List Int)(x:Int):(l ++ [x]).sum=l.sum+x:=by
 rw[y1x];simp
theorem znt {k:Nat}{l:List Int}(h:∀x∈l,Bd k x)(hl:l.length≤64)(i:Nat):Bd (k+7) (l.take i).sum:=zn3 (λx hx=>h x (y3b hx)) (by rw[y0t];lia)
structure Deal (M:Int)(ws:List Int)(drs:List (List Nat))(shs:List (List (Int×Int))):Prop where
 len:shs.length=drs.length
 at_:∀(i:Nat) r s,drs[i]?=some r->shs[i]?=some s->s.length=r.length/\(s.map (vl M)).sum=ws.getD i 0*M
 ok:∀s∈shs,∀p∈s,Low p/\0≤p.1/\p.2∣M/\Bd 300 p.1
theorem zqz {q:Int}(h1:1≤q)(h2:q≤20):q∣232792560:=by
 obtain⟨n,rfl⟩:=y1p (show 0≤q by lia)
 have k:∀n:Fin 21,1≤n.val->((n.val:Nat):Int)∣232792560:=by decide
 exact k ⟨n,by lia⟩ (by show 1≤n;lia)
structure Both (M:Int)(qs oq:List (Int×Int))(Xs Os:List Int)(w:Int):Prop where
 f1:FVs M qs Xs
 f2:FVs M oq Os
 b1:∀X∈Xs,Bd 1200 X
 b2:∀X∈Os,Bd 1200 X
 len:Xs.length=Os.length
 l12:Xs.length≤12
 pos:0<Xs.length
 s1:Xs.sum=w*M
 s2:Os.sum=w*M
 ab:∀T,PM.ab Xs T≤PM.ab Os T
 d:232792560∣M
end My
set_option linter.all false
namespace PM
section
variable {α:Type}
def putT (R:List (List α))(t:Nat×Nat × α):List (List α):=R.set t.1 ((R.getD t.1 []).set t.2.1 t.2.2)
def at2 (no:α)(R:List (List α))(x k:Nat):α:=(R.getD x []).getD k no
def S2 (no:α)(n:Nat)(ln:Nat->Nat)(W:Nat->Nat->α->Int)(R:List (List α)):Int:=((y0f n).map λx=>((y0f (ln x)).map λk=>W x k (at2 no R x k)).sum).sum
def Shp (n:Nat)(ln:Nat->Nat)(R:List (List α)):Prop:=R.length=n/\∀x<n,(R.getD x []).length=ln x
variable {no:α}{n:Nat}{ln:Nat->Nat}{W:Nat->Nat->α->Int}{R:List (List α)}
theorem z89 {β:Type}{l:List β}{i j:Nat}{v d:β}(h:i<l.length):(l.set i v).getD j d=if j=i then v else l.getD j d:=by
 by_cases c:j=i
 ·subst c;rw[if_pos rfl,y05,y0v h];rfl
 ·rw[if_neg c,y05,y13 (by lia),y05]
theorem Shp.put (s:Shp n ln R){x k:Nat}{a:α}(hx:x<n):Shp n ln (putT R (x,k,a)):=by
 refine⟨by unfold putT;rw[y2a];exact s.1,λy hy=>?_⟩
 unfold putT;rw[z89 (by rw[s.1];exact hx)]
 split
 ·rename_i c;subst c;rw[y2a];exact s.2 y hy
 ·exact s.2 y hy
theorem at2_put (s:Shp n ln R){x k:Nat}{a:α}(hx:x<n)(hk:k<ln x)(y j:Nat):at2 no (putT R (x,k,a)) y j=if y=x/\j=k then a else at2 no R y j:=by
 unfold at2 putT;rw[z89 (by rw[s.1];exact hx)]
 by_cases c:y=x
 ·subst c;rw[if_pos rfl,z89 (by rw[s.2 y hx];exact hk)]
  by_cases d:j=k
  ·rw[if_pos d,if_pos ⟨rfl,d⟩]
  ·rw[if_neg d,if_neg (λz=>d z.2)]
 ·rw[if_neg c,if_neg (λz=>c z.1)]
theorem sum_oneN (F F':Nat->Int)(g:Nat)(h:∀k,k≠g->F' k=F k):∀n:Nat,g<n->((y0f n).map F').sum=((y0f n).map F).sum+(F' g - F g)
 | 0,hn=>by lia
 | n+1,hn=>by
  rw[y3q,y0g,y0g,y1x,y1x];simp only[y0l,y3l,y0q,List.sum_nil,y60]
  by_cases c:n=g
  ·subst c;have:(y0f n).map F'=(y0f n).map F:=y0m λk hk=>h k (by have:=y1d.mp hk;lia)
   rw[this];lia
  ·rw[sum_oneN F F' g h n (by lia),h n c]
   lia
theorem zol (s:Shp n ln R){x k:Nat}{a:α}(hx:x<n)(hk:k<ln x):S2 no n ln W (putT R (x,k,a))=S2 no n ln W R+(W x k a - W x k (at2 no R x k)):=by
 unfold S2;rw[sum_oneN (λy=>((y0f (ln y)).map λj=>W y j (at2 no R y j)).sum) (λy=>((y0f (ln y)).map λj=>W y j (at2 no (putT R (x,k,a)) y j)).sum) x (λy hy=>by
  show((y0f (ln y)).map λj=>W y j (at2 no (putT R (x,k,a)) y j)).sum=_;congr 1;refine y0m λj _=>?_;rw[at2_put s hx hk,if_neg (λz=>hy z.1)]) n hx]
 rw[sum_oneN (λj=>W x j (at2 no R x j)) (λj=>W x j (at2 no (putT R (x,k,a)) x j)) k (λj hj=>by
  show W x j (at2 no (putT R (x,k,a)) x j)=_;rw[at2_put s hx hk,if_neg (λz=>hj z.2)]) (ln x) hk]
 rw[at2_put s hx hk,if_pos ⟨rfl,rfl⟩];lia
theorem fold_S2 (w0:∀x k,W x k no=0):∀(T:List (Nat×Nat × α)) (R:List (List α)),Shp n ln R->(∀t∈T,t.1<n/\t.2.1<ln t.1)->T.Pairwise (λt u=>¬(t.1=u.1/\t.2.1=u.2.1))->(∀t∈T,at2 no R t.1 t.2.1=no)->Shp n ln (T.foldl putT R)/\S2 no n ln W (T.foldl putT R)=S2 no n ln W R+(T.map λt=>W t.1 t.2.1 t.2.2).sum
 | [],R,s,_,_,_=>⟨s,by simp⟩
 | t::T,R,s,hb,hp,hn=>by
  obtain⟨b1,b2⟩:=hb t y0d;have hp':=y44.mp hp;have s':Shp n ln (putT R t):=s.put (x:=t.1) (k:=t.2.1) (a:=t.2.2) b1
  obtain⟨r1,r2⟩:=fold_S2 w0 T (putT R t) s' (λu hu=>hb u (y0a _ hu)) hp'.2 (λu hu=>by
   have e:at2 no (putT R t) u.1 u.2.1=_:=at2_put (x:=t.1) (k:=t.2.1) (a:=t.2.2) s b1 b2 u.1 u.2.1;rw[e,if_neg (λz=>hp'.1 u hu ⟨z.1.symm,z.2.symm⟩)];exact hn u (y0a _ hu))
  refine⟨r1,?_⟩;have e:S2 no n ln W (putT R t)=_:=zol (x:=t.1) (k:=t.2.1) (a:=t.2.2) s b1 b2;rw[y3k,r2,e,y0l,y0q,hn t y0d,w0];lia
theorem fold_all {P:α->Prop}(p0:P no):∀(T:List (Nat×Nat × α)) (R:List (List α)),(∀t∈T,P t.2.2)->(∀r∈R,∀a∈r,P a)->∀r∈T.foldl putT R,∀a∈r,P a
 | [],R,_,h=>h
 | t::T,R,ht,h=>by
  rw[y3k];refine fold_all p0 T (putT R t) (λu hu=>ht u (y0a _ hu)) λr hr a ha=>?_;unfold putT at hr;rcases y59 hr with z | z
  ·exact h r z a ha
  ·rw[z] at ha;rcases y59 ha with y | y
   ·by_cases c:t.1<R.length
    ·refine h (R.getD t.1 []) ?_ a y;rw[y05,y01 c];exact y2i c
    ·rw[y05,y0u (by lia)] at y
     cases y
   ·rw[y];exact ht t y0d
end
theorem sum_only {β:Type}{F:β->Int}:∀{l:List β} {i:Nat} {y:β},l[i]?=some y->(∀(j:Nat) z,l[j]?=some z->j≠i->F z=0)->(l.map F).sum=F y
 | x::r,0,y,h,k=>by
  cases h;rw[y0l,y0q];have:(r.map F).sum=0:=by
   have:∀z∈r,F z=0:=λz hz=>by
    obtain⟨j,hj⟩:=y08 hz;exact k (j+1) z (by simpa using hj) (by lia)
   rw[y0m this,sum_zeroI]
  lia
 | x::r,i+1,y,h,k=>by
  rw[y0l,y0q,k 0 x rfl (by lia),y3f]
  exact sum_only (i:=i) (by simpa using h) λj z hj hn=>k (j+1) z (by simpa using hj) (by lia)
theorem load_zip:∀(ends:List (Nat×Nat)) (ap:List Int) (e:Nat),load ends ap e=((ends.zip ap).map λq=>if inc q.1 e then q.2 else 0).sum
 | [],_,_=>by simp[load]
 | _::_,[],_=>by simp[load]
 | p::r,s::q,e=>by
  rw[load,y55,y0l,y0q,load_zip r q e]
end PM
set_option Elab.async false
set_option linter.all false
set_option maxRecDepth 100000
namespace My
open PySem L2 L2.EX
theorem z6y {f g:Nat->Int}{n:Nat}(h:∀e<n,f e≤g e)(k:PM.upTo g n≤PM.upTo f n):∀e<n,f e=g e:=by
 rw[z4j,z4j] at k;intro e he;exact PM.sum_eqI (λx hx=>h x (y1d.mp hx)) k e (y1d.mpr he)
section
variable {gs ts ap aj aa:List Int}{az:List (Nat×Nat)}
theorem z8t {G T:Nat}:(z2p G T az).ends=az.map λp=>(p.1,G+p.2):=rfl
theorem ze7 (W:(z2p gs.length ts.length az).WF)(F:PM.Flow (z2p gs.length ts.length az) (gs++ts) ap aj)(b:Bool):PM.upTo (λe=>if decide (e<gs.length)=b then PM.load (z2p gs.length ts.length az).ends ap e else 0) (gs.length+ts.length)=ap.sum:=by
 have lo:=PM.load_over (S:=λe=>decide (decide (e<gs.length)=b)) W.two F.ls;have e1:PM.upTo (λe=>if decide (e<gs.length)=b then PM.load (z2p gs.length ts.length az).ends ap e else 0) (gs.length+ts.length)=PM.upTo (λe=>if decide (decide (e<gs.length)=b)=true then PM.load (z2p gs.length ts.length az).ends ap e else 0) (gs.length+ts.length):=PM.upTo_congr λe he=>by
  by_cases c:decide (e<gs.length)=b
  ·rw[if_pos c,if_pos (decide_eq_true c)]
  ·rw[if_neg c,if_neg (λz=>c (of_decide_eq_true z))]
 rw[e1];refine lo.trans ?_;rw[←PM.zip_snd F.ls];congr 1;refine y0m λq hq=>?_;obtain⟨k,hk⟩:=y08 (y1c hq).1;have:=W.lo k q.1 hk;have g1:q.1.1<gs.length:=this.1
 have g2:¬q.1.2<gs.length:=by have:=this.2.1;show ¬_;exact y7q.mpr this
 rw[decide_eq_true g1,decide_eq_false g2];cases b<;>simp
theorem zf7 (W:(z2p gs.length ts.length az).WF)(F:PM.Flow (z2p gs.length ts.length az) (gs++ts) ap aj)(h:gs.sum≤ap.sum):∀g<gs.length,PM.load (z2p gs.length ts.length az).ends ap g=gs.getD g 0:=by
 have s:=ze7 W F true;have k:=z6y (f:=λe=>if decide (e<gs.length)=true then PM.load (z2p gs.length ts.length az).ends ap e else 0) (g:=λe=>if decide (e<gs.length)=true then (gs++ts).getD e 0 else 0) (n:=gs.length+ts.length) (λe he=>by
  split
  ·exact(F.load_le he).1
  ·exact y20 _) (by
  rw[s,PM.upTo_split];have z:PM.upTo (λe=>if decide (gs.length+e<gs.length)=true then (gs++ts).getD (gs.length+e) 0 else 0) ts.length=0:=by
   rw[PM.upTo_congr (g:=λ_=>0) λe _=>if_neg (by simp),PM.upTo_zero]
  have y:PM.upTo (λe=>if decide (e<gs.length)=true then (gs++ts).getD e 0 else 0) gs.length=gs.sum:=by
   rw[PM.upTo_congr (g:=λe=>gs.getD e 0) λe he=>by rw[if_pos (decide_eq_true he),z68 he],z4j]
   have:=zcc (λx:Int=>x) 0 gs;rw[this,List.map_id']
  rw[z,y];lia)
 intro g hg;have:=k g (by lia)
 rw[decide_eq_true hg,if_pos rfl,if_pos rfl,z68 hg] at this;exact this
theorem zes (W:(z2p gs.length ts.length az).WF)(F:PM.Flow (z2p gs.length ts.length az) (gs++ts) ap aj)(h:ts.sum≤ap.sum):∀t<ts.length,PM.load (z2p gs.length ts.length az).ends ap (gs.length+t)=ts.getD t 0:=by
 have s:=ze7 W F false;have k:=z6y (f:=λe=>if decide (e<gs.length)=false then PM.load (z2p gs.length ts.length az).ends ap e else 0) (g:=λe=>if decide (e<gs.length)=false then (gs++ts).getD e 0 else 0) (n:=gs.length+ts.length) (λe he=>by
  split
  ·exact(F.load_le he).1
  ·exact y20 _) (by
  rw[s,PM.upTo_split];have z:PM.upTo (λe=>if decide (e<gs.length)=false then (gs++ts).getD e 0 else 0) gs.length=0:=by
   rw[PM.upTo_congr (g:=λ_=>0) λe he=>if_neg (by simp[he]),PM.upTo_zero]
  have y:PM.upTo (λe=>if decide (gs.length+e<gs.length)=false then (gs++ts).getD (gs.length+e) 0 else 0) ts.length=ts.sum:=by
   rw[PM.upTo_congr (g:=λe=>ts.getD e 0) λe he=>by rw[if_pos (by simp),z8h],z4j]
   have:=zcc (λx:Int=>x) 0 ts;rw[this,List.map_id']
  rw[z,y];lia)
 intro t ht;have:=k (gs.length+t) (by lia)
 rw[decide_eq_false (by lia),if_pos rfl,if_pos rfl,z8h] at this
 exact this
theorem zix {ws:List Int}{drs:List (List Nat)}{c:PM.Cr}(hn:c.1.Nodup)(cn:c.2.Nodup)(rst:znu ws drs c)(wp:∀x∈ws,1≤x)(lg:gs.length=c.2.length)(D:PM.Done (z2p gs.length ts.length (z0o drs c.1 c.2)) (gs++ts) ap aj aa) :
  ∃nh:Nat->Bool,(c.1.length:Int)*PM.upTo (λg=>if PM.nr aa g then z2n ws (c.2.getD g 0) else 0) c.2.length≤PM.tot (z2n ws) c*PM.cnt c nh/\PM.cnt c nh≤c.1.length/\0≤PM.cnt c nh/\∀v:Int,PM.upTo (λj=>if PM.nr aa (gs.length+j) then v else 0) c.1.length=v*PM.cnt c nh:=by
 refine⟨λh=>PM.nr aa (gs.length+c.1.idxOf h),?_,?_,?_,λv=>?_⟩
 ·have hi:=rst λh=>PM.nr aa (gs.length+c.1.idxOf h);refine y3e (y2c ?_ (by lia)) hi
  have e:PM.upTo (λg=>if PM.nr aa g then z2n ws (c.2.getD g 0) else 0) c.2.length=(c.2.map λx=>if PM.nr aa (c.2.idxOf x) then z2n ws x else 0).sum:=by
   rw[←PM.upTo_list];refine PM.upTo_congr λg hg=>?_;rw[z55 cn (PM.get_of_lt hg)]
  rw[e];unfold PM.inside;refine PM.sum_leI λx hx=>?_;have wpx:=zbt wp x
  by_cases z:PM.nr aa (c.2.idxOf x)=true
  ·have all:(c.1.all λh=>(!(z2i drs x).contains h||PM.nr aa (gs.length+c.1.idxOf h)))=true:=y2j.mpr λh hh=>by
    cases q:(z2i drs x).contains h with
    | false=>rfl
    | true =>
     have hm:=y1v.mp q;have lx:=y1g hx
     have lh:=y1g hh;have gx:c.2[c.2.idxOf x]?=some x:=by rw[y01 lx];simp
     have gh:c.1[c.1.idxOf h]?=some h:=by rw[y01 lh];simp
     have tie:(c.2.idxOf x,c.1.idxOf h)∈z0o drs c.1 c.2:=(z26 hn _ _).mpr ⟨x,h,gx,gh,hm⟩;obtain⟨k,hk⟩:=y08 tie;have t:PM.Tie (z2p gs.length ts.length (z0o drs c.1 c.2)) (c.2.idxOf x) k (gs.length+c.1.idxOf h):=⟨(c.2.idxOf x,gs.length+c.1.idxOf h),by rw[z8t,y06,hk];rfl,.inl ⟨rfl,rfl⟩⟩
     have:=D.az _ _ _ t (show c.2.idxOf x<gs.length by lia) z
     rw[this];rfl
   rw[if_pos z,if_pos all];exact y20 _
  ·rw[if_neg z]
   split<;>lia
 ·unfold PM.cnt;have:∀l:List Nat,(l.map λh=>if PM.nr aa (gs.length+c.1.idxOf h)=true then (1:Int) else 0).sum≤l.length:=λl=>by
   induction l with
   | nil=>simp
   | cons x r ih =>
    rw[y0l,y0q,y1a]
    split<;>lia
  exact this c.1
 ·unfold PM.cnt;refine zle λx hx=>?_;obtain⟨y,_,rfl⟩:=y1i.mp hx
  split<;>lia
 ·unfold PM.cnt;rw[PM.mul_sum,←PM.upTo_list];refine PM.upTo_congr λg hg=>?_;show _=v*if PM.nr aa (gs.length+List.idxOf (c.1.getD g 0) c.1)=true then 1 else 0
  rw[z55 hn (PM.get_of_lt hg)]
  split
  ·rw[y4s]
  ·rw[Int.mul_zero]
theorem zja {c:PM.Cr}{wk:Nat->Int}:PM.upTo (λg=>wk (c.2.getD g 0)) c.2.length=PM.tot wk c:=PM.upTo_list _
theorem zjn (S:Nat->Bool)(f:Nat->Int)(n:Nat):PM.upTo (λg=>if S g then 0 else f g) n=PM.upTo f n - PM.upTo (λg=>if S g then f g else 0) n:=by
 induction n with
 | zero=>rfl
 | succ n ih =>
  show PM.upTo (λg=>if S g then 0 else f g) n+(if S n then 0 else f n)=(PM.upTo f n+f n) - (PM.upTo (λg=>if S g then f g else 0) n+(if S n then f n else 0))
  rw[ih]
  split<;>lia
theorem zb5 (f:Nat->Int)(k:Int)(n:Nat):PM.upTo (λg=>f g*k) n=PM.upTo f n*k:=by
 induction n with
 | zero=>show(0:Int)=0*k;rw[y3y]
 | succ n ih =>
  show _+_=(_+_)*k;rw[ih,y7j]
theorem zdn {n:Nat}{v:Int}{j:Nat}(h:j<n):(y07 n v).getD j 0=v:=by
 rw[y05,y1f,if_pos h];rfl
end
def z7k (H:Hp)(S:List Addr):Hp:=λb=>if b∈S then none else H b
theorem zbz {H H':Hp}{S:List Addr}(s:Same H H'):Same (z7k H S) (z7k H' S):=λb o h=>by
 unfold z7k at h ⊢
 split at h
 ·cases h
 ·rename_i c;rw[if_neg c];exact s b o h
theorem zdx {H:Hp}{S:List Addr}:Same (z7k H S) H:=λb o h=>by
 unfold z7k at h
 split at h
 ·cases h
 ·exact h
theorem zcx {H:Hp}{S:List Addr}{b:Addr}(h:b ∉ S):z7k H S b=H b:=if_neg h
theorem zkl {H:Hp}{S:List Addr}{a:Addr}{o:HO}(h:a∈S):z7k (upd H a o) S=z7k H S:=by
 funext b;unfold z7k
 split
 ·rfl
 ·rename_i c;rw[z0a (λz=>c (by rw[z];exact h))]
theorem zi1 {H:Hp}{S:List Addr}{l:Addr}{o:HO}(h:H l=none):Same (z7k H S) (z7k (upd H l o) (S ++ [l])):=λb u q=>by
 unfold z7k at q ⊢
 split at q
 ·cases q
 ·rename_i c;have n:=z08 q h;rw[if_neg (λz=>by
   rcases y0y.mp z with z | z
   ·exact c z
   ·exact n (y09.mp z)),z0a n]
  exact q
structure Rw (K:y03)(Hb H':Hp)(rv:List Addr)(aF:List (List V))(ds:List (List PyData)):Prop where
 nd:rv.Nodup
 len:aF.length=rv.length
 dlen:ds.length=rv.length
 at_:∀(i:Nat) r v,rv[i]?=some r->aF[i]?=some v->H' r=some (.lst v)
 old:Same Hb (z7k H' rv)
 all:∀(i:Nat) v d,aF[i]?=some v->ds[i]?=some d->IsAll K (z7k H' rv) v d
section
variable {K:y03}{Hb H' H1:Hp}{rv:List Addr}{aF:List (List V)}{ds:List (List PyData)}
theorem Rw.same (g:Rw K Hb H' rv aF ds):Same Hb H':=g.old.trans zdx
theorem Rw.more (g:Rw K Hb H' rv aF ds)(s:Same H' H1):Rw K Hb H1 rv aF ds:=⟨g.nd,g.len,g.dlen,λi r v h1 h2=>s _ _ (g.at_ i r v h1 h2),g.old.trans (zbz s),λi v d h1 h2=>IsAll.same (zbz s) _ _ (g.all i v d h1 h2)⟩
theorem Rw.here (g:Rw K Hb H' rv aF ds){r:Addr}(h:r∈rv):∃v,H' r=some (.lst v):=by
 obtain⟨i,hi⟩:=y08 h;have hil:=(y00.mp hi).1;have hv:aF[i]?=some (aF[i]'(by rw[g.len];exact hil)):=y01 _
 exact⟨_,g.at_ i r _ hi hv⟩
theorem z3w {β:Type}{l:List β}{x y:β}{i:Nat}(h:(l ++ [x])[i]?=some y):l[i]?=some y∨(i=l.length/\y=x):=by
 by_cases c:i<l.length
 ·rw[y0s c] at h;exact .inl h
 ·rw[y10 (by lia)] at h
  have z:i - l.length=0:=by
   have:=(y00.mp h).1;simp at this;lia
  rw[z] at h;cases h;exact .inr ⟨by lia,rfl⟩
theorem Rw.snoc (g:Rw K Hb H1 rv aF ds){l:Addr}(hl:H1 l=none){v:List V}{d:List PyData}(al:IsAll K (z7k H1 rv) v d):Rw K Hb (upd H1 l (.lst v)) (rv ++ [l]) (aF ++ [v]) (ds ++ [d]):=by
 have nl:l ∉ rv:=λz=>by
  obtain⟨v,hv⟩:=g.here z;rw[hl] at hv;cases hv
 have sn:=zi1 (S:=rv) (o:=.lst v) hl;refine⟨?_,by rw[y0e,y0e,g.len];rfl,by rw[y0e,y0e,g.dlen];rfl,λi r w h1 h2=>?_,g.old.trans sn,λi w e h1 h2=>?_⟩
 ·rw[y4c];exact⟨g.nd,by simp,λa ha b hb=>by rw[y09.mp hb];exact λz=>nl (z▸ha)⟩
 ·rcases z3w h1 with z | ⟨z1,z2⟩
  ·rcases z3w h2 with y | ⟨y1,y2⟩
   ·have:=g.at_ i r w z y;rw[z0a (z08 this hl)];exact this
   ·have:=(y00.mp z).1;have:=g.len
    lia
  ·rcases z3w h2 with y | ⟨y1,y2⟩
   ·have:=(y00.mp y).1;have:=g.len
    lia
   ·rw[z2,y2,z01]
 ·rcases z3w h1 with z | ⟨z1,z2⟩
  ·rcases z3w h2 with y | ⟨y1,y2⟩
   ·exact IsAll.same sn _ _ (g.all i w e z y)
   ·have:=(y00.mp z).1;have:=g.len
    have:=g.dlen;lia
  ·rcases z3w h2 with y | ⟨y1,y2⟩
   ·have:=(y00.mp y).1;have:=g.len
    have:=g.dlen;lia
   ·rw[z2,y2];exact IsAll.same sn _ _ al
theorem Rw.set (g:Rw K Hb H' rv aF ds){i:Nat}{r:Addr}{v w:List V}{e:List PyData}(hr:rv[i]?=some r)(hv:aF[i]?=some v)(al:IsAll K (z7k H' rv) w e):Rw K Hb (upd H' r (.lst w)) rv (aF.set i w) (ds.set i e):=by
 have hil:=(y00.mp hr).1;have du:=zkl (H:=H') (o:=.lst w) (y02 hr)
 refine⟨g.nd,by rw[y2a];exact g.len,by rw[y2a];exact g.dlen,λj q u h1 h2=>?_,by rw[du];exact g.old,λj u f h1 h2=>?_⟩
 ·by_cases c:j=i
  ·subst c;rw[hr] at h1;cases h1;rw[y0v (by rw[g.len];exact hil)] at h2
   cases h2;exact z01
  ·rw[y13 (by lia)] at h2
   have:=g.at_ j q u h1 h2;have n:q≠r:=λz=>by
    subst z;obtain⟨x1,y1⟩:=y00.mp h1;obtain⟨x2,y2⟩:=y00.mp hr;have e1:=g.nd.idxOf_getElem j x1;have e2:=g.nd.idxOf_getElem i x2
    rw[y1] at e1;rw[y2] at e2;lia
   rw[z0a n];exact this
 ·rw[du]
  by_cases c:j=i
  ·subst c;rw[y0v (by rw[g.len];exact hil)] at h1
   rw[y0v (by rw[g.dlen];exact hil)] at h2
   cases h1;cases h2;exact al
  ·rw[y13 (by lia)] at h1 h2
   exact g.all j u f h1 h2
end
def z5y {α:Type}(drs:List (List Nat))(c:PM.Cr)(ss:List α):List (Nat×Nat × α):=((z0o drs c.1 c.2).zip ss).map λt=>(c.2.getD t.1.1 0,(z2i drs (c.2.getD t.1.1 0)).idxOf (c.1.getD t.1.2 0),t.2)
def z4v {α:Type}(drs:List (List Nat))(no:α):List (List α):=drs.map λr=>y07 r.length no
def z2b {α:Type}(drs:List (List Nat))(L:List PM.Cr)(sss:List (List α))(no:α):List (List α):=((L.zip sss).flatMap λx=>z5y drs x.1 x.2).foldl PM.putT (z4v drs no)
structure TellR {α:Type}(K:y03)(H H':Hp)(l:Addr)(rv:List Addr)(emb:α->PyData)(R:List (List α)):Prop where
 same:Same H H'
 new:H l=none
 out:H' l=some (.lst (rv.map V.ref))
 rows:∀r∈rv,H r=none/\r≠l
 len:rv.length=R.length
 at_:∀(i:Nat) r row,rv[i]?=some r->R[i]?=some row->∃v,H' r=some (.lst v)/\IsAll K H' v (row.map emb)
 nd:rv.Nodup
def zhz {α:Type}(K:y03)(emb:α->PyData):Sp:=λvs H Q _=>∃(ad ac as:Addr) (vn:V) (drs:List (List Nat)) (L:List PM.Cr) (sss:List (List α)) (no:α),vs = [.ref ad,.ref ac,.ref as,vn]/\Is K H (.ref ad) (z64 drs)/\Is K H (.ref ac) (.list (L.map z2m))/\Is K H (.ref as) (.list (sss.map λss=>.list (ss.map emb)))/\Is K H vn (emb no)/\drs.length≤20/\(∀r∈drs,r.length≤20)/\(∀r∈drs,r.Nodup)/\L.length≤20 /\
 (∀c∈L,c.1.Nodup/\c.1.length≤20/\c.2.length≤20/\∀x∈c.2,x<drs.length)/\sss.length=L.length/\(∀(i:Nat) c ss,L[i]?=some c->sss[i]?=some ss->ss.length=(z0o drs c.1 c.2).length)/\∀(l:Addr) (rv:List Addr) (H':Hp),TellR K H H' l rv emb (z2b drs L sss no)->Q (.ref l) H'
def z7s (K:y03):Sp:=λvs H Q _=>∃(ad:Addr) (vc:V) (drs:List (List Nat)) (av aq:List Nat),vs = [.ref ad,vc]/\Is K H (.ref ad) (z64 drs)/\Is K H vc (z5l av aq)/\av.Nodup/\av.length≤20/\aq.length≤20/\(∀r∈drs,r.length≤20)/\(∀c∈aq,c<drs.length) /\
 ∀v H',Same H H'->Is K H' v (.list ((z0o drs av aq).map pr))->(∃l,v = .ref l/\H l=none)->Q v H'
section
variable {K:y03}{Hb Hc H':Hp}{rv:List Addr}{aF:List (List V)}{ds:List (List PyData)}
theorem Rw.rebase (g:Rw K Hb H' rv aF ds):Rw K (z7k H' rv) H' rv aF ds:=⟨g.nd,g.len,g.dlen,g.at_,Same.refl _,g.all⟩
theorem Rw.base (g:Rw K Hc H' rv aF ds)(s:Same Hb Hc):Rw K Hb H' rv aF ds:=⟨g.nd,g.len,g.dlen,g.at_,s.trans g.old,g.all⟩
theorem Rw.prs (g:Rw K Hb H' rv aF ds):∀{ts:List (Nat×Nat)} {xs:List V},IsAll K H' xs (ts.map pr)->IsAll K (z7k H' rv) xs (ts.map pr)
 | [],xs,h=>by simpa only[y3l,IsAll] using h
 | p::ts,xs,h=>by
  rw[y0l] at h ⊢
  simp only[IsAll] at h;obtain⟨v,vs,rfl,q,al⟩:=h;refine z1c ?_ (g.prs al);obtain⟨a,rfl,ha⟩:=(is_frac (n:=(p.1:Int)) (d:=(p.2:Int))).mp q;refine(is_frac (n:=(p.1:Int)) (d:=(p.2:Int))).mpr ⟨a,rfl,?_⟩;rw[zcx (λz=>by
   obtain⟨v,hv⟩:=g.here z;rw[ha] at hv;cases hv)]
  exact ha
end
theorem zmr {α β:Type}{f:α->β}{R:List (List α)}{x k:Nat}{a:α}(hx:x<R.length):(PM.putT R (x,k,a)).map (λr=>r.map f)=(R.map λr=>r.map f).set x (((R.getD x []).map f).set k (f a)):=by
 unfold PM.putT;rw[y2l,y2l]
theorem zdt {α:Type}{n:Nat}{ln:Nat->Nat}:∀(T:List (Nat×Nat × α)) (R:List (List α)),(∀t∈T,t.1<n)->PM.Shp n ln R->PM.Shp n ln (T.foldl PM.putT R)
 | [],R,_,s=>s
 | t::T,R,h,s=>zdt T _ (λu hu=>h u (y0a _ hu)) (s.put (x:=t.1) (k:=t.2.1) (a:=t.2.2) (h t y0d))
theorem z3j {α:Type}{drs:List (List Nat)}{c:PM.Cr}{ss:List α}(hn:c.1.Nodup){t:Nat×Nat × α}(h:t∈z5y drs c ss):∃(g p x hd:Nat),((g,p),t.2.2)∈(z0o drs c.1 c.2).zip ss/\c.2[g]?=some x/\c.1[p]?=some hd/\hd∈z2i drs x/\t.1=x/\t.2.1=(z2i drs x).idxOf hd:=by
 unfold z5y at h;obtain⟨u,hu,rfl⟩:=y1i.mp h;obtain⟨x,hd,h1,h2,h3⟩:=(z26 hn u.1.1 u.1.2).mp (y1c hu).1;refine⟨u.1.1,u.1.2,x,hd,hu,h1,h2,h3,PM.getD_of h1,?_⟩;show(z2i drs (c.2.getD u.1.1 0)).idxOf (c.1.getD u.1.2 0)=_;rw[PM.getD_of h1,PM.getD_of h2]
theorem z8r {α:Type}(drs:List (List Nat))(no:α):PM.Shp drs.length (λx=>(z2i drs x).length) (z4v drs no):=by
 unfold z4v;refine⟨y04 ..,λx hx=>?_⟩;rw[y05,y06,y01 hx];show(y07 _ no).length=_;rw[y1k];show _=(drs.getD x []).length;rw[y05,y01 hx];rfl
structure CrowdP (ws:List Int)(drs:List (List Nat))(c:PM.Cr):Prop where
 nd:c.1.Nodup
 cn:c.2.Nodup
 hl:c.1.length≤20
 cl:c.2.length≤20
 ci:∀x∈c.2,x<ws.length
 n0:0<c.1.length
 rst:znu ws drs c
def z4f {α:Type}(f:α->Int)(az:List (Nat×Nat))(ss:List α)(P:Nat×Nat->Bool):Int:=((az.zip ss).map λq=>if P q.1 then f q.2 else 0).sum
structure PcOk (ws:List Int)(drs:List (List Nat))(c:PM.Cr)(ss:List Int):Prop where
 len:ss.length=(z0o drs c.1 c.2).length
 nn:∀s∈ss,0≤s
 gv:∀g<c.2.length,z4f id (z0o drs c.1 c.2) ss (λp=>p.1==g)=ws.getD (c.2.getD g 0) 0
 tk:∀t<c.1.length,(z4f id (z0o drs c.1 c.2) ss (λp=>p.2==t) - 1)*c.1.length<PM.tot (z2n ws) c/\PM.tot (z2n ws) c<(z4f id (z0o drs c.1 c.2) ss (λp=>p.2==t)+1)*c.1.length
theorem zfx {G:Nat}{az:List (Nat×Nat)}{ss:List Int}{g:Nat}(hg:g<G):PM.load (az.map λp=>(p.1,G+p.2)) ss g=z4f id az ss (λp=>p.1==g):=by
 rw[PM.load_zip];unfold z4f;rw[y6z,y1z];congr 1;refine y0m λq _=>?_;show(if PM.inc (q.1.1,G+q.1.2) g then q.2 else 0)=if (q.1.1==g)=true then q.2 else 0
 have:PM.inc (q.1.1,G+q.1.2) g=(q.1.1==g):=by
  unfold PM.inc;rw[y2h];simp;lia
 rw[this]
theorem zh5 {G:Nat}{az:List (Nat×Nat)}{ss:List Int}{t:Nat}(hp:∀p∈az,p.1<G):PM.load (az.map λp=>(p.1,G+p.2)) ss (G+t)=z4f id az ss (λp=>p.2==t):=by
 rw[PM.load_zip];unfold z4f;rw[y6z,y1z];congr 1;refine y0m λq hq=>?_;have:=hp q.1 (y1c hq).1;show(if PM.inc (q.1.1,G+q.1.2) (G+t) then q.2 else 0)=if (q.1.2==t)=true then q.2 else 0
 have:PM.inc (q.1.1,G+q.1.2) (G+t)=(q.1.2==t):=by
  unfold PM.inc;rw[y2h];simp;lia
 rw[this]
theorem CrOk.crowdP {ws:List Int}{drs:List (List Nat)}{au:Nat}{L:List PM.Cr}(C:CrOk ws drs au L)(hm:au≤20)(hw:ws.length≤20){c:PM.Cr}(hc:c∈L):CrowdP ws drs c:=by
 obtain⟨a,b,d,e,f⟩:=C.lt hc;exact⟨z27 e,z27 f,y17 (z1a e a) hm,y17 (z1a f b) hw,b,y0x.mpr d,C.rst c hc⟩
end My
set_option Elab.async false
set_option linter.all false
set_option maxRecDepth 100000
namespace My
open PySem L2 L2.EX
theorem z7u {L:List PM.Cr}{f:PM.Cr->List Nat}(nd:(L.flatMap f).Nodup){i j x:Nat}{c d:PM.Cr}(hi:L[i]?=some c)(hj:L[j]?=some d)(hx:x∈f c)(hy:x∈f d):i=j:=by
 have pw:=(y4h.mp nd).2;rw[y2b] at pw;obtain⟨i1,i2⟩:=y00.mp hi;obtain⟨j1,j2⟩:=y00.mp hj;rcases y33 i j with h | h | h
 ·exact absurd rfl (pw i j i1 j1 h x (by rw[i2];exact hx) x (by rw[j2];exact hy))
 ·exact h
 ·exact absurd rfl (pw j i j1 i1 h x (by rw[j2];exact hy) x (by rw[i2];exact hx))
theorem zfd {av:List Nat}(g:Nat){row:List Nat}(nr:row.Nodup):(z3e av g row).Nodup:=by
 unfold z3e;refine List.Pairwise.filterMap _ (λa b hab p hp q hq=>?_) nr;intro e;cases ha:z31 av a with
 | none=>rw[ha] at hp;cases hp
 | some u =>
  cases hb:z31 av b with
  | none=>rw[hb] at hq;cases hq
  | some v =>
   rw[ha] at hp;rw[hb] at hq;cases hp;cases hq;cases e;have h1:=zai ha;have h2:=zai hb
   rw[h1] at h2;exact hab (y12 h2)
theorem zbk {drs:List (List Nat)}{av aq:List Nat}(hn:av.Nodup)(nr:∀r∈drs,r.Nodup):∀i:Nat,(z44 drs av aq i).Nodup
 | 0=>by simp[z44]
 | i+1=>by
  rw[z44,y4c];refine⟨zbk hn nr i,zfd i ?_,λa ha b hb e=>?_⟩
  ·by_cases z:aq.getD i 0<drs.length
   ·have e:drs.getD (aq.getD i 0) []=drs[aq.getD i 0]:=by rw[y05,y01 z];rfl
    rw[e];exact nr _ (y2i z)
   ·rw[y05,y0u (by lia)]
    simp
  ·subst e;have h1:=(z6z hn (a:=a.1) (b:=a.2)).mp ha;have h2:=(z8m hn (a:=a.1) (b:=a.2)).mp hb
   lia
theorem zhq {α β:Type}{R:α->α->Prop}:∀{l:List α} {m:List β},l.Pairwise R->(l.zip m).Pairwise λx y=>R x.1 y.1
 | [],_,_=>by simp
 | _::_,[],_=>by simp
 | a::l,b::m,h=>by
  rw[y55];have h':=y44.mp h;exact y44.mpr ⟨λy hy=>h'.1 y.1 (y1c hy).1,zhq h'.2⟩
section
variable {α:Type}{drs:List (List Nat)}{L:List PM.Cr}{sss:List (List α)}
structure RowsH (drs:List (List Nat))(L:List PM.Cr):Prop where
 nr:∀r∈drs,r.Nodup
 nd:∀c∈L,c.1.Nodup/\c.2.Nodup/\∀x∈c.2,x<drs.length
 cd:(L.flatMap (·.2)).Nodup
 hd:(L.flatMap (·.1)).Nodup
theorem znp {c:PM.Cr}{ss:List α}(nr:∀r∈drs,r.Nodup)(hn:c.1.Nodup)(cn:c.2.Nodup):(z5y drs c ss).Pairwise λt u=>¬(t.1=u.1/\t.2.1=u.2.1):=by
 unfold z5y;rw[y5j];have z:=zhq (m:=ss) (zbk (drs:=drs) (aq:=c.2) hn nr c.2.length);refine y5k (λ{a b} ha hb hab=>?_) z;rintro⟨e1,e2⟩;obtain⟨x,h,h1,h2,h3⟩:=(z26 hn a.1.1 a.1.2).mp (y1c ha).1;obtain⟨y,k,k1,k2,k3⟩:=(z26 hn b.1.1 b.1.2).mp (y1c hb).1;dsimp only at e1 e2;rw[PM.getD_of h1,PM.getD_of k1] at e1;subst e1;rw[PM.getD_of h1,PM.getD_of k1,PM.getD_of h2,PM.getD_of k2] at e2;have g1:a.1.1=b.1.1:=by rw[←z55 cn h1,←z55 cn k1]
 have ek:h=k:=by
  have l1:=y1g h3;have l2:=y1g k3
  have q1:(z2i drs x)[(z2i drs x).idxOf h]'l1=h:=y57 l1;have q2:(z2i drs x)[(z2i drs x).idxOf k]'l2=k:=y57 l2
  rw[←q1,←q2];congr 1
 subst ek;have g2:a.1.2=b.1.2:=by rw[←z55 hn h2,←z55 hn k2]
 exact hab (Prod.ext g1 g2)
theorem zae (h:RowsH drs L)(hl:sss.length=L.length){no:α}{W:Nat->Nat->α->Int}(w0:∀x k,W x k no=0) :
  PM.Shp drs.length (λx=>(z2i drs x).length) (z2b drs L sss no)/\PM.S2 no drs.length (λx=>(z2i drs x).length) W (z2b drs L sss no)=((L.zip sss).map λx=>((z5y drs x.1 x.2).map λt=>W t.1 t.2.1 t.2.2).sum).sum:=by
 have at0:∀x k,PM.at2 no (z4v drs no) x k=no:=λx k=>by
  unfold PM.at2 z4v
  by_cases z:x<drs.length
  ·have e:(drs.map λr=>y07 r.length no).getD x []=y07 (drs[x].length) no:=by
    rw[y05,y06,y01 z];rfl
   rw[e,y05,y1f]
   split<;>rfl
  ·have e:(drs.map λr=>y07 r.length no).getD x [] = []:=by
    rw[y05,y0u (by rw[y04];lia)]
    rfl
   rw[e];rfl
 have bnd:∀t∈(L.zip sss).flatMap λx=>z5y drs x.1 x.2,t.1<drs.length/\t.2.1<(z2i drs t.1).length:=λt ht=>by
  obtain⟨u,hu,hu2⟩:=y2k.mp ht;have hc:=h.nd u.1 (y1c hu).1;obtain⟨_,_,x,hd,_,z1,_,z3,z4,z5⟩:=z3j hc.1 hu2;rw[z4,z5];exact⟨hc.2.2 x (y02 z1),y1g z3⟩
 have pw:((L.zip sss).flatMap λx=>z5y drs x.1 x.2).Pairwise λt u=>¬(t.1=u.1/\t.2.1=u.2.1):=by
  rw[y4h];refine⟨λu hu=>?_,?_⟩
  ·have hc:=h.nd u.1 (y1c hu).1;exact znp h.nr hc.1 hc.2.1
  ·have z:=zhq (m:=sss) (y4h.mp h.cd).2;refine y5k (λ{a b} ha hb hab t ht u hu=>?_) z;have ca:=h.nd a.1 (y1c ha).1
   have cb:=h.nd b.1 (y1c hb).1;obtain⟨_,_,x,_,_,z1,_,_,z4,_⟩:=z3j ca.1 ht;obtain⟨_,_,y,_,_,y1,_,_,y4,_⟩:=z3j cb.1 hu;rintro⟨e,_⟩;rw[z4,y4] at e;exact hab x (y02 z1) y (y02 y1) e
 obtain⟨s1,s2⟩:=PM.fold_S2 (n:=drs.length) (ln:=λx=>(z2i drs x).length) w0 _ _ (z8r drs no) bnd pw λt _=>at0 t.1 t.2.1;refine⟨s1,?_⟩;have z0:PM.S2 no drs.length (λx=>(z2i drs x).length) W (z4v drs no)=0:=by
  unfold PM.S2;have:∀x,((y0f (z2i drs x).length).map λk=>W x k (PM.at2 no (z4v drs no) x k)).sum=0:=λx=>by
   rw[y0m (λk _=>by rw[at0,w0]:∀k∈y0f (z2i drs x).length,W x k (PM.at2 no (z4v drs no) x k)=0),PM.sum_zeroI]
  rw[y0m λx _=>this x,PM.sum_zeroI]
 unfold z2b;rw[s2,z0,y3f];have fl:∀l:List (PM.Cr×List α),((l.flatMap λx=>z5y drs x.1 x.2).map λt=>W t.1 t.2.1 t.2.2).sum=(l.map λx=>((z5y drs x.1 x.2).map λt=>W t.1 t.2.1 t.2.2).sum).sum:=λl=>by
  induction l with
  | nil=>rfl
  | cons a r ih=>rw[y5h,y0g,y1x,y0l,y0q,ih]
 exact fl _
theorem zn5 (h:RowsH drs L)(hl:sss.length=L.length){no:α}{f:α->Int}(f0:f no=0){i g x:Nat}{c:PM.Cr}{ss:List α}(hc:L[i]?=some c)(hs:sss[i]?=some ss)(hg:c.2[g]?=some x):(((z2b drs L sss no).getD x []).map f).sum=z4f f (z0o drs c.1 c.2) ss λp=>p.1==g:=by
 obtain⟨sh,e⟩:=zae h hl (no:=no) (W:=λy k a=>if y=x then f a else 0) λy k=>by rw[f0];split<;>rfl
 have xl:x<drs.length:=(h.nd c (y02 hc)).2.2 x (y02 hg);have lhs:PM.S2 no drs.length (λx=>(z2i drs x).length) (λy k a=>if y=x then f a else 0) (z2b drs L sss no)=(((z2b drs L sss no).getD x []).map f).sum:=by
  unfold PM.S2;have o:=PM.sum_oneN (λ_=>(0:Int)) (λy=>((y0f (z2i drs y).length).map λk=>if y=x then f (PM.at2 no (z2b drs L sss no) y k) else 0).sum) x (λy hy=>by
   show((y0f (z2i drs y).length).map λk=>if y=x then f (PM.at2 no (z2b drs L sss no) y k) else 0).sum=0
   rw[y0m (λk _=>if_neg hy:∀k∈y0f (z2i drs y).length,_=(0:Int)),PM.sum_zeroI]) drs.length xl
  rw[PM.sum_zeroI,y3f,Int.sub_zero] at o;rw[o];simp only[if_true];have ln:((z2b drs L sss no).getD x []).length=(z2i drs x).length:=sh.2 x xl;rw[←ln];have:=zcc f no ((z2b drs L sss no).getD x [])
  rw[←this];rfl
 rw[lhs] at e;rw[e];have zi:(L.zip sss)[i]?=some (c,ss):=(y0w (z:=(c,ss))).mpr ⟨hc,hs⟩;rw[PM.sum_only zi λj z hz hj=>?_]
 ·unfold z5y z4f;rw[y1z];congr 1;refine y0m λq hq=>?_;obtain⟨y,hd,h1,h2,h3⟩:=(z26 (h.nd c (y02 hc)).1 q.1.1 q.1.2).mp (y1c hq).1;show(if c.2.getD q.1.1 0=x then f q.2 else 0)=if (q.1.1==g)=true then f q.2 else 0
  rw[PM.getD_of h1];have cn:=(h.nd c (y02 hc)).2.1
  by_cases z:q.1.1=g
  ·have:y=x:=by rw[z,hg] at h1;exact(y12 h1).symm
   rw[if_pos this,if_pos (by simp[z])]
  ·have:¬y=x:=λe=>z (by rw[←z55 cn h1,←z55 cn hg,e])
   rw[if_neg this,if_neg (by simp[z])]
 ·obtain⟨z1,z2⟩:=(y0w (z:=z)).mp hz;have:∀t∈z5y drs z.1 z.2,(λt:Nat×Nat × α=>if t.1=x then f t.2.2 else 0) t=0:=λt ht=>by
   obtain⟨_,_,y,_,_,y1,_,_,y4,_⟩:=z3j (h.nd z.1 (y02 z1)).1 ht;refine if_neg λe=>hj ?_;rw[y4] at e;subst e;exact z7u h.cd z1 hc (y02 y1) (y02 hg)
  rw[y0m this,PM.sum_zeroI]
theorem z6p {β γ:Type}(F:β × γ->Int)(d:β)(e:γ):∀{r:List β} {s:List γ},s.length=r.length->((r.zip s).map F).sum=((y0f r.length).map λk=>F (r.getD k d,s.getD k e)).sum:=λ{r s} hl=>by
 congr 1;refine y2f λk=>?_
 by_cases c:k<r.length
 ·rw[y06,y06,y1w c,(y0w (z:=(r.getD k d,s.getD k e))).mpr ⟨?_,?_⟩]
  ·rfl
  ·show r[k]?=some (r.getD k d);rw[y05,y01 c];rfl
  ·show s[k]?=some (s.getD k e);rw[y05,y01 (show k<s.length by lia)];rfl
 ·rw[y0u (by rw[y04,y45];lia),y0u (by rw[y04,y2q];lia)]
def znw (f:α->Int)(l:List (Nat × α))(h:Nat):Int:=(l.map λx=>if x.1=h then f x.2 else 0).sum
def zfk (drs:List (List Nat))(R:List (List α)):List (Nat × α):=(drs.zip R).flatMap λx=>x.1.zip x.2
theorem zk2 (h:RowsH drs L)(hl:sss.length=L.length){no:α}{f:α->Int}(f0:f no=0){i p h0:Nat}{c:PM.Cr}{ss:List α}(hc:L[i]?=some c)(hs:sss[i]?=some ss)(hp:c.1[p]?=some h0):znw f (zfk drs (z2b drs L sss no)) h0=z4f f (z0o drs c.1 c.2) ss λq=>q.2==p:=by
 obtain⟨sh,e⟩:=zae h hl (no:=no) (W:=λx k a=>if (z2i drs x).getD k 0=h0 then f a else 0) λy k=>by rw[f0];split<;>rfl
 have lhs:PM.S2 no drs.length (λx=>(z2i drs x).length) (λx k a=>if (z2i drs x).getD k 0=h0 then f a else 0) (z2b drs L sss no)=znw f (zfk drs (z2b drs L sss no)) h0:=by
  unfold PM.S2 znw zfk;have fl:∀l:List (List Nat×List α),((l.flatMap λx=>x.1.zip x.2).map λx=>if x.1=h0 then f x.2 else 0).sum=(l.map λx=>((x.1.zip x.2).map λx=>if x.1=h0 then f x.2 else 0).sum).sum:=λl=>by
   induction l with
   | nil=>rfl
   | cons a r ih=>rw[y5h,y0g,y1x,y0l,y0q,ih]
  rw[fl,z6p _ [] [] sh.1];congr 1;refine y0m λx hx=>?_;have xl:=y1d.mp hx;show _=((((drs.getD x []).zip ((z2b drs L sss no).getD x [])).map λx=>if x.1=h0 then f x.2 else 0)).sum
  rw[z6p _ 0 no (show((z2b drs L sss no).getD x []).length=(drs.getD x []).length from sh.2 x xl)]
  rfl
 rw[lhs] at e;rw[e];have zi:(L.zip sss)[i]?=some (c,ss):=(y0w (z:=(c,ss))).mpr ⟨hc,hs⟩;have val:∀{x hd:Nat},hd∈z2i drs x->(z2i drs x).getD ((z2i drs x).idxOf hd) 0=hd:=λ{x hd} hm=>by
  have l1:=y1g hm;rw[y05,y01 l1];exact y57 l1
 rw[PM.sum_only zi λj z hz hj=>?_]
 ·unfold z5y z4f;rw[y1z];congr 1;refine y0m λq hq=>?_;have hn:=(h.nd c (y02 hc)).1;obtain⟨y,hd,h1,h2,h3⟩:=(z26 hn q.1.1 q.1.2).mp (y1c hq).1;show(if (z2i drs (c.2.getD q.1.1 0)).getD ((z2i drs (c.2.getD q.1.1 0)).idxOf (c.1.getD q.1.2 0)) 0=h0 then f q.2 else 0)=if (q.1.2==p)=true then f q.2 else 0
  rw[PM.getD_of h1,PM.getD_of h2,val h3]
  by_cases z:q.1.2=p
  ·have:hd=h0:=by rw[z,hp] at h2;exact(y12 h2).symm
   rw[if_pos this,if_pos (by simp[z])]
  ·have:¬hd=h0:=λe=>z (by rw[←z55 hn h2,←z55 hn hp,e])
   rw[if_neg this,if_neg (by simp[z])]
 ·obtain⟨z1,z2⟩:=(y0w (z:=z)).mp hz;have:∀t∈z5y drs z.1 z.2,(λt:Nat×Nat × α=>if (z2i drs t.1).getD t.2.1 0=h0 then f t.2.2 else 0) t=0:=λt ht=>by
   obtain⟨_,_,y,hd,_,y1,y2,y3,y4,y5⟩:=z3j (h.nd z.1 (y02 z1)).1 ht;refine if_neg λe=>hj ?_;rw[y4,y5,val y3] at e;subst e;exact z7u h.hd z1 hc (y02 y2) (y02 hp)
  rw[y0m this,PM.sum_zeroI]
end
theorem CrOk.rowsH {ws:List Int}{drs:List (List Nat)}{au:Nat}{L:List PM.Cr}(C:CrOk ws drs au L)(h0:0<au)(hl:drs.length=ws.length)(nr:∀r∈drs,r.Nodup):RowsH drs L:=by
 refine⟨nr,λc hc=>?_,?_,?_⟩
 ·obtain⟨a,b,d,e,f⟩:=C.lt hc;exact⟨z27 e,z27 f,λx hx=>by rw[hl];exact b x hx⟩
 ·have:=z5p C h0;unfold z63 at this;rw[z4q] at this;exact this.nodup_iff.mpr y4m
 ·have:=z5c C h0;unfold z5t at this;rw[z4q] at this;exact this.nodup_iff.mpr y4m
theorem zk3 {ws:List Int}{drs:List (List Nat)}{au:Nat}{L:List PM.Cr}(C:CrOk ws drs au L)(h0:0<au):∃ps qs,LayOk ws L ps/\LoadOk au L ps qs:=by
 have low:∀c∈L,∃p:Int×Int,Low p/\p.1*(c.1.length:Int)=PM.tot (z2n ws) c*p.2:=λc hc=>by
  have n0:0<c.1.length:=y0x.mpr (C.lt hc).2.2.1;obtain⟨_,_,h3,h4,h5⟩:=z7t (a:=PM.tot (z2n ws) c) (b:=(c.1.length:Int)) (by lia) rfl
  exact⟨(_,_),⟨h3,h4⟩,h5⟩
 have pf:∃pf:PM.Cr->Int×Int,∀c∈L,Low (pf c)/\(pf c).1*(c.1.length:Int)=PM.tot (z2n ws) c*(pf c).2:=by
  refine⟨λc=>if h:c∈L then Classical.choose (low c h) else (0,1),λc hc=>?_⟩
  simp only[hc,dif_pos];exact Classical.choose_spec (low c hc)
 obtain⟨pf,hpf⟩:=pf;have hp:=z5c C h0;unfold z5t at hp;rw[z4q] at hp;have ex:∀h<au,∃c,c∈L/\h∈c.1:=λh hh=>by
  obtain⟨c,hc,hin⟩:=y2k.mp (hp.mem_iff.mpr (y1d.mpr hh));exact⟨c,hc,hin⟩
 have nd:(L.flatMap (·.1)).Nodup:=hp.nodup_iff.mpr y4m;refine⟨L.map pf,(y0f au).map λh=>if hh:h<au then pf (Classical.choose (ex h hh)) else (0,1),⟨y04 ..,λi c p hc hp'=>?_⟩,⟨by rw[y04,y2q],λi c p hc hp' h hh=>?_⟩⟩
 ·rw[y06,hc] at hp';cases hp';exact hpf c (y02 hc)
 ·rw[y06,hc] at hp';cases hp';have hlt:h<au:=(C.lt (y02 hc)).1 h hh;rw[y06,y1w hlt];simp only[y7d,hlt,dif_pos];obtain⟨z1,z2⟩:=Classical.choose_spec (ex h hlt);generalize Classical.choose (ex h hlt)=d at z1 z2;obtain⟨j,hj⟩:=y08 z1;have:j=i:=z7u nd hj hc z2 hh
  subst this;rw[hc] at hj;cases hj;rfl
structure PcsOk (ws:List Int)(drs:List (List Nat))(R:List (List Int))(qs:List (Int×Int)):Prop where
 len:R.length=drs.length
 row:∀(i:Nat) r s,drs[i]?=some r->R[i]?=some s->s.length=r.length/\s.sum=ws.getD i 0/\∀z∈s,0≤z
 got:∀(h:Nat) q,qs[h]?=some q->q.1 - q.2<znw id (zfk drs R) h*q.2/\znw id (zfk drs R) h*q.2<q.1+q.2
theorem zek {K:y03}{a:Addr}{rs:List V}{drs:List (List Nat)}{Q:VK}{H:Hp}(hS:H a=some (.lst rs))(hrs:IsAll K H rs (drs.map z39))(hl:drs.length≤20)
  (hd:∀(l:Addr) (ys:List V) (H':Hp),Same H H'->H' l=some (.lst ys)->IsAll K H' ys (drs.map z39)->Q (.ref l) H'):z6n (Itl K a) (z4x 0) zlg (tCB (znr K) (zi2 (xV 0) zlz)) [none] Q H:=by
 have rsl:rs.length=drs.length:=by rw[z0g hrs,y04]
 refine z1r (xs:=rs) (λj ys H5=>Same H H5/\ys.length≤j/\IsAll K H5 ys ((drs.take j).map z39)) ⟨Same.refl _,y0b _,z0r⟩ (z0i (by lia)) ?_ ?_ ?_
 ·rintro j ys H5 _ ⟨e4,yl,_⟩;exact⟨SqL.of (e4 _ _ hS),yl⟩
 ·rintro j x ys H5 hx ⟨e4,yl,al4⟩;have hj:=(y00.mp hx).1;have hSj:drs[j]?=some (drs[j]'(by lia)):=y01 (by lia)
  obtain⟨ra,hra1,hra⟩:=z41 hrs hSj;rw[hx] at hra1;cases hra1;dsimp only[z4x,zlg,tCB,zi2,zlz,xV,sg,List.set];refine z7r ⟨_,.inl (SqL.of (e4 _ _ hra)),λl1 hl1=>?_⟩;have f1:=z04 hl1 (.lst (z09 (drs[j]'(by lia))))
  refine CNx.mk ⟨e4.trans f1,by rw[y0e];show _+1≤_;lia,?_⟩ hj
  rw[z0h hSj,y0g];exact z1j (IsAll.same f1 _ _ al4) (is_list.mpr ⟨l1,_,rfl,z01,z28 _⟩)
 rintro ys H3 ⟨e3,yl,al3⟩ l hl';rw[rsl,y0c (y0b _)] at al3;have f3:=z04 hl' (.lst ys);exact hd l ys _ (e3.trans f3) z01 (IsAll.same f3 _ _ al3)
theorem zbn {K:y03}{H:Hp}:∀{xs:List V} {ds:List PyData},xs.length=ds.length->(∀(i:Nat) x d,xs[i]?=some x->ds[i]?=some d->Is K H x d)->IsAll K H xs ds
 | [],[],_,_=>z0r
 | x::xs,d::ds,hl,h=>z1c (h 0 x d rfl rfl) (zbn (by simpa using hl) λi y e h1 h2=>h (i+1) y e (by simpa using h1) (by simpa using h2))
theorem TellR.is {α:Type}{K:y03}{H H':Hp}{l:Addr}{rv:List Addr}{emb:α->PyData}{R:List (List α)}(t:TellR K H H' l rv emb R):Is K H' (.ref l) (.list (R.map λr=>.list (r.map emb))):=by
 refine is_list.mpr ⟨l,_,rfl,t.out,zbn (by rw[y04,y04,t.len]) λi x d hx hd=>?_⟩
 rw[y06] at hx hd;cases hr:rv[i]? with
 | none=>rw[hr] at hx;cases hx
 | some r =>
  cases hR:R[i]? with
  | none=>rw[hR] at hd;cases hd
  | some row =>
   rw[hr] at hx;rw[hR] at hd;cases hx;cases hd;obtain⟨v,h1,h2⟩:=t.at_ i r row hr hR;exact is_list.mpr ⟨r,v,rfl,h1,h2⟩
theorem zfz {α:Type}(drs:List (List Nat))(L:List PM.Cr)(sss:List (List α))(no:α):(z2b drs L sss no).length=drs.length:=by
 unfold z2b;have:∀(T:List (Nat×Nat × α)) (R:List (List α)),(T.foldl PM.putT R).length=R.length:=λT=>by
  induction T with
  | nil=>intro R;rfl
  | cons t T ih =>
   intro R;rw[y3k,ih];unfold PM.putT;rw[y2a]
 rw[this];unfold z4v;rw[y04]
end My
set_option Elab.async false
set_option linter.all false
set_option maxRecDepth 100000
namespace My
open PySem L2 L2.EX
theorem zj2 {ws:List Int}{drs:List (List Nat)}{c:PM.Cr}{ap aj aa:List Int}(pc:CrowdP ws drs c)(wp:∀x∈ws,1≤x)
  (D:PM.Done (z2p (z0q ws c.1 c.2).length (takesIn ws c.1 c.2).length (z0o drs c.1 c.2)) (z0q ws c.1 c.2++takesIn ws c.1 c.2) ap aj aa) :
  ap.length=(z0o drs c.1 c.2).length/\(∀s∈ap,0≤s)/\(∀g<c.2.length,z4f id (z0o drs c.1 c.2) ap (λp=>p.1==g)=ws.getD (c.2.getD g 0) 0*c.1.length)/\∀t<c.1.length,z4f id (z0o drs c.1 c.2) ap (λp=>p.2==t)=PM.tot (z2n ws) c:=by
 have gl:(z0q ws c.1 c.2).length=c.2.length:=by unfold z0q;rw[y04]
 have lt:(takesIn ws c.1 c.2).length=c.1.length:=by unfold takesIn;rw[y1k]
 have ewt:z2l ws c.2=PM.tot (z2n ws) c:=by
  unfold z2l PM.tot;rw[y0m λx hx=>(zjb (pc.ci x hx)).symm]
 have tie:∀p∈z0o drs c.1 c.2,p.1<c.2.length/\p.2<c.1.length:=λp hp=>by
  obtain⟨x,h,h1,h2,_⟩:=(z26 pc.nd p.1 p.2).mp hp;exact⟨(y00.mp h1).1,(y00.mp h2).1⟩
 have W:=zaf (G:=(z0q ws c.1 c.2).length) (T:=(takesIn ws c.1 c.2).length) (az:=z0o drs c.1 c.2) λp hp=>by rw[gl,lt];exact tie p hp
 obtain⟨nh,k1,k2,k3,k4⟩:=zix pc.nd pc.cn pc.rst wp gl D;have b:=D.bnd W;rw[znc,gl,lt] at b;have gat:∀g<c.2.length,(z0q ws c.1 c.2).getD g 0=z2n ws (c.2.getD g 0)*c.1.length:=λg hg=>by
  unfold z0q;rw[y05,y06,PM.get_of_lt hg];show ws.getD (c.2.getD g 0) 0*_=_;rw[zjb (pc.ci _ (y02 (PM.get_of_lt hg)))]
 have e1:PM.upTo (λe=>if PM.nr aa e=true then 0 else (z0q ws c.1 c.2).getD e 0) c.2.length=PM.tot (z2n ws) c*c.1.length - PM.upTo (λg=>if PM.nr aa g=true then z2n ws (c.2.getD g 0) else 0) c.2.length*c.1.length:=by
  rw[←zja,←zb5,←zb5];have z:PM.upTo (λg=>(if PM.nr aa g=true then z2n ws (c.2.getD g 0) else 0)*(c.1.length:Int)) c.2.length=PM.upTo (λg=>if PM.nr aa g=true then z2n ws (c.2.getD g 0)*c.1.length else 0) c.2.length:=PM.upTo_congr λg _=>by
   split
   ·rfl
   ·exact y3y _
  rw[z,←zjn];refine PM.upTo_congr λg hg=>?_;rw[gat g hg]
 have e2:PM.upTo (λj=>if PM.nr aa (c.2.length+j)=true then (takesIn ws c.1 c.2).getD j 0 else 0) c.1.length=PM.tot (z2n ws) c*PM.cnt c nh:=by
  rw[←k4,gl];refine PM.upTo_congr λj hj=>?_;unfold takesIn;rw[zdn hj,ewt]
 rw[e1,e2] at b;have big:PM.tot (z2n ws) c*c.1.length≤ap.sum:=by
  generalize PM.upTo (λg=>if PM.nr aa g=true then z2n ws (c.2.getD g 0) else 0) c.2.length=A at k1 b
  generalize PM.cnt c nh=m at k1 b;generalize PM.tot (z2n ws) c=t at *
  generalize (c.1.length:Int)=N at *
  have:A*N=N*A:=y28 _ _;lia
 have gsum:(z0q ws c.1 c.2).sum=PM.tot (z2n ws) c*c.1.length:=by
  unfold z0q PM.tot;rw[PM.sum_mulR];congr 1;refine y0m λx hx=>?_;rw[zjb (pc.ci x hx)]
 have tsum:(takesIn ws c.1 c.2).sum=PM.tot (z2n ws) c*c.1.length:=by
  unfold takesIn;rw[ewt];generalize c.1.length=m
  induction m with
  | zero=>simp
  | succ m ih =>
   rw[y1s,y0q,ih,show((m+1:Nat):Int)=(m:Int)+1 by lia,y5m,y4s]
   lia
 have gv:=zf7 W D.flow (by rw[gsum];exact big)
 have tk:=zes W D.flow (by rw[tsum];exact big)
 rw[gl] at gv;rw[lt,gl] at tk;refine⟨by have:=D.flow.ls;rw[z8t,y04] at this;exact this,λs hs=>?_,λg hg=>?_,λt ht=>?_⟩
 ·obtain⟨k,hk⟩:=y08 hs;exact D.flow.nn k s hk
 ·have:=gv g hg;rw[z8t,zfx hg,gat g hg,zjb (pc.ci _ (y02 (PM.get_of_lt hg)))] at this;exact this
 ·have:=tk t ht;rw[z8t,zh5 (λp hp=>(tie p hp).1)] at this;rw[this];unfold takesIn;rw[zdn ht,ewt]
structure ShcOk (ws:List Int)(drs:List (List Nat))(c:PM.Cr)(ss:List (Int×Int)):Prop where
 len:ss.length=(z0o drs c.1 c.2).length
 ok:∀p∈ss,Low p/\0≤p.1/\p.2∣(c.1.length:Int)/\Bd 330 p.1
 gv:∀M:Int,(c.1.length:Int)∣M->0<M->∀g<c.2.length,z4f (vl M) (z0o drs c.1 c.2) ss (λp=>p.1==g)=ws.getD (c.2.getD g 0) 0*M
 tk:∀M:Int,(c.1.length:Int)∣M->0<M->∀t<c.1.length,z4f (vl M) (z0o drs c.1 c.2) ss (λp=>p.2==t)*c.1.length=PM.tot (z2n ws) c*M
theorem zp1 {ws:List Int}{drs:List (List Nat)}{c:PM.Cr}{ap:List Int}{ss:List (Int×Int)}(pc:CrowdP ws drs c)(hb:∀s∈ap,Bd 330 s)
  (h1:ap.length=(z0o drs c.1 c.2).length) (h2:∀s∈ap,0≤s) (h3:∀g<c.2.length,z4f id (z0o drs c.1 c.2) ap (λp=>p.1==g)=ws.getD (c.2.getD g 0) 0*c.1.length) (h4:∀t<c.1.length,z4f id (z0o drs c.1 c.2) ap (λp=>p.2==t)=PM.tot (z2n ws) c)
  (sl:ss.length=ap.length) (sp:∀(k:Nat) p s,ss[k]?=some p->ap[k]?=some s->Low p/\p.1*c.1.length=s*p.2):ShcOk ws drs c ss:=by
 have n0:(0:Int)<c.1.length:=by have:=pc.n0;lia
 have one:∀(k:Nat) p s,ss[k]?=some p->ap[k]?=some s->p.2∣(c.1.length:Int)/\∀M:Int,(c.1.length:Int)∣M->vl M p*c.1.length=s*M:=λk p s hp hs=>by
  obtain⟨l,e⟩:=sp k p s hp hs;have d:=(zag l.2 e).1;refine⟨d,λM hM=>?_⟩;have v:=zgd (y30 d hM)
  have p1:=l.1;refine y1h (a:=p.2) (by lia) ?_
  have a1:vl M p*(c.1.length:Int)*p.2=vl M p*p.2*c.1.length:=by grind
  rw[a1,v];have a2:p.1*M*(c.1.length:Int)=p.1*c.1.length*M:=by grind
  rw[a2,e]
  grind
 have tl:∀(M:Int),(c.1.length:Int)∣M->∀P:Nat×Nat->Bool,z4f (vl M) (z0o drs c.1 c.2) ss P*c.1.length=z4f id (z0o drs c.1 c.2) ap P*M:=λM hM P=>by
  unfold z4f;rw[PM.sum_mulR,PM.sum_mulR];have z:(0,1)=((0:Int),(1:Int)):=rfl;rw[z6p _ (0,0) (0,1) (by lia),z6p _ (0,0) 0 (by lia)]
  congr 1;refine y0m λk hk=>?_;have hk:=y1d.mp hk;have hp:ss[k]?=some (ss.getD k (0,1)):=by rw[y05,y01 (by lia)];rfl
  have hs:ap[k]?=some (ap.getD k 0):=z19 (by lia)
  show(if P ((z0o drs c.1 c.2).getD k (0,0)) then vl M (ss.getD k (0,1)) else 0)*_=(if P ((z0o drs c.1 c.2).getD k (0,0)) then id (ap.getD k 0) else 0)*M
  split
  ·exact(one k _ _ hp hs).2 M hM
  ·rw[y3y,y3y]
 refine⟨by lia,λp hp=>?_,λM hM m0 g hg=>?_,λM hM m0 t ht=>?_⟩
 ·obtain⟨k,hk⟩:=y08 hp;have hkl:=(y00.mp hk).1;have hs:ap[k]?=some (ap.getD k 0):=z19 (by lia)
  obtain⟨l,e⟩:=sp k p _ hk hs;have s0:=h2 _ (y02 hs);have p1:=l.1
  refine⟨l,?_,(one k p _ hk hs).1,(hb _ (y02 hs)).of_le (zif l.2 (by lia) e).1⟩
  refine y3s (a:=(c.1.length:Int)) ?_ n0;rw[y3y,e];exact y2g s0 (by lia)
 ·refine y1h (a:=(c.1.length:Int)) (by lia) ?_
  rw[tl M hM,h3 g hg]
  grind
 ·rw[tl M hM,h4 t ht]
theorem zg2 {α:Type}{no:α}{n:Nat}{ln:Nat->Nat}:∀(T:List (Nat×Nat × α)) (R:List (List α)),PM.Shp n ln R->(∀t∈T,t.1<n/\t.2.1<ln t.1)->∀x k,PM.at2 no (T.foldl PM.putT R) x k=PM.at2 no R x k∨∃t∈T,t.1=x/\t.2.1=k/\PM.at2 no (T.foldl PM.putT R) x k=t.2.2
 | [],R,_,_,x,k=>.inl rfl
 | t::T,R,s,hb,x,k=>by
  obtain⟨b1,b2⟩:=hb t y0d;have s':PM.Shp n ln (PM.putT R t):=s.put (x:=t.1) (k:=t.2.1) (a:=t.2.2) b1;rw[y3k];rcases zg2 (no:=no) T (PM.putT R t) s' (λu hu=>hb u (y0a _ hu)) x k with h | ⟨u,hu,h1,h2,h3⟩
  ·have e:PM.at2 no (PM.putT R t) x k=_:=PM.at2_put (x:=t.1) (k:=t.2.1) (a:=t.2.2) s b1 b2 x k;rw[h,e]
   split
   ·rename_i c;exact .inr ⟨t,y0d,c.1.symm,c.2.symm,rfl⟩
   ·exact .inl rfl
  ·exact .inr ⟨u,y0a _ hu,h1,h2,h3⟩
def z9u (K:y03):Sp:=λvs H Q _=>∃(aw ad:Addr) (vc:V) (ws:List Int) (drs:List (List Nat)) (c:PM.Cr),vs = [.ref aw,.ref ad,vc]/\AsksC K H aw ad ws drs/\Is K H vc (z2m c)/\CrowdP ws drs c/\∀ss:List (Int×Int),ShcOk ws drs c ss->Res K H Q (z5j ss)
def za4 (K:y03):Sp:=λvs H Q _=>∃(aw ad:Addr) (au:Nat) (ws:List Int) (drs:List (List Nat)),vs = [.ref aw,.ref ad,.int (au:Int)]/\AsksC K H aw ad ws drs/\DoOk ws drs au/\(∀r∈drs,r.Nodup) /\
 ∀(L:List PM.Cr) (sss:List (List (Int×Int))) (l:Addr) (rv:List Addr) (H':Hp),CrOk ws drs au L->sss.length=L.length->(∀(i:Nat) c ss,L[i]?=some c->sss[i]?=some ss->ShcOk ws drs c ss)->TellR K H H' l rv (λp:Int×Int=>z3l p.1 p.2) (z2b drs L sss (0,1))->Q (.ref l) H'
structure EvenR (ws:List Int)(drs:List (List Nat))(au:Nat)(R:List (List (Int×Int)))(qs:List (Int×Int)):Prop where
 len:R.length=drs.length
 row:∀(i:Nat) r s,drs[i]?=some r->R[i]?=some s->s.length=r.length
 sum:∀M:Int,0<M->232792560∣M->∀(i:Nat) s,R[i]?=some s->(s.map (vl M)).sum=ws.getD i 0*M
 ok:∀s∈R,∀p∈s,Low p/\0≤p.1/\p.2∣232792560/\Bd 330 p.1
 load:∀M:Int,0<M->232792560∣M->∀(h:Nat) q,qs[h]?=some q->FV M q (bag M (z4u drs R) h)
 even:∀(i:Nat) r s,drs[i]?=some r->R[i]?=some s->∀(k:Nat) p h,s[k]?=some p->r[k]?=some h->0<p.1->∀h'∈r,∀q q',qs[h]?=some q->qs[h']?=some q'->q.1*q'.2≤q'.1*q.2
theorem zmz {ws:List Int}{drs:List (List Nat)}{au:Nat}{L:List PM.Cr}{sss:List (List (Int×Int))}{ps qs:List (Int×Int)}(C:CrOk ws drs au L)(h0:0<au)(hm:au≤20)(hw:ws.length≤20)(hl:drs.length=ws.length)(nr:∀r∈drs,r.Nodup)(wp:∀x∈ws,1≤x)(sl:sss.length=L.length)(pk:∀(i:Nat) c ss,L[i]?=some c->sss[i]?=some ss->ShcOk ws drs c ss)
  (lo:LayOk ws L ps) (lk:LoadOk au L ps qs):EvenR ws drs au (z2b drs L sss (0,1)) qs:=by
 have rh:=C.rowsH h0 hl nr;have sh:=(zae rh sl (no:=((0:Int),(1:Int))) (W:=λ_ _ _=>0) λ_ _=>rfl).1
 have c20:∀c∈L,(c.1.length:Int)∣232792560:=λc hc=>by
  have p:=C.crowdP hm hw hc;exact zqz (by have:=p.n0;lia) (by have:=p.hl;lia)
 have v0:∀M:Int,vl M (0,1)=0:=λM=>y3y _;have pick:∀(i:Nat) c,L[i]?=some c->∃ss,sss[i]?=some ss/\ShcOk ws drs c ss:=λi c hc=>by
  have hi:=(y00.mp hc).1;have hs:sss[i]?=some (sss[i]'(by lia)):=y01 _
  exact⟨_,hs,pk i c _ hc hs⟩
 have rowl:∀(i:Nat) r s,drs[i]?=some r->(z2b drs L sss (0,1))[i]?=some s->s.length=r.length:=λi r s hr hs=>by
  have il:=(y00.mp hr).1;have es:(z2b drs L sss (0,1)).getD i []=s:=by rw[y05,hs];rfl
  have er:z2i drs i=r:=by unfold z2i;rw[y05,hr];rfl
  have:((z2b drs L sss (0,1)).getD i []).length=(z2i drs i).length:=sh.2 i il;rw[es,er] at this;exact this
 refine⟨sh.1,rowl,λM hM hd i s hs=>?_,?_,λM hM hd h q hq=>?_,λi r s hr hs k p h hp hh pos h' hin q q' hq hq'=>?_⟩
 ·have il:i<ws.length:=by rw[←hl,←sh.1];exact(y00.mp hs).1
  have es:(z2b drs L sss (0,1)).getD i []=s:=by rw[y05,hs];rfl
  have cp:=z5p C h0;unfold z63 at cp;rw[z4q] at cp;obtain⟨c,hc,hin⟩:=y2k.mp (cp.mem_iff.mpr (y1d.mpr il));obtain⟨j,hj⟩:=y08 hc;obtain⟨g,hg⟩:=y08 hin;obtain⟨ss,hss,pk1⟩:=pick j c hj;have rs:=zn5 rh sl (f:=vl M) (no:=((0:Int),(1:Int))) (v0 M) hj hss hg
  have gl:=(y00.mp hg).1;rw[es,pk1.gv M (y30 (c20 c hc) hd) hM g gl,PM.getD_of hg] at rs;exact rs
 ·refine PM.fold_all (P:=λp:Int×Int=>Low p/\0≤p.1/\p.2∣232792560/\Bd 330 p.1) (no:=(0,1)) ⟨⟨by decide,by decide⟩,by decide,by decide,by show(0:Int).natAbs<_;exact y6e (by decide)⟩ ((L.zip sss).flatMap λx=>z5y drs x.1 x.2) (z4v drs (0,1)) (λt ht=>?_) (λr hr a ha=>?_)
  ·obtain⟨u,hu,hu2⟩:=y2k.mp ht;obtain⟨i,hi⟩:=y08 hu;obtain⟨z1,z2⟩:=(y0w (z:=u)).mp hi;obtain⟨_,_,_,_,z3,_⟩:=z3j (rh.nd u.1 (y02 z1)).1 hu2;obtain⟨a,b,d,e⟩:=(pk i u.1 u.2 z1 z2).ok _ (y1c z3).2;exact⟨a,b,y30 d (c20 u.1 (y02 z1)),e⟩
  ·unfold z4v at hr;obtain⟨x,_,rfl⟩:=y1i.mp hr;rw[y3z ha];exact⟨⟨by decide,by decide⟩,by decide,by decide,by show(0:Int).natAbs<_;exact y6e (by decide)⟩
 ·have hh:h<au:=by rw[←lk.len];exact(y00.mp hq).1
  obtain⟨i,c,p,hc,hp,hin,hq'⟩:=lk.of_hand lo C h0 hh;rw[hq] at hq';cases hq';obtain⟨t,ht⟩:=y08 hin;obtain⟨ss,hss,pk1⟩:=pick i c hc;have hs:=zk2 rh sl (f:=vl M) (no:=((0:Int),(1:Int))) (v0 M) hc hss ht;have tk:=pk1.tk M (y30 (c20 c (y02 hc)) hd) hM t (y00.mp ht).1
  rw[←hs] at tk;obtain⟨l1,l2⟩:=lo.at_ i c q hc hp;refine⟨l1,?_⟩;have n0:(0:Int)<c.1.length:=by have:=(C.crowdP hm hw (y02 hc)).n0;lia
  refine y1h (a:=(c.1.length:Int)) (by lia) ?_
  have eb:bag M (z4u drs (z2b drs L sss (0,1))) h=znw (vl M) (zfk drs (z2b drs L sss (0,1))) h:=rfl;rw[eb,y2r q.2,tk];have:q.1*M*(c.1.length:Int)=q.1*c.1.length*M:=by grind
  rw[this,l2]
  grind
 ·have bnd:∀t∈(L.zip sss).flatMap λx=>z5y drs x.1 x.2,t.1<drs.length/\t.2.1<(z2i drs t.1).length:=λt ht=>by
   obtain⟨u,hu,hu2⟩:=y2k.mp ht;have hc:=rh.nd u.1 (y1c hu).1;obtain⟨_,_,x,hd,_,z1,_,z3,z4,z5⟩:=z3j hc.1 hu2;rw[z4,z5];exact⟨hc.2.2 x (y02 z1),y1g z3⟩
  have er:z2i drs i=r:=by unfold z2i;rw[y05,hr];rfl
  have ep:PM.at2 ((0:Int),(1:Int)) (z2b drs L sss (0,1)) i k=p:=by
   unfold PM.at2;rw[show(z2b drs L sss (0,1)).getD i []=s by rw[y05,hs];rfl,y05,hp]
   rfl
  rcases zg2 (no:=((0:Int),(1:Int))) _ (z4v drs (0,1)) (z8r drs (0,1)) bnd i k with z | ⟨t,ht,t1,t2,t3⟩
  ·have:PM.at2 ((0:Int),(1:Int)) (z4v drs (0,1)) i k=(0,1):=by
    unfold PM.at2 z4v;rw[y05 (l:=drs.map _),y06,hr];show(y07 r.length ((0:Int),(1:Int))).getD k (0,1)=_;rw[y05,y1f]
    split<;>rfl
   unfold z2b at ep;rw[z,this] at ep;rw[←ep] at pos;exact absurd pos (by decide)
  ·obtain⟨u,hu,hu2⟩:=y2k.mp ht;obtain⟨j,hj⟩:=y08 hu;obtain⟨z1,z2⟩:=(y0w (z:=u)).mp hj;obtain⟨g,pp,x,hd,_,y1,y2,y3,y4,y5⟩:=z3j (rh.nd u.1 (y02 z1)).1 hu2;rw[t1] at y4;subst y4;have ek:hd=h:=by
    rw[t2,er] at y5;rw[er] at y3;have l1:=y1g y3;have q1:r[r.idxOf hd]?=some hd:=by rw[y01 l1];simp
    rw[←y5,hh] at q1;exact(y12 q1).symm
   subst ek;have M0:(0:Int)<z61 ps:=z53 λp hp'=>by
    obtain⟨a,ha⟩:=y08 hp';have hal:=(y00.mp ha).1;rw[lo.len] at hal;exact(lo.at_ a _ p (y01 hal) ha).1.1
   have S:=lk.sol lo C h0 wp M0 λp hp'=>z2j hp';obtain⟨j2,d,jle,hd2,hin2⟩:=S.up j u.1 z1 i (y02 y1) h' (by rw[er];exact hin)
   have f:=S.falls (j - j2) j2 hd2 (by rw[show j2+(j - j2)=j by lia];exact z1) h' hin2 hd (y02 y2)
   have dv:∀(g:Nat) q,qs[g]?=some q->Low q/\q.2∣z61 ps:=λg q hg=>by
    have gl:g<au:=by rw[←lk.len];exact(y00.mp hg).1
    obtain⟨a,c,p,b1,b2,b3,b4⟩:=lk.of_hand lo C h0 gl;rw[hg] at b4;cases b4;exact⟨(lo.at_ a c q b1 b2).1,z2j (y02 b2)⟩
   obtain⟨q1,q2⟩:=dv hd q hq;obtain⟨q3,q4⟩:=dv h' q' hq';exact zmv M0 q1.1 q3.1 (z8v hq q2) (z8v hq' q4) f
end My
set_option Elab.async false
set_option linter.all false
set_option maxRecDepth 100000
namespace L2.EX
open PySem PyProof.Rows
section
variable {prog:Program}{w:World}{A:Around}{R:Result->Shared->Prop}{I:Addr}{fp wr:List Addr}{n:Nat}{P:Nat->Value->Prop}{St:Nat->Heap->Prop}{d:Value}
end
section
variable {prog:Program}{w:World}{A:Around}{E:Value->Shared->Prop}{s:Shared}{d:Value}
end
section
variable {X:Cx}{e dd:Expr}{t tk:TA}{p pos kpos:Pos}
end
end L2.EX
set_option Elab.async false
set_option linter.all false
set_option maxRecDepth 100000
namespace My
open PySem L2 L2.EX
def M0:Int:=232792560
theorem z8d:(0:Int)<M0:=by decide
theorem zp6:Bd 600 M0:=by
 have:Bd 28 M0:=by show _<_;decide
 exact this.le (by decide)
structure RatOk (drs:List (List Nat))(au:Nat)(R:List (List (Int×Int))):Prop where
 sh:ShOk M0 drs au R
 nn:∀s∈R,∀p∈s,0≤p.1
 nd:∀r∈drs,r.Nodup
 m20:au≤20
theorem RatOk.of_even {ws:List Int}{drs:List (List Nat)}{au:Nat}{R:List (List (Int×Int))}{qs:List (Int×Int)}(e:EvenR ws drs au R qs)(ro:RowsOk ws.length au drs)(h12:au≤12)(few:drs.length≤20):RatOk drs au R:=by
 refine⟨⟨e.len,few,λi r s hr hs=>?_,λs hs p hp=>?_,z8d,zp6⟩,λs hs p hp=>(e.ok s hs p hp).2.1,λr hr=>(ro.2 r hr).2.1.imp λh=>y0p h,by lia⟩
 ·obtain⟨_,b7,lt⟩:=ro.2 r (y02 hr);exact⟨e.row i r s hr hs,y17 (z1a b7 lt) h12,lt⟩
 ·obtain⟨a,b,c,d⟩:=e.ok s hs p hp;exact⟨a,c,d.le (by decide)⟩
theorem zox {n:Nat}(l:List Nat):Sh (n+1) (z39 l):=z54 λd hd=>by
 obtain⟨x,_,rfl⟩:=y1i.mp hd;exact z8j _
theorem zpm {n:Nat}(drs:List (List Nat)):Sh (n+2) (z64 drs):=z54 (n:=n+1) λd hd=>by
 obtain⟨x,_,rfl⟩:=y1i.mp hd;exact zox _
theorem LdB.uniq {M:Int}{L:List (Nat×(Int×Int))}{qs rs:List (Int×Int)}(hM:0<M)(a:LdB M L qs)(b:LdB M L rs)(hl:qs.length=rs.length):qs=rs:=by
 refine y2f λi=>?_;cases h:qs[i]? with
 | none =>
  rw[y39] at h;rw[y0u (by lia)]
 | some q =>
  have hi:=(y00.mp h).1;have h2:rs[i]?=some (rs[i]'(by lia)):=y01 _
  rw[h2];obtain⟨a1,a2⟩:=a i q h;obtain⟨b1,b2⟩:=b i _ h2;have fa:FV M q (bag M L i):=⟨a1,a2⟩;rw[fa.uniq hM ⟨b1,b2⟩]
end My
set_option Elab.async false
set_option linter.all false
set_option maxRecDepth 100000
namespace L2.EX
open PySem PySem.Spec PyProof.Rows
section
variable {X:Cx}{e:Expr}{t:TA}{p p2 pos cq:Pos}
def zal (K:y03)(t:TA)(σ:St)(H:Hp)(Q:VK):Prop:=t σ H λxs H1=>match xs with
 | [.ref l]=>∃ns:List Nat,SqL K H1 l (ns.map λ(n:Nat)=>V.int (n:Int))/\ns.length≤3/\(∀n∈ns,n<12)/\∀ms:List Nat,ms.Pairwise (· < ·)->(∀n,n∈ms↔n∈ns)->∀p,H1 p=none->Q (.ref p) (upd H1 p (.lst (ms.map λ(n:Nat)=>V.int (n:Int))))
 | _=>False
theorem zkg:bootBuiltins "set"=some (.type "set"):=by rfl
theorem zfb (hm:X.mg "sorted"=none)(hm2:X.mg "set"=none)(ha:PA X [e] t)(hc:X.calm=true:=by rfl)(hg:Gl X "sorted":=by rfl)(hg2:Gl X "set":=by rfl)
  (he:starEach [.Call (.Name "set" p2) [e] [] cq] X.env=(false,eval (.Call (.Name "set" p2) [e] [] cq) X.env)::starEach [] X.env:=by rfl) (hpl:(backTo pos (starEach [] X.env)).any (·.1)=false:=by rfl)
  (he2:starEach [e] X.env=(false,eval e X.env)::starEach [] X.env:=by rfl) (hpl2:(backTo cq (starEach [] X.env)).any (·.1)=false:=by rfl) :
  PE X (.Call (.Name "sorted" p) [.Call (.Name "set" p2) [e] [] cq] [] pos) (zal X.K t):=by
 intro ao s σ H Q I h;refine wpAny_Call_Name_kw (z51 I hg hm zaz ?_);refine y4f ?_ he hpl;rw[he];show wpAny _ _ (spliced ((false,eval (.Call (.Name "set" p2) [e] [] cq) X.env)::backTo pos (starEach [] X.env))) _ _ s;refine Calls.spliced_cons ?_;refine wpAny_Call_Name_kw (z51 I hg2 hm2 zkg ?_);refine y1n (thn (ha cq ao s σ H _ I h) λus s1 ⟨vs,H1,I1,r1,q1⟩=>?_) he2 hpl2;have key:∃l,vs = [.ref l]/\∃ns:List Nat,SqL X.K H1 l (ns.map λ(n:Nat)=>V.int (n:Int))/\ns.length≤3/\(∀n∈ns,n<12)/\∀ms:List Nat,ms.Pairwise (· < ·)->(∀n,n∈ms↔n∈ns)->∀p,H1 p=none->Q (.ref p) (upd H1 p (.lst (ms.map λ(n:Nat)=>V.int (n:Int)))):=by
  dsimp only at q1
  split at q1
  ·exact⟨_,rfl,q1⟩
  ·exact q1.elim
 clear q1;obtain⟨l,rfl,ns,hS,h3,h12,q⟩:=key;obtain⟨u,rfl,ru⟩:=z7l r1;cases ru;obtain⟨its,rv,pl,hz⟩:=I1.list hS;have hlen:=rv.length;rw[y04] at hlen;have emp:(ns.map λ(n:Nat)=>V.int (n:Int))=(ns.map λ(n:Nat)=>(n:Int)).map V.int:=by rw[y1z];rfl
 rw[emp] at rv;have esz:its.toArray.size=ns.length:=by simpa using hlen.symm
 have hh:=I1.ok.hd hc;refine zbs (val:=λi=>ns.getD i 0) hh pl.isList (λi v hv=>?_) (λi hi=>?_) (by lia) λh' tk es hSS ke kp=>?_
 ·have hv':its[i]?=some v:=by simpa using hv
  obtain⟨t,rfl⟩:=z2y rv hv';refine⟨t,?_⟩;congr 1;rw[y05,y05,y06];cases ns[i]?<;>rfl
 ·have hi':i<ns.length:=by lia
  show ns.getD i 0<12;rw[y05,y01 hi'];exact h12 _ (y2i _)
 have I2:=I1.kept (t':=tk) (h':=h') λb u e=>kp b u (Heap.lt_size e) e;refine wpAny_pure ?_;refine zd0 (s:={ s1 with heap:=h',toks:=tk }) hh hSS λh2 tk2 p3 out ms e3 k2 sz2 ho hI hp hs=>?_
 have hsz:s1.heap.objs.size≤p3:=y17 (by obtain⟨ep,P,ho',_⟩:=hSS;exact y3w (Heap.lt_size ho')) sz2
 have memns:∀k:Int,k∈ms↔∃n∈ns,k=(n:Int):=λk=>by
  rw[hp.mem_iff,y1i];rw[ke.1 k];constructor
  ·rintro⟨j,hj,rfl⟩;have hj':j<ns.length:=by lia
   refine⟨ns.getD j 0,?_,rfl⟩;rw[y05,y01 hj'];exact y2i _
  ·rintro⟨n,hn,rfl⟩;obtain⟨j,hj,e⟩:=List.mem_iff_getElem.mp hn;refine⟨j,by lia,?_⟩
   show(n:Int)=((ns.getD j 0:Nat):Int);rw[y05,y01 hj,e];rfl
 have em:ms=(ms.map y3o).map λ(n:Nat)=>(n:Int):=by
  rw[y1z];refine y2f λi=>?_;rw[y06];cases hi:ms[i]? with
  | none=>rfl
  | some k =>
   obtain⟨n,_,rfl⟩:=(memns k).mp (y02 hi);rfl
 have nd:ms.Nodup:=(hp.nodup_iff).mpr ke.2.1;have strict:(ms.map y3o).Pairwise (· < ·):=by
  rw[y5j];have hs2:ms.Pairwise λa b=>a≤b/\a≠b:=List.pairwise_and_iff.mpr ⟨hs,nd⟩;refine hs2.imp_of_mem λ{a b} ha hb hab=>?_;obtain⟨n,_,rfl⟩:=(memns a).mp ha;obtain⟨m,_,rfl⟩:=(memns b).mp hb;lia
 have hmem:∀n,n∈ms.map y3o↔n∈ns:=λn=>by
  rw[y1i];constructor
  ·rintro⟨k,hk,rfl⟩;obtain⟨m,hm,rfl⟩:=(memns k).mp hk;exact hm
  ·intro hn;exact⟨(n:Int),(memns _).mpr ⟨n,hn,rfl⟩,rfl⟩
 have hms:ms.length≤3:=by
  rw[hp.length_eq,y04];have:=ke.2.2;lia
 refine⟨.ref p3,_,I1.laid (a:=p3) (t':=tk2) (h':=h2) (λb u e=>k2 b u (kp b u (Heap.lt_size e) e)) hsz (show ObjOk X.prog X.w _ _ _ (.lst (ms.map V.int)) from ⟨?_,out.toList,e3,z52 hI,?_⟩),rfl,?_⟩
 ·rw[y04];have:64≤sizeLine:=by decide
  lia
 ·simpa [seqObj] using ho
 ·rw[em,y1z];exact q _ strict hmem p3 (I1.hok.fresh hsz)
end
end L2.EX
set_option Elab.async false
set_option linter.all false
set_option maxRecDepth 100000
namespace My
open PySem L2 L2.EX
structure DealOk (ws:List Int)(drs:List (List Nat))(au:Nat)(R:List (List (Int×Int)))(qs:List (Int×Int)):Prop where
 ev:EvenR ws drs au R qs
 len:qs.length=au
 ok:∀q∈qs,zrq q
 rows:RowsOk ws.length au drs
 few:ws.length≤20
 h12:au≤12
theorem zft {K:y03}{H:Hp}{aw ad:Addr}{ws:List Int}{drs:List (List Nat)}{au:Nat}{L:List PM.Cr}{sss:List (List (Int×Int))}(ask:AsksC K H aw ad ws drs)(C:CrOk ws drs au L)(h0:0<au)(h12:au≤12)(rows:RowsOk ws.length au drs)(sl:sss.length=L.length)(pk:∀(i:Nat) c ss,L[i]?=some c->sss[i]?=some ss->ShcOk ws drs c ss) :
  ∃ps qs,LayOk ws L ps/\LoadOk au L ps qs/\DealOk ws drs au (z2b drs L sss (0,1)) qs:=by
 obtain⟨ps,qs,lo,lk⟩:=zk3 C h0;have nr:∀r∈drs,r.Nodup:=λr hr=>(rows.2 r hr).2.1.imp λh=>y0p h;have E:=zmz C h0 (by lia) ask.few ask.len nr ask.pos sl pk lo lk
 have B:=zke C lo lk h0 (by lia) ask.pos ask.bd ask.few
 exact⟨ps,qs,lo,lk,E,B.len,B.ok,rows,ask.few,h12⟩
theorem DealOk.rat {ws:List Int}{drs:List (List Nat)}{au:Nat}{R:List (List (Int×Int))}{qs:List (Int×Int)}(d:DealOk ws drs au R qs):RatOk drs au R:=RatOk.of_even d.ev d.rows d.h12 (by have:=d.rows.1;have:=d.few;lia)
theorem DealOk.ldb {ws:List Int}{drs:List (List Nat)}{au:Nat}{R:List (List (Int×Int))}{qs:List (Int×Int)}(d:DealOk ws drs au R qs):LdB M0 (z4u drs R) qs:=λh q hq=>d.ev.load M0 z8d (Int.dvd_refl _) h q hq
def z7w (K:y03):Sp:=λvs H Q _=>∃(l aw ad:Addr) (au:Nat) (ws:List Int) (drs:List (List Nat)) (R:List (List (Int×Int))) (qs:List (Int×Int)),vs = [.ref l,.ref aw,.ref ad]/\Is K H (.ref l) (.list (R.map z5j))/\AsksC K H aw ad ws drs/\DealOk ws drs au R qs/\∀H',Same H H'->Q (.bl true) H'
def zdb (K:y03):Sp:=λvs H Q _=>∃(l ad lo:Addr) (au:Nat) (ws:List Int) (drs:List (List Nat)) (R:List (List (Int×Int))) (qs:List (Int×Int)),vs = [.ref l,.ref ad,.ref lo]/\Is K H (.ref l) (.list (R.map z5j))/\Is K H (.ref ad) (z64 drs)/\Is K H (.ref lo) (z5j qs)/\DealOk ws drs au R qs/\∀H',Same H H'->Q (.bl true) H'
def zi9 (K:y03):Sp:=λvs H Q _=>∃(a:Addr) (ns:List Int),vs = [.ref a]/\SqL K H a (ns.map V.int)/\ns.length≤63/\∀H',Same H H'->Q (.bl true) H'
end My
set_option Elab.async false
set_option linter.all false
set_option maxRecDepth 100000
set_option maxHeartbeats 4000000
namespace My
open PySem L2 L2.EX
def top (i:Nat):Stmt:=PySem.Challenge.pw_evenyoke_k31_dealt_evenly.main.body.getD i (.Pass ⟨0,0,0,0⟩)
local macro_rules | `(tactic| walk_at "r")=>`(tactic| try dsimp only [zd4,zri,zal,ziu,Cx.nox,Cx.wish,zru,zqa,xT,onB,tOp,xV,sg,tC,zm2,z4x,List.set,zq5,zmp,tCB,zi2,zlz,tUn,zq1,zpt,zpw,zpv,zq2,zpz,zq0,uEq,uNe,uLt,uLe,uGt,uGe,zq3,zkh,zok,zrk,zjz,tyN,zqu,xOr,zql,zqy,tOr,zqg,zlr,zqo,znb,zqf,zr7,spG,z82,zeg,z3z,z40,zpd,zl5,zi0,zcv,zq9,zqj,zb1,zlg,zcf,zm5,zq6,zrc,zna,zrm,zop,zre,zge,zrh,zra,zro,zlw,zr6,tIf,zqn,zmk,zko,zmq,zpu,xSl,zr4,zqt,zhi,zpr,zdl,zeb,zr8,zqh,xR1,xR2,xR3,xT2,xT3,znq,uIs])
local macro_rules | `(tactic| walk_at "one")=>`(tactic| try dsimp only [zd4,zri,zal,ziu,Cx.nox,Cx.wish,zqa,xT,onB,tOp,xV,sg,tC,zm2,z4x,List.set,zq5,zmp,tCB,zi2,zlz,tUn,zq1,zpt,zpw,zpv,zq2,zpz,zq0,uEq,uNe,uLt,uLe,uGt,uGe,zq3,zkh,zok,zrk,zjz,tyN,zqu,xOr,zql,zqy,tOr,zqg,zlr,zqo,znb,zqf,zr7,spG,z82,zeg,z3z,z40,zpd,zl5,zi0,zcv,zq9,zqj,zb1,zlg,zcf,zm5,zq6,zrc,zna,zrm,zop,zre,zge,zrh,zra,zro,zlw,zr6,tIf,zqn,zmk,zko,zmq,zpu,xSl,zr4,zqt,zhi,zpr,zdl,zeb,zr8,zqh,xR1,xR2,xR3,xT2,xT3,znq,uIs])
local macro_rules | `(tactic| walk_at "c")=>`(tactic| first | rfl | (dsimp only [z0u]; done) | (dsimp only [z0u]; rfl))
section
variable {P:Program}{w:World}{K:y03}{mg:Str->Option Value}{base:Heap}
structure FldsPour (K:y03)(C:Addr):Prop where
 many_gives:ClsF K C "many_gives"
 ap:ClsF K C "sent"
 aj:ClsF K C "spare"
 tie_ends:ClsF K C "tie_ends"
 ties_at:ClsF K C "ties_at"
variable {ay:Addr}
noncomputable abbrev z58:Stmt:=top 25
theorem sc_Lmixed:FnScope ["_law_cell","_law_k","_law_number","_law_time"] ["_law_cell","_law_k"] (z05 z58):=⟨rfl,rfl,rfl,by decide +kernel,rfl,by decide +kernel,by decide +kernel⟩
theorem zia (T:Top K mg "_law_mixed" z58 ["_law_cell","_law_k"])(B:Blt mg)(BS:mg "set"=none) :Def P w K mg base "_law_mixed" 1 ["_law_cell","_law_k"] (z40):=by
 refine z1h (k:=0) T sc_Lmixed (λvs H Q E h=>?_) (λf cdv A outer s H vs Q E hr h=>?_)
 ·unfold z40 at h
  split at h
  ·rfl
  ·exact h.elim
 unfold z40 at h
 split at h
 ·rename_i c k;obtain⟨k0,k1,q⟩:=h;refine⟨_,(z02 (z3d (z0w z5q (z0n z20 (cv 0) z06) z06 (z0p _))
   (z02 (z0d 2 sc_Lmixed.nd (z0n z3q (z43 zbq B.abs zc2 (z00 (cv 0) z03)) z06))
    (z02 (z1u (zhp B.range (z00 (cv 1) z03)) (z0b 3 sc_Lmixed.nd)
    (z07 (z0d 2 sc_Lmixed.nd (z0n z3q (cv 2) (z0n zkw z06 z06)))))
    (z07 (z0m (cv 2)))))
   z1d)
   (z02 (z0d 2 sc_Lmixed.nd (z0n z20 (z0n z3b (cv 0) (z0n z3c z06 (cv 1))) z06))
   (z02 (z0d 2 sc_Lmixed.nd (z0n z20 (z0n z3b (z0n z3b (z0n z3c (cv 2) (cv 2)) (z0n z3c z06 (cv 2))) (cv 1)) z06))
   (z07 (z0m (z0n z20 (z0n z3c (cv 2) (cv 2)) z06)))))),?_⟩
  refine rd (σ':=[some (.int c),some (.int k),none,none]) rfl ?_;walk_at "r";refine⟨by decide,z4d (λ_=>?_) (λ_=>?_)⟩
  ·refine⟨by decide,by decide +kernel,⟨by lia,by lia⟩,?_⟩
   refine za0 (λi σ H'=>H'=H/\∃(z:Int) (t:Option V),σ = [some (.int c),some (.int k),some (.int z),t]/\0≤z) ⟨rfl,_,_,rfl,?_⟩ ?_ ?_
   ·rw[y51 _ (by decide)]
    have:=zb2 c;lia
   ·rintro i σ H' hi ⟨rfl,z,t,rfl,hz⟩;walk_at "r";refine⟨by decide,by decide +kernel,by decide +kernel,by decide +kernel,rfl,_,_,rfl,?_⟩
    rw[y51 _ (by decide +kernel)]
    exact y5w hz (by decide +kernel)
   ·rintro σ H' ⟨rfl,z,t,rfl,hz⟩;exact q z hz
  ·have m1:=y1r (c+7919*k) (show(2147483629:Int)≠0 by decide)
   have m2:=y1u (c+7919*k) (show(0:Int)<2147483629 by decide)
   have b1:=zem m1 m2;refine⟨z9a (m:=20) (n:=20) (by show _<_;decide) ?_ (by decide),by decide,z9a b1 b1 (by decide),z9a (m:=20) (by show _<_;decide) b1 (by decide),by decide,?_⟩
   ·show k.natAbs<2^20;have:(2:Nat)^20=1048576:=by decide
    lia
   have m3:=y1r ((c+7919*k) % 2147483629*((c+7919*k) % 2147483629)+16807*((c+7919*k) % 2147483629)+k) (show(2147483629:Int)≠0 by decide)
   have m4:=y1u ((c+7919*k) % 2147483629*((c+7919*k) % 2147483629)+16807*((c+7919*k) % 2147483629)+k) (show(0:Int)<2147483629 by decide)
   have b2:=zem m3 m4;exact⟨z9a b2 b2 (by decide),by decide,q _ (y1r _ (by decide))⟩
 ·exact h.elim
noncomputable abbrev z3k:Stmt:=top 24
theorem zd6:FnScope ["_law_script","_law_k"] ["_law_script","_law_k"] (z05 z3k):=⟨rfl,rfl,rfl,by decide +kernel,rfl,by decide +kernel,by decide +kernel⟩
theorem zci (T:Top K mg "_law_cell_at" z3k ["_law_script","_law_k"])(B:Blt mg)(BS:mg "set"=none) :Def P w K mg base "_law_cell_at" 1 ["_law_script","_law_k"] (z82 K):=by
 refine z1h (k:=0) T zd6 (λvs H Q E h=>?_) (λf cdv A outer s H vs Q E hr h=>?_)
 ·unfold z82 at h
  split at h
  ·rfl
  ·exact h.elim
 unfold z82 at h
 split at h
 ·rename_i a k;obtain⟨ns,hS,hk,q⟩:=h;refine⟨_,(z02 (z3d (z0w z84 (cv 1) (z43 z25 B.len y19 (z00 (cv 0) z03)) (z0p _))
   (z07 (z0m (z0k z0j (cv 0) (cv 1) (λ_ _=>rfl))))
   z1d)
   (z07 (z0m z06))),?_⟩
  refine rd (σ':=[some (.ref a),some (.int k)]) rfl ?_;walk_at "r";refine⟨_,.inl hS,z4d (λc=>?_) (λc=>?_)⟩
  ·exact⟨_,_,.inl hS,zlu hk (of_decide_eq_true c),q⟩
  ·have c':¬k<((ns.map V.int).length:Nat):=λz=>c (decide_eq_true z);rw[y04] at c';have e:ns.getD k.toNat 0=0:=by
    rw[y05,y0u (by lia)]
    rfl
   rw[e] at q;exact q
 ·exact h.elim
noncomputable abbrev z77:Stmt:=top 30
theorem sc_Lwork:FnScope ["_law_cell","_law_number"] ["_law_cell"] (z05 z77):=⟨rfl,rfl,rfl,by decide +kernel,rfl,by decide +kernel,by decide +kernel⟩
theorem zkp (T:Top K mg "_law_work" z77 ["_law_cell"])(B:Blt mg)(BS:mg "set"=none)(aL:Def P w K mg base "_law_mixed" 1 ["_law_cell","_law_k"] (z40)):Def P w K mg base "_law_work" 2 ["_law_cell"] (zcy):=by
 refine z1h (k:=1) T sc_Lwork (λvs H Q E h=>?_) (λf cdv A outer s H vs Q E hr h=>?_)
 ·obtain⟨c,rfl,_⟩:=h;rfl
 obtain⟨c,rfl,q⟩:=h;refine⟨_,(z02 (z0d 1 sc_Lwork.nd (z0e aL (hr.mono (by decide)) (z00 (cv 0) (z00 z06 z03))))
   (z02 (z3d (z0w z5q (z0n z20 (cv 1) z06) z06 (z0p _))
   (z07 (z0m (z0n z3b z06 (z0n z20 (cv 0) (z0n zoy (z0n zkw z06 z06) z06)))))
   z1d)
   (z02 (z3d (z0w z5q (z0n z20 (cv 1) z06) z06 (z0p _))
   (z07 (z0m (z0n z3b z06 (z0n z20 (z0n z3q (cv 1) z06) z06))))
   z1d)
   (z07 (z0m (z0n z3b z06 (z0n z20 (z0n z3q (cv 1) z06) z06))))))),?_⟩
 refine rd (σ':=[some (.int c),none]) rfl ?_;walk_at "r";refine⟨by decide,by decide,λz z0=>?_⟩
 walk_at "r";have big:(1001:Int)≤10^60:=by decide +kernel
 refine⟨by decide,z4d (λ_=>?_) (λ_=>⟨by decide,z4d (λ_=>?_) (λ_=>?_)⟩)⟩
 ·have m0:=y1r c (show(10^y3o 60 - 1:Int)≠0 by decide +kernel)
  have m1:=y1u c (show(0:Int)<10^y3o 60 - 1 by decide +kernel)
  have e6:(10:Int)^y3o 60=10^60:=rfl;exact⟨by decide,by decide +kernel,by decide +kernel,q _ (by lia) (by rw[e6] at m1 ⊢;lia)⟩
 ·have m0:=y1r (z.fdiv 4) (show(1000:Int)≠0 by decide)
  have m1:=y1u (z.fdiv 4) (show(0:Int)<1000 by decide)
  exact⟨by decide,by decide +kernel,by decide,q _ (by lia) (by lia)⟩
 ·have m0:=y1r (z.fdiv 4) (show(5:Int)≠0 by decide)
  have m1:=y1u (z.fdiv 4) (show(0:Int)<5 by decide)
  exact⟨by decide,by decide +kernel,by decide,q _ (by lia) (by lia)⟩
noncomputable abbrev z2w:Stmt:=z36 (top 8) 0
theorem sc_Pour_init:FnScope ["self","gives","takes","ties","sent","tie","ends","end"] ["self","gives","takes","ties","sent"] (z05 z2w):=⟨rfl,rfl,rfl,by decide +kernel,rfl,by decide +kernel,by decide +kernel⟩
theorem zau (T:MTop K ay "__init__" "Pour.__init__" z2w ["self","gives","takes","ties","sent"])(B:Blt mg)(BS:mg "set"=none)(F:FldsPour K ay) :MDef P w K mg base ay "__init__" 1 ["self","gives","takes","ties","sent"] (zh7 K ay):=by
 refine z38 (k:=0) T sc_Pour_init (λvs H Q E h=>?_) (λf cdv A outer s H vs Q E hr h=>?_)
 ·obtain⟨x,dx,ag,ak,ai,ase,gs,ts,ss,az,rfl,_⟩:=h;rfl
 obtain⟨x,dx,ag,ak,ai,ase,gs,ts,ss,az,rfl,hx,hg,hk,hi,hs,hties,hssl,hsm,htl,q⟩:=h;obtain⟨_,tv,e1,hai,hal⟩:=is_list.mp hi;cases e1;have htv:tv.length=az.length:=by simpa using z0g hal
 have nk:∀{b:Addr} {xs:List V},H b=some (.lst xs)->b≠x:=λh=>z6q h hx (by intro z;cases z)
 have nkt:∀{b:Addr} {xs:List V},H b=some (.tup xs)->b≠x:=λh=>z6q h hx (by intro z;cases z)
 refine⟨_,(z02 (zc1 F.many_gives (cv 0) (z43 z25 B.len y19 (z00 (cv 1) z03)))
   (z02 (zc1 F.tie_ends (cv 0) (z3s (N:=["give","take","self"]) (fr:=[0]) 2 (z1o (cv 3)) (λC hN=>by exact pgC ((z74 (z0b 0 hN) (z0b 1 hN))) (by walk_at "c")) (λC hN=>by exact peC ((z2s (z00 (cv 0) (z00 (z0n z3b (z1k F.many_gives (cv 2)) (cv 1)) z03)))) (by walk_at "c"))))
   (z02 (zc1 F.ap (cv 0) (znv z8b B.list z4z (z00 (cv 4) z03)))
   (z02 (zc1 F.aj (cv 0) (z0n z3b (cv 1) (cv 2)))
   (z02 (zc1 F.ties_at (cv 0) (z3s (N:=["end"]) (fr:=[]) 1 (z1o (z1k F.aj (cv 0))) (λC hN=>by exact pgC ((z0b 0 hN)) (by walk_at "c")) (λC hN=>by exact peC ((z1b z03)) (by walk_at "c"))))
   (z07 (z1u (z8o B.enumerate (z1k F.tie_ends (cv 0))) (z74 (z0b 5 sc_Pour_init.nd) (z0b 6 sc_Pour_init.nd))
   (z07 (z1u (z1o (cv 6)) (z0b 7 sc_Pour_init.nd)
    (z02 (z5m (z1k F.aj (cv 0)) (cv 7) z7y (z0k z0j (z1k F.ap (cv 0)) (cv 5) (λ_ _=>rfl)) z9z z4t)
     (z07 (z1z (z0z (z0k z0j (z1k F.ties_at (cv 0)) (cv 7) (λ_ _=>rfl)) (z00 (cv 5) z03)))))))))))))),?_⟩
 refine rd (σ':=[some (.ref x),some (.ref ag),some (.ref ak),some (.ref ai),some (.ref ase),none,none,none]) rfl ?_;walk_at "r";refine⟨_,.inl (SqL.of hg),dx,[],hx,by decide,?_⟩
 have hgl:(gs.map V.int).length=gs.length:=y04 _;rw[hgl];have ff1:=FF.nil.put "many_gives" (.int (gs.length:Int))
 generalize z8z ("many_gives":Str) (V.int (gs.length:Int)) []=fs1 at ff1 ⊢
 have fz1:Frz [x] H (upd H x (.ins ay dx fs1)):=Frz.upd (by simp)
 have hx1:upd H x (.ins ay dx fs1) x=some (.ins ay dx fs1):=z01;generalize upd H x (.ins ay dx fs1)=H1 at fz1 hx1 ⊢
 have kp1:∀{b:Addr} {o:HO},b≠x->H b=some o->H1 b=some o:=λh q=>fz1 _ _ (by simpa using h) q
 refine .inl ⟨⟨_,SqL.of (kp1 (nk hai) hai)⟩,cgo (σ':=[none,none,some (.ref x)]) rfl ?_⟩;refine z1r (xs:=tv) (λi ys H'=>Same H1 H'/\IsAll K H' ys (((z0s gs.length az).take i).map pr)/\ys.length≤i) ⟨Same.refl _,z0r,y0b _⟩ (z0i (by lia)) ?_ ?_ ?_
 ·rintro i ys H' _ ⟨s1,_,hi⟩;exact⟨SqL.of (s1 _ _ (kp1 (nk hai) hai)),hi⟩
 ·rintro i y ys H' hy ⟨s1,al,hi⟩;have hil:=(y00.mp hy).1;have hp:az[i]?=some (az[i]'(by lia)):=y01 _
  obtain⟨a,ha1,ha2⟩:=zkq hal hp;rw[hy] at ha1;cases ha1;have ha':=s1 _ _ (kp1 (nkt ha2) ha2);refine⟨_,_,SqT.of ha',?_⟩;walk_at "r";refine z7r ⟨_,_,.int (gs.length:Int),s1 _ _ hx1,by rw[ff1.get,if_pos rfl],sz (by show 2≤1000;decide),λp' hp'=>?_⟩
  have s2:=z04 hp' (.tup [.int ((az[i]'(by lia)).1:Int),.int ((gs.length:Int)+((az[i]'(by lia)).2:Int))])
  refine CNx.mk ⟨s1.trans s2,?_,by rw[y0e];simp;lia⟩ hil
  have hend:(z0s gs.length az)[i]?=some ((az[i]'(by lia)).1,gs.length+(az[i]'(by lia)).2):=by
   unfold z0s;rw[y06,hp];rfl
  rw[z0h hend,y0g];refine z1j (IsAll.same s2 _ _ al) ?_;refine is_frac.mpr ⟨p',rfl,?_⟩;rw[z01];rfl
 rintro tl H2 ⟨s2,al2,_⟩ lT hlT;have hel:(z0s gs.length az).length=az.length:=by unfold z0s;rw[y04]
 rw[htv,y0c (by lia)] at al2
 have s3:=z04 hlT (.lst tl);refine⟨dx,fs1,(s2.trans s3) _ _ hx1,y2v ff1.len (by decide),?_⟩
 have ff2:=ff1.put "tie_ends" (.ref lT);generalize z8z ("tie_ends":Str) (V.ref lT) fs1=fs2 at ff2 ⊢
 have nlTx:lT≠x:=λz=>(z08 (s2 _ _ hx1) hlT) z.symm;have fz3:Frz [x] H (upd (upd H2 lT (.lst tl)) x (.ins ay dx fs2)):=(fz1.trans (Frz.of (s2.trans s3))).trans (Frz.upd (by simp))
 have hx3:upd (upd H2 lT (.lst tl)) x (.ins ay dx fs2) x=some (.ins ay dx fs2):=z01;have hT3:upd (upd H2 lT (.lst tl)) x (.ins ay dx fs2) lT=some (.lst tl):=by rw[z0a nlTx,z01]
 have al3:IsAll K (upd (upd H2 lT (.lst tl)) x (.ins ay dx fs2)) tl ((z0s gs.length az).map pr):=z2h (IsAll.same s3 _ _ al2) λb xs hb=>by
  rw[z0a (z6q hb ((s2.trans s3) _ _ hx1) (by intro z;cases z))]
  exact hb
 have hHT:H lT=none:=by
  cases z:H lT with
  | none=>rfl
  | some o =>
   exfalso;have:=s2 _ _ (kp1 nlTx z);rw[hlT] at this;cases this
 clear s3 al2;generalize upd (upd H2 lT (.lst tl)) x (.ins ay dx fs2)=H3 at fz3 hx3 hT3 al3 ⊢
 have kp3:∀{b:Addr} {o:HO},b≠x->H b=some o->H3 b=some o:=λh q=>fz3 _ _ (by simpa using h) q
 refine⟨_,.inl (SqL.of (kp3 (nk hs) hs)),λlS hlS=>?_⟩;have s4:=z04 hlS (.lst (ss.map V.int));refine⟨dx,fs2,s4 _ _ hx3,y2v ff2.len (by decide),?_⟩
 have ff3:=ff2.put "sent" (.ref lS);generalize z8z ("sent":Str) (V.ref lS) fs2=fs3 at ff3 ⊢
 have nSx:lS≠x:=λz=>(z08 hx3 hlS) z.symm;have nST:lS≠lT:=λz=>(z08 hT3 hlS) z.symm
 have hHS:H lS=none:=by
  cases z:H lS with
  | none=>rfl
  | some o =>
   exfalso;have:=kp3 nSx z;rw[hlS] at this;cases this
 have fz4:Frz [x] H (upd (upd H3 lS (.lst (ss.map V.int))) x (.ins ay dx fs3)):=(fz3.trans (Frz.of s4)).trans (Frz.upd (by simp))
 have hx4:upd (upd H3 lS (.lst (ss.map V.int))) x (.ins ay dx fs3) x=some (.ins ay dx fs3):=z01;have hT4:upd (upd H3 lS (.lst (ss.map V.int))) x (.ins ay dx fs3) lT=some (.lst tl):=by rw[z0a nlTx];exact s4 _ _ hT3
 have hS4:upd (upd H3 lS (.lst (ss.map V.int))) x (.ins ay dx fs3) lS=some (.lst (ss.map V.int)):=by rw[z0a nSx,z01]
 have al4:IsAll K (upd (upd H3 lS (.lst (ss.map V.int))) x (.ins ay dx fs3)) tl ((z0s gs.length az).map pr):=z2h (IsAll.same s4 _ _ al3) λb xs hb=>by
  rw[z0a (z6q hb (s4 _ _ hx3) (by intro z;cases z))]
  exact hb
 clear s4 al3 hx3 hT3 kp3 fz3 hlS;generalize upd (upd H3 lS (.lst (ss.map V.int))) x (.ins ay dx fs3)=H4 at fz4 hx4 hT4 hS4 al4 ⊢
 have kp4:∀{b:Addr} {o:HO},b≠x->H b=some o->H4 b=some o:=λh q=>fz4 _ _ (by simpa using h) q
 refine⟨_,_,kp4 (nk hg) hg,kp4 (nk hk) hk,sz (by rw[y04,y04];exact hsm),λlP hlP=>?_⟩
 have ecap:gs.map V.int++ts.map V.int=(gs++ts).map V.int:=by rw[y0g]
 rw[ecap];have s5:=z04 hlP (.lst ((gs++ts).map V.int));refine⟨dx,fs3,s5 _ _ hx4,y2v ff3.len (by decide),?_⟩
 have ff4:=ff3.put "spare" (.ref lP);generalize z8z ("spare":Str) (V.ref lP) fs3=fs4 at ff4 ⊢
 have nPx:lP≠x:=λz=>(z08 hx4 hlP) z.symm;have nPT:lP≠lT:=λz=>(z08 hT4 hlP) z.symm
 have nPS:lP≠lS:=λz=>(z08 hS4 hlP) z.symm;have hHP:H lP=none:=by
  cases z:H lP with
  | none=>rfl
  | some o =>
   exfalso;have:=kp4 nPx z;rw[hlP] at this;cases this
 have fz5:Frz [x] H (upd (upd H4 lP (.lst ((gs++ts).map V.int))) x (.ins ay dx fs4)):=(fz4.trans (Frz.of s5)).trans (Frz.upd (by simp))
 have hx5:upd (upd H4 lP (.lst ((gs++ts).map V.int))) x (.ins ay dx fs4) x=some (.ins ay dx fs4):=z01;have hT5:upd (upd H4 lP (.lst ((gs++ts).map V.int))) x (.ins ay dx fs4) lT=some (.lst tl):=by rw[z0a nlTx];exact s5 _ _ hT4
 have hS5:upd (upd H4 lP (.lst ((gs++ts).map V.int))) x (.ins ay dx fs4) lS=some (.lst (ss.map V.int)):=by rw[z0a nSx];exact s5 _ _ hS4
 have hP5:upd (upd H4 lP (.lst ((gs++ts).map V.int))) x (.ins ay dx fs4) lP=some (.lst ((gs++ts).map V.int)):=by rw[z0a nPx,z01]
 have al5:IsAll K (upd (upd H4 lP (.lst ((gs++ts).map V.int))) x (.ins ay dx fs4)) tl ((z0s gs.length az).map pr):=z2h (IsAll.same s5 _ _ al4) λb xs hb=>by
  rw[z0a (z6q hb (s5 _ _ hx4) (by intro z;cases z))]
  exact hb
 clear s5 al4 hx4 hT4 hS4 kp4 fz4 hlP;generalize upd (upd H4 lP (.lst ((gs++ts).map V.int))) x (.ins ay dx fs4)=H5 at fz5 hx5 hT5 hS5 hP5 al5 ⊢
 refine⟨_,_,.ref lP,hx5,by rw[ff4.get,if_pos rfl],?_⟩
 refine .inl ⟨⟨_,SqL.of hP5⟩,cgo (σ':=[none]) rfl ?_⟩;have hcl:((gs++ts).map V.int).length=gs.length+ts.length:=by rw[y04,y0e]
 refine z1r (xs:=(gs++ts).map V.int) (λi ys H'=>Same H5 H'/\∃as:List Addr,ys=as.map V.ref/\as.length=i/\as.Nodup/\∀a∈as,H' a=some (.lst [])/\H5 a=none) ⟨Same.refl _,[],rfl,rfl,List.nodup_nil,λa ha=>by simp at ha⟩ (z0i (by lia)) ?_ ?_ ?_
 ·rintro i ys H' _ ⟨s6,as,rfl,hal,_⟩;exact⟨SqL.of (s6 _ _ hP5),by rw[y04];lia⟩
 ·rintro i y ys H' hy ⟨s6,as,rfl,hal,hnd,has⟩;walk_at "r";refine z7r ⟨sz (by show 0≤1000;decide),λp hp=>?_⟩
  have s7:=z04 hp (.lst []);refine CNx.mk ⟨s6.trans s7,as ++ [p],by rw[y0g];rfl,by rw[y0e];simp;lia,?_,λa ha=>?_⟩ (y00.mp hy).1
  ·rw[y4c];refine⟨hnd,by simp,λa ha b hb=>?_⟩
   rw[y09.mp hb];exact z08 (has a ha).1 hp
  ·rcases y0y.mp ha with ha | ha
   ·exact⟨s7 _ _ (has a ha).1,(has a ha).2⟩
   ·rw[y09.mp ha];exact⟨z01,s6.free hp⟩
 rintro ys H6 ⟨s6,as,rfl,hasl,hnd,has⟩ lA hlA;have s7:=z04 hlA (.lst (as.map V.ref));refine⟨dx,fs4,(s6.trans s7) _ _ hx5,y2v ff4.len (by decide),?_⟩
 have ff5:=ff4.put "ties_at" (.ref lA);generalize z8z ("ties_at":Str) (V.ref lA) fs4=fs5 at ff5 ⊢
 have hHA:lA≠x:=λz=>(z08 (s6 _ _ hx5) hlA) z.symm;have nfresh:∀a∈as,a≠x/\a≠lT/\a≠lS/\a≠lP/\a≠lA:=λa ha=>by
  obtain⟨h1,h2⟩:=has a ha;exact⟨λz=>(z08 hx5 h2) z.symm,λz=>(z08 hT5 h2) z.symm,λz=>(z08 hS5 h2) z.symm,λz=>(z08 hP5 h2) z.symm,λz=>(z08 h1 hlA) z⟩
 have Ap:Aprt x lT lS lP lA as:=⟨nPx,nPT,nPS,λz=>(z08 (s6 _ _ hP5) hlA) z,λz=>(nfresh _ z).2.2.2.1 rfl,λz=>(nfresh _ z).1 rfl,λz=>(nfresh _ z).2.1 rfl,λz=>(nfresh _ z).2.2.1 rfl,λz=>(nfresh _ z).2.2.2.2 rfl,hnd⟩;have nAT:lT≠lA:=z08 (s6 _ _ hT5) hlA
 have nAS:lS≠lA:=z08 (s6 _ _ hS5) hlA;have fz7:Frz [x] H (upd (upd H6 lA (.lst (as.map V.ref))) x (.ins ay dx fs5)):=(fz5.trans (Frz.of (s6.trans s7))).trans (Frz.upd (by simp))
 have s67:=s6.trans s7;have I7:IniAt K ay (upd (upd H6 lA (.lst (as.map V.ref))) x (.ins ay dx fs5)) x dx lT lS lP lA fs5 tl (z0s gs.length az) ss as (gs.length+ts.length) (λe=>(gs++ts).getD e 0) (λ_=>[]):=by
  refine⟨z01,by rw[z0a nlTx];exact s67 _ _ hT5,z2h (IsAll.same s67 _ _ al5) λb xs hb=>by rw[z0a (z6q hb (s67 _ _ hx5) (by intro z;cases z))];exact hb,by rw[z0a nSx];exact s67 _ _ hS5,by rw[z0a hHA,z01],?_,λe a h=>?_⟩
  ·rw[z0a nPx,s67 _ _ hP5];have:=zey (gs++ts);rw[y0e] at this;rw[this]
  ·have hm:=y02 h;rw[z0a (nfresh a hm).1];exact s7 _ _ (has a hm).1
 generalize upd (upd H6 lA (.lst (as.map V.ref))) x (.ins ay dx fs5)=H7 at fz7 I7 ⊢
 have hasH:∀a∈as,H a=none:=λa ha=>by
  cases z:H a with
  | none=>rfl
  | some o =>
   exfalso;have:=fz5 _ _ (by simpa using (nfresh a ha).1) z
   rw[(has a ha).2] at this;cases this
 clear s7 s67 s6 hx5 hT5 hS5 hP5 al5 has nfresh hlA fz5;have hG:fs5.lookup ("many_gives":Str)=some (.int (gs.length:Int)):=by rw[ff5.get,if_neg (by decide),if_neg (by decide),if_neg (by decide),if_neg (by decide),if_pos rfl]
 have hTe:fs5.lookup ("tie_ends":Str)=some (.ref lT):=by rw[ff5.get,if_neg (by decide),if_neg (by decide),if_neg (by decide),if_pos rfl]
 have hSe:fs5.lookup ("sent":Str)=some (.ref lS):=by rw[ff5.get,if_neg (by decide),if_neg (by decide),if_pos rfl]
 have hPe:fs5.lookup ("spare":Str)=some (.ref lP):=by rw[ff5.get,if_neg (by decide),if_pos rfl]
 have hAe:fs5.lookup ("ties_at":Str)=some (.ref lA):=by rw[ff5.get,if_pos rfl]
 have htll:tl.length=az.length:=by have:=z0g I7.al;rw[y04,hel] at this;exact this
 have hasn:as.length=gs.length+ts.length:=by rw[hasl,hcl]
 walk_at "r";refine⟨_,_,_,I7.me,hTe,⟨_,SqL.of I7.te⟩,?_⟩;refine zde (xs:=tl) (λi σ H'=>∃t5 t6 t7:Option V,σ = [some (.ref x),some (.ref ag),some (.ref ak),some (.ref ai),some (.ref ase),t5,t6,t7]/\Frz [x] H H'/\IniAt K ay H' x dx lT lS lP lA fs5 tl (z0s gs.length az) ss as (gs.length+ts.length) (zev (gs++ts) (z0s gs.length az) ss i) (zdk (z0s gs.length az) i))
  ⟨_,_,_,rfl,fz7,?_⟩ ?_ ?_ ?_
 ·have e1:(λe=>(gs++ts).getD e 0)=zev (gs++ts) (z0s gs.length az) ss 0:=by
   funext e;unfold zev;simp[PM.load]
  have e2:(λ_=>[])=zdk (z0s gs.length az) 0:=by
   funext e;rfl
  rw[←e1,←e2];exact I7
 ·rintro i σ H' _ ⟨t5,t6,t7,rfl,fz,I⟩;exact SqL.of I.te
 ·clear I7 fz7;rintro i y σ H' p hy ⟨t5,t6,t7,rfl,fz,I⟩ hp;have hil:i<az.length:=by rw[←htll];exact(y00.mp hy).1
  obtain⟨pt,hpt⟩:∃pt,az[i]?=some pt:=⟨_,y01 hil⟩;have hend:(z0s gs.length az)[i]?=some (pt.1,gs.length+pt.2):=by
   unfold z0s;rw[y06,hpt];rfl
  obtain⟨v1,v2⟩:=hties pt (y02 hpt);obtain⟨a,ha1,ha2⟩:=zkq I.al hend;rw[hy] at ha1;cases ha1;obtain⟨sv,hsv⟩:∃sv,ss[i]?=some sv:=⟨_,y01 (by lia)⟩
  have s8:=z04 hp (.tup [.int (i:Int),.ref a]);have hpx:H p=none:=by
   cases z:H p with
   | none=>rfl
   | some o =>
    exfalso
    by_cases c:p=x
    ·subst c;rw[I.me] at hp;cases hp
    ·rw[fz _ _ (by simpa using c) z] at hp
     cases hp
  have I8:=I.same s8;have fz8:=fz.trans (Frz.of (L:=[x]) s8)
  refine⟨_,_,SqT.of z01,?_⟩;have ha8:=s8 _ _ ha2;clear I fz;generalize upd H' p (.tup [.int (i:Int),.ref a])=H8 at I8 fz8 ha8 ⊢
  walk_at "r";refine .inr ⟨⟨_,SqT.of ha8⟩,?_⟩;refine zl1 (xs:=[.int (pt.1:Int),.int ((gs.length+pt.2:Nat):Int)]) (λj σ H'=>∃t7:Option V,σ = [some (.ref x),some (.ref ag),some (.ref ak),some (.ref ai),some (.ref ase),some (.int (i:Int)),some (.ref a),t7]/\Frz [x] H H'/\H' a=some (.tup [.int (pt.1:Int),.int ((gs.length+pt.2:Nat):Int)])/\∃(sf:Nat->Int) (af:Nat->List Nat),IniAt K ay H' x dx lT lS lP lA fs5 tl (z0s gs.length az) ss as (gs.length+ts.length) sf af /\
    (∀e,sf e=zev (gs++ts) (z0s gs.length az) ss i e - (if 1≤j/\e=pt.1 then sv else 0) - (if 2≤j/\e=gs.length+pt.2 then sv else 0))/\(∀e,af e=zdk (z0s gs.length az) i e++(if 1≤j/\e=pt.1 then [i] else [])++(if 2≤j/\e=gs.length+pt.2 then [i] else [])))
   ⟨_,rfl,fz8,ha8,_,_,I8,λe=>by simp,λe=>by simp⟩ ?_ ?_ ?_
  ·rintro j σ H' _ ⟨t7,rfl,fz,h,_⟩;exact SqT.of h
  ·clear I8 fz8 ha8;rintro j v σ H' hv ⟨t7,rfl,fz,hta,sf,af,I,hsf,haf⟩;obtain⟨e,rfl,he,hej⟩:∃e:Nat,v = .int (e:Int)/\e<gs.length+ts.length/\((j=0/\e=pt.1)∨(j=1/\e=gs.length+pt.2)):=by
    match j,hv with
    | 0,hv=>exact⟨pt.1,(y12 hv).symm,by lia,.inl ⟨rfl,rfl⟩⟩
    | 1,hv=>exact⟨gs.length+pt.2,(y12 hv).symm,by lia,.inr ⟨rfl,rfl⟩⟩
    | n+2,hv=>cases hv
   obtain⟨ae,hae⟩:∃ae,as[e]?=some ae:=⟨_,y01 (by lia)⟩
   walk_at "r";refine⟨_,_,_,I.me,hPe,_,_,I.sp,by lia,z5r (z6g sf he),_,_,_,I.me,hSe,_,_,.inl (SqL.of I.st),z3a hsv,?_⟩
   walk_at "r";refine⟨_,e,I.sp,z3g (by rw[y04,y04,y2q];exact he),?_⟩
   have hset:(((y0f (gs.length+ts.length)).map sf).map V.int).set e (.int (sf e - sv))=((y0f (gs.length+ts.length)).map (λy=>if y=e then sf e - sv else sf y)).map V.int:=by rw[←zn1,y2l]
   rw[hset];have I9:=I.aj Ap (λy=>if y=e then sf e - sv else sf y)
   have fz9:Frz [x] H (upd H' lP (.lst (((y0f (gs.length+ts.length)).map (λy=>if y=e then sf e - sv else sf y)).map V.int))):=fz.new hHP
   have hta9:upd H' lP (.lst (((y0f (gs.length+ts.length)).map (λy=>if y=e then sf e - sv else sf y)).map V.int)) a=some (.tup [.int (pt.1:Int),.int ((gs.length+pt.2:Nat):Int)]):=by rw[z0a (z6q hta I.sp (by intro z;cases z))];exact hta
   generalize upd H' lP (.lst (((y0f (gs.length+ts.length)).map (λy=>if y=e then sf e - sv else sf y)).map V.int))=H9 at I9 fz9 hta9 ⊢
   have hr9:(as.map V.ref)[e]?=some (.ref ae):=by rw[y06,hae];rfl
   refine⟨_,_,_,I9.me,hAe,_,_,.inl (SqL.of I9.ta),z24 hr9,?_⟩;walk_at "r";have hafl:(z09 (af e)).length≤2000:=by
    rw[z47,haf e];have h1:(zdk (z0s gs.length az) i e).length≤i:=by
     unfold zdk;refine y17 (y3p _ _) ?_;simp
    rw[y0e,y0e]
    split<;>split<;>simp<;>lia
   refine⟨⟨_,I9.tt e ae hae⟩,_,I9.tt e ae hae,y2v hafl (by decide),?_⟩
   rw[ze9];have I10:=I9.tie Ap hae (af e ++ [i]);have hHae:H ae=none:=hasH ae (y02 hae)
   refine⟨_,rfl,fz9.new hHae,by rw[z0a (z6q hta9 (I9.tt e ae hae) (by intro z;cases z))];exact hta9,_,_,I10,λy=>?_,λy=>?_⟩
   ·by_cases c:y=e
    ·subst c;rw[if_pos rfl,hsf y];rcases hej with ⟨rfl,h2⟩ | ⟨rfl,h2⟩
     ·simp[h2]
     ·have:y≠pt.1:=by lia
      simp[h2,this]
    ·rw[if_neg c,hsf y];rcases hej with ⟨rfl,h2⟩ | ⟨rfl,h2⟩
     ·have:y≠pt.1:=by lia
      simp[this]
     ·have:y≠gs.length+pt.2:=by lia
      simp[this]
   ·by_cases c:y=e
    ·subst c;rw[if_pos rfl,haf y];rcases hej with ⟨rfl,h2⟩ | ⟨rfl,h2⟩
     ·simp[h2]
     ·have:y≠pt.1:=by lia
      simp[h2,this]
    ·rw[if_neg c,haf y];rcases hej with ⟨rfl,h2⟩ | ⟨rfl,h2⟩
     ·have:y≠pt.1:=by lia
      simp[this]
     ·have:y≠gs.length+pt.2:=by lia
      simp[this]
  ·rintro σ H' ⟨t7,rfl,fz,hta,sf,af,I,hsf,haf⟩;refine⟨_,_,_,rfl,fz,?_⟩;have e1:sf=zev (gs++ts) (z0s gs.length az) ss (i+1):=by
    funext e;rw[hsf e];unfold zev;rw[z0h hend,z0h hsv,zbx (by rw[y0t,y0t];lia)]
    by_cases c1:e=pt.1
    ·have c2:¬e=gs.length+pt.2:=by lia
     have:PM.inc (pt.1,gs.length+pt.2) e=true:=by simp[PM.inc,c1]
     simp[c1,this];have c3:¬pt.1=gs.length+pt.2:=by lia
     simp[c3];rw[c1] at this;simp[this];lia
    ·by_cases c2:e=gs.length+pt.2
     ·have:PM.inc (pt.1,gs.length+pt.2) e=true:=by simp[PM.inc,c2]
      simp only[c1,and_false,if_false,this,if_true,c2,and_self];simp;rw[c2] at this;simp[this];lia
     ·have:PM.inc (pt.1,gs.length+pt.2) e=false:=by
       simp[PM.inc];lia
      simp[c1,c2,this]
   have e2:af=zdk (z0s gs.length az) (i+1):=by
    funext e;rw[haf e,zih,show(z0s gs.length az).getD i (0,0)=(pt.1,gs.length+pt.2) by simp[y1l,hend]]
    by_cases c1:e=pt.1
    ·subst c1;have c2:¬pt.1=gs.length+pt.2:=by lia
     have:PM.inc (pt.1,gs.length+pt.2) pt.1=true:=by simp[PM.inc]
     simp[c2,this]
    ·by_cases c2:e=gs.length+pt.2
     ·subst c2;have:PM.inc (pt.1,gs.length+pt.2) (gs.length+pt.2)=true:=by simp[PM.inc]
      simp[c1,this]
     ·have:PM.inc (pt.1,gs.length+pt.2) e=false:=by
       simp[PM.inc];lia
      simp[c1,c2,this]
   rw[←e1,←e2];exact I
 ·clear I7 fz7;rintro σ H' ⟨t5,t6,t7,rfl,fz,I⟩;rw[htll] at I;have nin:∀{b:Addr},b≠lS->b≠lP->(if b=lS∨b=lP then none else H' b)=H' b:=λh1 h2=>if_neg λz=>z.elim h1 h2
  refine q lS lP H' fz hHS hHP ⟨⟨λb=>if b=lS∨b=lP then none else H' b,λb o h=>?_,if_pos (.inl rfl),if_pos (.inr rfl),λm hm=>by simp at hm,⟨dx,fs5,lT,lA,?_,hG,hTe,hSe,hPe,hAe,?_,?_,λm hm=>?_⟩⟩,λm hm=>by simp at hm,I.st,?_,nPS.symm,zaf hties,?_,?_,?_,?_⟩
  ·have h':(if b=lS∨b=lP then none else H' b)=some o:=h
   split at h'
   ·cases h'
   ·exact h'
  ·refine(nin nSx.symm nPx.symm).trans ?_;exact I.me
  ·refine is_list.mpr ⟨lT,tl,rfl,?_,z2h I.al λb ys hb=>?_⟩
   ·refine(nin nST.symm nPT.symm).trans ?_;exact I.te
   ·refine(nin (z6q hb I.st (by intro z;cases z)) (z6q hb I.sp (by intro z;cases z))).trans ?_
    exact hb
  ·refine is_list.mpr ⟨lA,as.map V.ref,rfl,?_,zep ?_ λi v dd h1 h2=>?_⟩
   ·refine(nin nAS.symm Ap.PA.symm).trans ?_;exact I.ta
   ·show _=(((y0f (gs.length+ts.length)).map (zdk (z0s gs.length az) az.length)).map z39).length;rw[y04,y04,y04,y2q];exact hasn
   ·have h2':(((y0f (gs.length+ts.length)).map (zdk (z0s gs.length az) az.length)).map z39)[i]?=some dd:=h2;rw[y06] at h1;cases z:as[i]? with
    | none=>rw[z] at h1;cases h1
    | some a =>
     rw[z] at h1;cases h1;have hin:i<gs.length+ts.length:=by have:=(y00.mp z).1;lia
     rw[y06,z6g _ hin] at h2';cases h2';have hm:=y02 z;refine is_list.mpr ⟨a,_,rfl,?_,z28 _⟩;refine(nin (λe=>Ap.inS (by rw[←e];exact hm)) (λe=>Ap.inP (by rw[←e];exact hm))).trans ?_
     exact I.tt i a z
  ·rw[ff5.get];simp only[y0k,y15,or_false] at hm;rcases hm with rfl | rfl | rfl | rfl | rfl | rfl | rfl | rfl | rfl | rfl | rfl | rfl<;>(rw[if_neg (by decide),if_neg (by decide),if_neg (by decide),if_neg (by decide),if_neg (by decide)])
  ·exact I.sp
  ·show ss.length=(az.map _).length;rw[y04];exact hssl
  ·show _=gs.length+ts.length;simp
  ·show gs.length+ts.length≤1000;exact hsm
  ·show(az.map _).length≤1000;rw[y04];exact htl
noncomputable abbrev z0t:Stmt:=z36 (top 8) 3
theorem z4o:FnScope ["self"] ["self"] (z05 z0t):=⟨rfl,rfl,rfl,by decide +kernel,rfl,by decide +kernel,by decide +kernel⟩
theorem z4n (T:MTop K ay "gives_with_rest" "Pour.gives_with_rest" z0t ["self"])(B:Blt mg)(BS:mg "set"=none)(F:FldsPour K ay) :MDef P w K mg base ay "gives_with_rest" 1 ["self"] (zim K ay):=by
 refine z38 (k:=0) T z4o (λvs H Q E h=>?_) (λf cdv A outer s H vs Q E hr h=>?_)
 ·obtain⟨me,N,aS,aP,ap,aj,M,rfl,_⟩:=h;rfl
 obtain⟨me,N,aS,aP,ap,aj,M,rfl,hP,q⟩:=h;obtain⟨dx,fs,aT,aA,ts,rs,g1,g2,g3,g4,g5,g6,g7,g8,g9,g10,g11⟩:=hP.get;refine⟨_,(z07 (z0m (z6a (N:=["give","self"]) (fr:=[0]) 1 (zhp B.range (z00 (z1k F.many_gives (cv 0)) z03)) (λC hN=>by exact pgC ((z0b 0 hN)) (by walk_at "c")) (λC hN=>by exact ptC ((z0w z71 (z0k z0j (z1k F.aj (cv 1)) (cv 0) (λ_ _=>rfl)) z06 (z0p _))) (by walk_at "c")) (λC hN=>by exact peC ((cv 0)) (by walk_at "c"))))),?_⟩
 refine rd (σ':=[some (.ref me)]) rfl ?_;walk_at "r";have gG:N.G≤N.nE:=hP.wf.gle;have hsm:=hP.sm
 refine⟨_,_,_,g1,g2,?_⟩;walk_at "r";refine⟨⟨by lia,by lia⟩,cgo (σ':=[none,some (.ref me)]) rfl ?_⟩
 refine z9j (n:=(N.G:Int).toNat) (λi ys H'=>H'=H/\ys=z09 ((y0f i).filter λg=>decide (0<aj.getD g 0))) ⟨rfl,rfl⟩ (z0i (by lia)) ?_ ?_ ?_
 ·rintro i ys H' _ ⟨rfl,rfl⟩;unfold z09;rw[y04];refine y17 (y3p _ _) ?_;simp
 ·rintro i ys H' hi ⟨rfl,rfl⟩;have hi':i<aj.length:=by rw[hP.lp];lia
  walk_at "r";refine⟨_,_,_,g1,g5,_,_,.inl (SqL.of hP.sp),by rw[y3f];exact z3a (z19 hi'),?_⟩
  walk_at "r";have e:(y0f (i+1)).filter (λg=>decide (0<aj.getD g 0))=(y0f i).filter (λg=>decide (0<aj.getD g 0))++(if 0<aj.getD i 0 then [i] else []):=by
   rw[y3q,y3i];congr 1
   by_cases c:0<aj.getD i 0<;>simp only[y3h,y7i,decide_eq_true_eq,c,if_true,if_false]
  refine z4d (λc=>?_) (λc=>?_)
  ·refine CNx.mk ⟨rfl,?_⟩ hi;rw[e,if_pos (of_decide_eq_true c)];unfold z09;rw[y0g,y3f];rfl
  ·refine CNx.mk ⟨rfl,?_⟩ hi;rw[e,if_neg (λz=>c (decide_eq_true z)),y2s]
 ·rintro ys H' ⟨rfl,rfl⟩ l hl;exact q l hl
noncomputable abbrev z1q:Stmt:=z36 (top 8) 4
theorem z7i:FnScope ["self","ends"] ["self","ends"] (z05 z1q):=⟨rfl,rfl,rfl,by decide +kernel,rfl,by decide +kernel,by decide +kernel⟩
theorem z7o (T:MTop K ay "has_room" "Pour.has_room" z1q ["self","ends"])(B:Blt mg)(BS:mg "set"=none)(F:FldsPour K ay) :MDef P w K mg base ay "has_room" 1 ["self","ends"] (ze3 K ay):=by
 refine z38 (k:=0) T z7i (λvs H Q E h=>?_) (λf cdv A outer s H vs Q E hr h=>?_)
 ·obtain⟨me,N,aS,aP,ap,aj,M,l,es,rfl,_⟩:=h;rfl
 obtain⟨me,N,aS,aP,ap,aj,M,l,es,rfl,hP,hl,hz,hes,q⟩:=h;obtain⟨dx,fs,aT,aA,ts,rs,g1,g2,g3,g4,g5,g6,g7,g8,g9,g10,g11⟩:=hP.get;refine⟨_,(z07 (z0m (z43 zlb B.any zlk (z00 (z3s (N:=["end","self"]) (fr:=[0]) 1 (z1o (cv 1)) (λC hN=>by exact pgC ((z0b 0 hN)) (by walk_at "c")) (λC hN=>by exact peC ((z8x (z33 zn4 (cv 0) (z1k F.many_gives (cv 1)) (z0p _)) (z7g (z33 z71 (z0k z0j (z1k F.aj (cv 1)) (cv 0) (λ_ _=>rfl)) z06 (z0p _))))) (by walk_at "c"))) z03)))),?_⟩
 refine rd (σ':=[some (.ref me),some (.ref l)]) rfl ?_;walk_at "r";refine .inl ⟨⟨_,SqL.of hl⟩,cgo (σ':=[none,some (.ref me)]) rfl ?_⟩;refine z1r (xs:=z09 es) (λi ys H'=>H'=H/\ys=((es.take i).map (z5o N aj)).map V.bl) ⟨rfl,rfl⟩ (z0i (by unfold z09;rw[y04];exact hz)) ?_ ?_ ?_
 ·rintro i ys H' _ ⟨rfl,rfl⟩;refine⟨SqL.of hl,?_⟩;rw[y04,y04,y0t];lia
 ·rintro i x ys H' hx ⟨rfl,rfl⟩;obtain⟨e,he,rfl⟩:=z2q hx;have hil:=(y00.mp hx).1;have hen:=hes e (y02 he)
  have hlp:=hP.lp;have hgoal:∀b:Bool,b=z5o N aj e->CNx (λi ys H''=>H''=H'/\ys=((es.take i).map (z5o N aj)).map V.bl) (z09 es).length (i+1) (((es.take i).map (z5o N aj)).map V.bl ++ [V.bl b]) H':=λb hb=>by
   refine CNx.mk ⟨rfl,?_⟩ hil;rw[z0h he,y0g,y0g,hb];rfl
  walk_at "r";refine z7r ⟨_,_,_,g1,g2,?_⟩;walk_at "r";refine z4d (λc=>?_) (λc=>?_)
  ·have c':N.G≤e:=by have:=of_decide_eq_true c;lia
   refine⟨_,_,_,g1,g5,_,_,.inl (SqL.of hP.sp),z3a (z19 (by lia)),?_⟩
   walk_at "r";refine hgoal _ ?_;unfold z5o;rw[decide_eq_true c'];rfl
  ·have c':¬N.G≤e:=λz=>c (decide_eq_true (by lia))
   refine hgoal _ ?_;unfold z5o;rw[decide_eq_false c'];rfl
 ·rintro ys H' ⟨rfl,rfl⟩ l' hl';have hn:(z09 es).length=es.length:=by unfold z09;rw[y04]
  rw[hn,y0c (y0b _)];refine⟨es.map (z5o N aj),SqL.of z01,?_⟩;rw[List.any_map];exact q _ (z04 hl' _)
noncomputable abbrev z23:Stmt:=z36 (top 8) 1
theorem sc_Pour_far_end:FnScope ["self","end","tie","ends"] ["self","end","tie"] (z05 z23):=⟨rfl,rfl,rfl,by decide +kernel,rfl,by decide +kernel,by decide +kernel⟩
theorem z8a (T:MTop K ay "far_end" "Pour.far_end" z23 ["self","end","tie"])(B:Blt mg)(BS:mg "set"=none)(F:FldsPour K ay) :MDef P w K mg base ay "far_end" 1 ["self","end","tie"] (zk4 K ay):=by
 refine z38 (k:=0) T sc_Pour_far_end (λvs H Q E h=>?_) (λf cdv A outer s H vs Q E hr h=>?_)
 ·obtain⟨me,N,aS,aP,ap,aj,M,e,k,b,rfl,_⟩:=h;rfl
 obtain⟨me,N,aS,aP,ap,aj,M,e,k,b,rfl,hP,ht,q⟩:=h;obtain⟨dx,fs,aT,aA,ts,rs,g1,g2,g3,g4,g5,g6,g7,g8,g9,g10,g11⟩:=hP.get;obtain⟨p,hp,hpe⟩:=ht;obtain⟨a,h1,h2⟩:=zkq g8 hp;have hlo:=hP.wf.lo k p hp;refine⟨_,(z02 (z0d 3 sc_Pour_far_end.nd (z0k z0j (z1k F.tie_ends (cv 0)) (cv 2) (λ_ _=>rfl)))
   (z07 (z0m (zak (z0w z5q (cv 1) (z0k z0j (cv 3) z06 (λ_ _=>rfl)) (z0p _)) (z0k z0j (cv 3) z06 (λ_ _=>rfl)) (z0k z0j (cv 3) z06 (λ_ _=>rfl)))))),?_⟩
 refine rd (σ':=[some (.ref me),some (.int (e:Int)),some (.int (k:Int)),none]) rfl ?_;walk_at "r";refine⟨_,_,_,g1,g3,_,_,.inl (SqL.of g7),z24 h1,?_⟩;walk_at "r";have hT:SqT K H a _:=SqT.of h2;refine⟨_,_,.inr hT,rfl,z4d (λc=>?_) (λc=>?_)⟩
 ·have c':(e:Int)=(p.1:Int):=of_decide_eq_true c;have hb:b=p.2:=by
   rcases hpe with h | h<;>lia
  rw[hb] at q;exact⟨_,_,.inr hT,rfl,q⟩
 ·have c':¬(e:Int)=(p.1:Int):=λz=>c (decide_eq_true z);have hb:b=p.1:=by
   rcases hpe with h | h
   ·exact absurd (congrArg Int.ofNat h.1.symm) c'
   ·exact h.2.symm
  rw[hb] at q;exact⟨_,_,.inr hT,rfl,q⟩
noncomputable abbrev z29:Stmt:=z36 (top 8) 2
theorem z96:FnScope ["self","end","tie"] ["self","end","tie"] (z05 z29):=⟨rfl,rfl,rfl,by decide +kernel,rfl,by decide +kernel,by decide +kernel⟩
theorem z98 (T:MTop K ay "may_go" "Pour.may_go" z29 ["self","end","tie"])(B:Blt mg)(BS:mg "set"=none)(F:FldsPour K ay) :MDef P w K mg base ay "may_go" 1 ["self","end","tie"] (zmg K ay):=by
 refine z38 (k:=0) T z96 (λvs H Q E h=>?_) (λf cdv A outer s H vs Q E hr h=>?_)
 ·obtain⟨me,N,aS,aP,ap,aj,M,e,k,rfl,_⟩:=h;rfl
 obtain⟨me,N,aS,aP,ap,aj,M,e,k,rfl,hP,hk,q⟩:=h;obtain⟨dx,fs,aT,aA,ts,rs,g1,g2,g3,g4,g5,g6,g7,g8,g9,g10,g11⟩:=hP.get;refine⟨_,(z07 (z0m (zo6 (z33 z84 (cv 1) (z1k F.many_gives (cv 0)) (z0p _)) (z7g (z33 z71 (z0k z0j (z1k F.ap (cv 0)) (cv 2) (λ_ _=>rfl)) z06 (z0p _)))))),?_⟩;refine rd (σ':=[some (.ref me),some (.int (e:Int)),some (.int (k:Int))]) rfl ?_;walk_at "r";refine⟨_,_,_,g1,g2,?_⟩;walk_at "r";unfold goB at q;refine z4d (λc=>?_) (λc=>?_)
 ·have c':e<N.G:=by have:=of_decide_eq_true c;lia
  rw[decide_eq_true c'] at q;exact q
 ·have c':¬e<N.G:=λz=>c (decide_eq_true (by lia))
  rw[decide_eq_false c'] at q;refine⟨_,_,_,g1,g4,_,_,.inl (SqL.of hP.st),z3a (z19 hk),?_⟩;walk_at "r";exact q
noncomputable abbrev z1f:Stmt:=z36 (top 8) 6
theorem sc_Pour_row_behind:FnScope ["self","row","steps","behind","end","tie","far"] ["self","row","steps"] (z05 z1f):=⟨rfl,rfl,rfl,by decide +kernel,rfl,by decide +kernel,by decide +kernel⟩
theorem z6h (T:MTop K ay "row_behind" "Pour.row_behind" z1f ["self","row","steps"])(B:Blt mg)(BS:mg "set"=none)(F:FldsPour K ay)(aK:MDef P w K mg base ay "far_end" 1 ["self","end","tie"] (zk4 K ay))(aV:MDef P w K mg base ay "may_go" 1 ["self","end","tie"] (zmg K ay)):MDef P w K mg base ay "row_behind" 2 ["self","row","steps"] (zdi K ay):=by
 refine z38 (k:=1) T sc_Pour_row_behind (λvs H Q E h=>?_) (λf cdv A outer s H vs Q E hr h=>?_)
 ·obtain⟨me,N,aS,aP,ap,aj,M,ar,ast,row,aE,d,rfl,_⟩:=h;rfl
 obtain⟨me,N,aS,aP,ap,aj,M,ar,ast,row,aE,d,rfl,hP,hM,hr0,hne,hst,hl0,hrow,q⟩:=h;obtain⟨G0,f1,f2,f3,f4,fx⟩:=hP.ok;obtain⟨dx,fs,aT,aA,ts,rs,g1,g2,g3,g4,g5,g6,g7,g8,g9,g10,g11⟩:=fx.get;have Fst:=f4 _ hM;refine⟨_,(z02 (z0d 3 sc_Pour_row_behind.nd (z1b z03))
   (z02 (z1u (z1o (cv 1)) (z0b 4 sc_Pour_row_behind.nd)
   (z07 (z1u (z1o (z0k z0j (z1k F.ties_at (cv 0)) (cv 4) (λ_ _=>rfl))) (z0b 5 sc_Pour_row_behind.nd)
    (z02 (z0d 6 sc_Pour_row_behind.nd (z2d aK (hr.mono (by decide)) (cv 0) (z00 (cv 4) (z00 (cv 5) z03))))
     (z07 (z3d (z9m (z0w z84 (z0k z0j (cv 2) (cv 6) (λ_ _=>rfl)) z06 (z0p _)) (z6u (z2r (z2d aV (hr.mono (by decide)) (cv 0) (z00 (cv 4) (z00 (cv 5) z03)))))).pt
     (z02 (z9n (z0n z3b (z0k z0j (cv 2) (cv 4) (λ_ _=>rfl)) z06) (zbg (cv 2) (cv 6) z4t))
      (z07 (z1z (z0z (cv 3) (z00 (cv 6) z03)))))
     z1d))))))
   (z07 (z0m (cv 3))))),?_⟩
 refine rd (σ':=[some (.ref me),some (.ref ar),some (.ref ast),none,none,none,none]) rfl ?_;walk_at "r";refine⟨sz (by show 0≤1000;decide),λl hl=>.inl ⟨⟨_,SqL.of (z04 hl _ _ _ hr0)⟩,?_⟩⟩
 have hlst:l≠ast:=λz=>(z08 hst hl) z.symm;have hlar:ar≠l:=z08 hr0 hl
 have Fl:=f1.free hl;refine z2t (xs:=z09 row) (λi σ H'=>∃(aa:List Int) (aD:List Nat) (t4 t5 t6:Option V),σ = [some (.ref me),some (.ref ar),some (.ref ast),some (.ref l),t4,t5,t6]/\Frz [ast] H H'/\H' ast=some (.lst (aa.map V.int))/\H' l=some (.lst (z09 aD))/\PM.Behind N ap d row aE (λa _=>a∈row.take i) aa aD/\aD.length+PM.unr aa=PM.unr aE)
  ⟨aE,[],_,_,_,rfl,Frz.of (z04 hl _),z04 hl _ _ _ hst,z01,PM.Behind.start.weak (λa k h=>by simp at h),by simp⟩ ?_ ?_ ?_
 ·rintro i σ H' _ ⟨aa,aD,t4,t5,t6,rfl,fz,_⟩;exact SqL.of (fz _ _ (by simpa using hne) hr0)
 ·rintro i x σ H' hx ⟨aa,aD,t4,t5,t6,rfl,fz,h1,h2,B,hu⟩;obtain⟨e,he,rfl⟩:=z2q hx;have hem:=y02 he;have hlv:=hrow e hem
  have hen:e<N.nE:=by rw[←hl0];exact zat (by lia)
  obtain⟨le,hle⟩:∃le,N.at'[e]?=some le:=⟨_,y01 (by rw[hP.wf.len];exact hen)⟩
  obtain⟨ae,ha1,ha2⟩:=z41 g10 hle;have sF':=Same.frz f1 fz (λx hx=>by rw[y09.mp hx];exact Fst)
  walk_at "r";refine⟨_,_,_,sF' _ _ g1,g6,_,_,.inl (SqL.of (sF' _ _ g9)),z24 ha1,?_⟩;walk_at "r";refine .inl ⟨⟨_,SqL.of (sF' _ _ ha2)⟩,?_⟩;refine z2t (xs:=z09 le) (λj σ H'=>∃(aa:List Int) (aD:List Nat) (t5 t6:Option V),σ = [some (.ref me),some (.ref ar),some (.ref ast),some (.ref l),some (.int (e:Int)),t5,t6]/\Frz [ast] H H'/\H' ast=some (.lst (aa.map V.int))/\H' l=some (.lst (z09 aD))/\PM.Behind N ap d row aE (λa k=>a∈row.take i∨(a=e/\k∈le.take j)) aa aD/\aD.length+PM.unr aa=PM.unr aE)
   ⟨aa,aD,_,_,rfl,fz,h1,h2,B.weak (λa k h=>by simpa using h),hu⟩ ?_ ?_ ?_
  ·rintro j σ H' _ ⟨aa,aD,t5,t6,rfl,fz,_⟩;exact SqL.of ((Same.frz f1 fz (λx hx=>by rw[y09.mp hx];exact Fst)) _ _ ha2)
  ·clear B h1 h2 hu sF' fz;rintro j x σ H' hx ⟨aa,aD,t5,t6,rfl,fz,h1,h2,B,hu⟩;obtain⟨k,hk,rfl⟩:=z2q hx;have hP':=hP.frz fz (λx hx=>by rw[y09.mp hx];exact hM)
   have sF':=Same.frz f1 fz (λx hx=>by rw[y09.mp hx];exact Fst)
   obtain⟨p,hp,hpe⟩:=(hP.wf.mem e le k hle).mp (y02 hk);obtain⟨b,ht⟩:∃b,PM.Tie N e k b:=by
    rcases hpe with z | z
    ·exact⟨p.2,p,hp,.inl ⟨z,rfl⟩⟩
    ·exact⟨p.1,p,hp,.inr ⟨z,rfl⟩⟩
   have hkl:k<ap.length:=by rw[hP.ls];exact(y00.mp hp).1
   have hbn:b<N.nE:=by
    obtain⟨p',hp',hq⟩:=ht;have:=hP.wf.lo k p' hp';have:=hP.wf.gle
    rcases hq with z | z<;>lia
   have hsl:aa.length=N.nE:=by rw[B.len,hl0]
   have hle1:PM.Lv aa e=d:=by rw[B.old e (by lia)];exact hlv
   have nxt:∀{P:Nat->Nat->Prop} {aa:List Int} {aD:List Nat},PM.Behind N ap d row aE (λx y=>(x∈row.take i∨(x=e/\y∈le.take j))∨(x=e/\y=k)) aa aD->PM.Behind N ap d row aE (λa k=>a∈row.take i∨(a=e/\k∈le.take (j+1))) aa aD:=λ{P aa aD} B=>B.weak λa y h=>by
    rw[z0h hk] at h;rcases h with h | ⟨h1,h2⟩
    ·exact .inl (.inl h)
    ·rcases y0y.mp h2 with h2 | h2
     ·exact .inl (.inr ⟨h1,h2⟩)
     ·exact .inr ⟨h1,y09.mp h2⟩
   walk_at "r";refine⟨_,_,sF' _ _ g1,g11 _ (by decide),me,N,aS,aP,ap,aj,M,e,k,b,rfl,hP',ht,?_⟩
   walk_at "r";refine⟨_,_,.inl (SqL.of h1),z3a (zf5 (by lia)),?_⟩
   walk_at "r";refine z4d (λc=>?_) (λc=>?_)
   ·have c':=of_decide_eq_true c;refine⟨_,_,sF' _ _ g1,g11 _ (by decide),me,N,aS,aP,ap,aj,M,e,k,rfl,hP',hkl,?_⟩
    walk_at "r";refine z4d (λcg=>?_) (λcg=>?_)
    ·have go:=(zda hkl).mp cg;refine⟨_,_,.inl (SqL.of h1),z3a (zf5 (by lia)),?_⟩
     walk_at "r";refine⟨_,b,h1,z3g (by rw[y04];lia),?_⟩
     have hset:(aa.map V.int).set b (.int (PM.Lv aa e+1))=(aa.set b (PM.Lv aa e+1)).map V.int:=by rw[y2l]
     rw[hset,hle1];have B':=nxt (P:=λ_ _=>True) (B.mark hP.wf ht go hem c' (by lia))
     have hu':=PM.unr_set (zf5 (aa:=aa) (e:=b) (by lia)) c' (show(0:Int)≤(d:Int)+1 by lia)
     have hul:=PM.unr_len aE;have hsm:=hP.sm
     have h2':upd H' ast (.lst ((aa.set b ((d:Int)+1)).map V.int)) l=some (.lst (z09 aD)):=by rw[z0a hlst];exact h2
     have hbl:(z09 aD).length=aD.length:=by unfold z09;rw[y04]
     refine⟨⟨_,h2'⟩,_,h2',z0i (by lia),?_⟩
     refine⟨_,aD ++ [b],_,_,rfl,?_,?_,?_,B',by rw[y0e];simp;lia⟩
     ·intro x o hx q';have hx':x≠ast:=by simpa using hx
      have hxl:x≠l:=z08 q' hl;rw[z0a hxl,z0a hx'];exact fz x o hx q'
     ·rw[z0a (Ne.symm hlst),z01]
     ·rw[z01];unfold z09;rw[y0g];rfl
    ·exact⟨aa,aD,_,_,rfl,fz,h1,h2,nxt (P:=λ_ _=>True) (B.skip hP.wf ht (.inr λz=>cg ((zda hkl).mpr z))),hu⟩
   ·have c':¬PM.Lv aa b<0:=λz=>c (decide_eq_true z);exact⟨aa,aD,_,_,rfl,fz,h1,h2,nxt (P:=λ_ _=>True) (B.skip hP.wf ht (.inl (by lia))),hu⟩
  ·clear B h1 h2 hu sF' fz;rintro σ H' ⟨aa,aD,t5,t6,rfl,fz,h1,h2,B,hu⟩;refine⟨aa,aD,_,_,_,rfl,fz,h1,h2,B.weakT λa k b h t=>?_,hu⟩;rw[z0h he] at h;rcases y0y.mp h with h | h
   ·exact .inl h
   ·have:=y09.mp h;subst this;refine .inr ⟨rfl,?_⟩;have hn:(z09 le).length=le.length:=by unfold z09;rw[y04]
    rw[hn,y0c (y0b _)];exact t.mem hP.wf hle
 ·rintro σ H' ⟨aa,aD,t4,t5,t6,rfl,fz,h1,h2,B,hu⟩;walk_at "r";refine q l aa aD H' fz h1 hl h2 (B.weak λa k h=>?_) hu;have hn:(z09 row).length=row.length:=by unfold z09;rw[y04]
  rw[hn,y0c (y0b _)];exact h
noncomputable abbrev z0x:Stmt:=z36 (top 8) 5
theorem sc_Pour_steps_to_room:FnScope ["self","steps","row","give"] ["self"] (z05 z0x):=⟨rfl,rfl,rfl,by decide +kernel,rfl,by decide +kernel,by decide +kernel⟩
theorem z50 (T:MTop K ay "steps_to_room" "Pour.steps_to_room" z0x ["self"])(B:Blt mg)(BS:mg "set"=none)(F:FldsPour K ay)(aI:MDef P w K mg base ay "gives_with_rest" 1 ["self"] (zim K ay))(aJ:MDef P w K mg base ay "has_room" 1 ["self","ends"] (ze3 K ay))(be:MDef P w K mg base ay "row_behind" 2 ["self","row","steps"] (zdi K ay)):MDef P w K mg base ay "steps_to_room" 3 ["self"] (zhd K ay):=by
 refine z38 (k:=2) T sc_Pour_steps_to_room (λvs H Q E h=>?_) (λf cdv A outer s H vs Q E hr h=>?_)
 ·obtain⟨me,N,aS,aP,ap,aj,M,rfl,_⟩:=h;rfl
 obtain⟨me,N,aS,aP,ap,aj,M,rfl,hP,q⟩:=h;obtain⟨dx,fs,aT,aA,ts,rs,g1,g2,g3,g4,g5,g6,g7,g8,g9,g10,g11⟩:=hP.get;have hsm:=hP.sm;have hg:=hP.wf.gle
 have hsp:(aj.map V.int).length=N.nE:=by rw[y04];exact hP.lp
 refine⟨_,(z02 (z0d 1 sc_Pour_steps_to_room.nd (z0n z3c (z1b (z00 (zcs z8i z06) z03)) (z43 z25 B.len y19 (z00 (z1k F.aj (cv 0)) z03))))
   (z02 (z0d 2 sc_Pour_steps_to_room.nd (z6j aI (hr.mono (by decide)) (cv 0)))
   (z02 (z1u (z1o (cv 2)) (z0b 3 sc_Pour_steps_to_room.nd)
   (z07 (z9n z06 (zbg (cv 1) (cv 3) z4t))))
   (z02 (z49 (z9m (z0w z71 (z43 z25 B.len y19 (z00 (cv 2) z03)) z06 (z0p _)) (z6u (z3x (z2r (z2d aJ (hr.mono (by decide)) (cv 0) (z00 (cv 2) z03)))))).pt
   (z07 (z0d 2 sc_Pour_steps_to_room.nd (z2d be (hr.mono (by decide)) (cv 0) (z00 (cv 2) (z00 (cv 1) z03))))))
   (z07 (z0m (cv 1))))))),?_⟩
 refine rd (σ':=[some (.ref me),none,none,none]) rfl ?_;walk_at "r";refine⟨sz (by show 1≤1000;decide),λl0 hl0=>?_⟩
 have s0:=z04 hl0 (.lst [.int (-1)]);refine⟨_,_,_,s0 _ _ g1,g5,_,.inl (SqL.of (s0 _ _ hP.sp)),?_⟩;rw[hsp];walk_at "r";refine⟨_,z01,by lia,by lia,sz (by show 1*_≤1000;lia),λl hl=>?_⟩
 rw[z3y];have e0:y07 ((N.nE:Int)).toNat (V.int (-1))=(y07 N.nE (-1)).map V.int:=by rw[y38];rfl
 rw[e0];have s1:=z04 hl (.lst ((y07 N.nE (-1)).map V.int));have sA:=s0.trans s1
 have hlH:H l=none:=s0.free hl;have hP1:=(hP.same s0).new hl |>.same s1
 refine⟨_,_,sA _ _ g1,g11 _ (by decide),me,N,aS,aP,ap,aj,_,rfl,hP1,λr hr=>?_⟩
 have s2:=z04 hr (.lst (z09 (rest N aj)));have hl1:upd (upd (upd H l0 (.lst [.int (-1)])) l (.lst ((y07 N.nE (-1)).map V.int))) r (.lst (z09 (rest N aj))) l=some (.lst ((y07 N.nE (-1)).map V.int)):=s2 _ _ z01
 have hrl:r≠l:=λz=>by
  subst z;rw[z01] at hr;cases hr
 walk_at "r";refine .inl ⟨⟨_,SqL.of z01⟩,?_⟩;have hP3:=hP1.same s2;have hr3:upd (upd (upd H l0 (.lst [.int (-1)])) l (.lst ((y07 N.nE (-1)).map V.int))) r (.lst (z09 (rest N aj))) r=some (.lst (z09 (rest N aj))):=z01
 have sB:=sA.trans s2;have e1:H me=some (.ins ay dx fs):=g1
 clear hP1 s0 s1 s2 sA hr hl e0;generalize upd (upd (upd H l0 (.lst [.int (-1)])) l (.lst ((y07 N.nE (-1)).map V.int))) r (.lst (z09 (rest N aj)))=H3 at hP3 hr3 hl1 sB ⊢
 have back:∀H',Frz [l] H3 H'->Same H H':=λH' fz b o h=>fz b o (by simpa using z08 h hlH) (sB b o h)
 have hlen:(z09 (rest N aj)).length=(rest N aj).length:=by unfold z09;rw[y04]
 refine z2t (xs:=z09 (rest N aj)) (λi σ H'=>∃(aa:List Int) (t:Option V),σ = [some (.ref me),some (.ref l),some (.ref r),t]/\Frz [l] H3 H'/\H' l=some (.lst (aa.map V.int))/\aa.length=N.nE/\∀e,PM.Lv aa e=if e∈(rest N aj).take i then 0 else -1)
  ⟨_,_,rfl,λb o _ h=>h,hl1,by rw[y1k],λe=>?_⟩ ?_ ?_ ?_
 ·unfold PM.Lv;rw[y05,y1f]
  split<;>simp
 ·rintro i σ H' _ ⟨aa,t,rfl,fz,_⟩;exact SqL.of (fz _ _ (by simpa using hrl) hr3)
 ·rintro i x σ H' hx ⟨aa,t,rfl,fz,h1,hsl,hlv⟩;obtain⟨g,hg1,rfl⟩:=z2q hx;have hgm:=rest_mem.mp (y02 hg1);walk_at "r";refine⟨_,g,h1,z3g (by rw[y04];lia),aa.set g 0,_,rfl,fz.trans (Frz.upd (by simp)),by rw[z01,y2l],by rw[y2a];exact hsl,λe=>?_⟩
  rw[PM.lv_set (by lia),z0h hg1]
  by_cases c:e=g
  ·subst c;simp
  ·rw[if_neg c,hlv e];simp[c]
 rintro σ H' ⟨aa,t,rfl,fz,h1,hsl,hlv⟩;rw[hlen,y0c (y0b _)] at hlv;have R0:=zqx (ap:=ap) hP.wf hsl hP.lp hlv;have hrl':=ziw (N:=N) (aj:=aj)
 walk_at "r";refine⟨λm σ H'=>∃(d:Nat) (row:List Nat) (aa:List Int) (ar:Addr) (t:Option V),σ = [some (.ref me),some (.ref l),some (.ref ar),t]/\Frz [l] H3 H'/\H' l=some (.lst (aa.map V.int))/\H' ar=some (.lst (z09 row))/\ar≠l/\aa.length=N.nE/\row.length≤1000/\PM.Rows N ap aj d row aa/\m=2*PM.unr aa+(if row = [] then 0 else 1),
  ⟨_,0,rest N aj,aa,r,_,rfl,fz,h1,fz _ _ (by simpa using hrl) hr3,hrl,hsl,by lia,R0,rfl⟩,?_⟩
 clear R0 hlv h1 fz hsl;rintro m σ H' ⟨d,row,aa,ar,t,rfl,fz,h1,h2,hne,hsl,hrow,R,rfl⟩;have hrn:(z09 row).length=row.length:=by unfold z09;rw[y04]
 have sH:=back H' fz;have hP':=hP3.frz fz (λx hx=>by rw[y09.mp hx];exact y0d)
 have inr:∀e∈row,e<N.nE:=λe he=>by
  have:=(R.row e).mp he;rw[←hsl];exact zat (by lia)
 walk_at "r";refine⟨_,.inl (SqL.of h2),?_⟩;rw[hrn];walk_at "r";refine z4d (λc=>?_) (λc=>z91 ?_)
 ·have c':row ≠ []:=by
   rintro rfl;simp at c
  refine⟨_,_,sH _ _ g1,g11 _ (by decide),me,N,aS,aP,ap,aj,_,ar,row,rfl,hP',h2,hrow,inr,λH4 s4=>?_⟩
  walk_at "r";refine z4d (λca=>?_) (λca=>?_)
  ·have nor:∀e∈row,¬PM.Room N aj e:=λe he hR=>by
    have:row.any (z5o N aj)=true:=y1t.mpr ⟨e,he,(z45 (by rw[hP.lp];exact inr e he)).mpr hR⟩
    rw[this] at ca;cases ca
   refine⟨_,_,(sH.trans s4) _ _ g1,g11 _ (by decide),me,N,aS,aP,ap,aj,_,ar,l,row,aa,d,rfl,hP'.same s4,y0d,s4 _ _ h2,hne,s4 _ _ h1,hsl,λe he=>(R.row e).mp he,λl2 steps2 aD H5 fz5 k1 k2 k3 B hu=>?_⟩
   have hul:=PM.unr_len aa;refine⟨_,?_,d+1,aD,steps2,l2,_,rfl,fz.trans ((Frz.of s4).trans fz5),k1,k3,λz=>?_,by rw[B.len];exact hsl,by lia,R.next B nor,rfl⟩
   ·rw[if_neg c']
    split
    ·lia
    ·rename_i hb;have:=y0x.mpr hb;lia
   ·subst z;rw[s4 _ _ h1] at k2;cases k2
  ·have ca':row.any (z5o N aj)=true:=by simpa using ca
   obtain⟨e,he,hR⟩:=y1t.mp ca';exact q l aa H4 (sH.trans s4) hlH (s4 _ _ h1) hsl ⟨d,row,R,.inr ⟨e,he,(z45 (by rw[hP.lp];exact inr e he)).mp hR⟩⟩
 ·have c':row = []:=by
   rcases y21 row.length with z | z
   ·exact y1j.mp z
   ·exact absurd (decide_eq_true (by lia)) c
  exact q l aa H' sH hlH h1 hsl ⟨d,row,R,.inl c'⟩
noncomputable abbrev z1s:Stmt:=z36 (top 8) 10
theorem z7j:FnScope ["self","end","tie","steps"] ["self","end","tie","steps"] (z05 z1s):=⟨rfl,rfl,rfl,by decide +kernel,rfl,by decide +kernel,by decide +kernel⟩
theorem z7n (T:MTop K ay "leads_on" "Pour.leads_on" z1s ["self","end","tie","steps"])(B:Blt mg)(BS:mg "set"=none)(aV:MDef P w K mg base ay "may_go" 1 ["self","end","tie"] (zmg K ay))(aK:MDef P w K mg base ay "far_end" 1 ["self","end","tie"] (zk4 K ay)):MDef P w K mg base ay "leads_on" 2 ["self","end","tie","steps"] (zgu K ay):=by
 refine z38 (k:=1) T z7j (λvs H Q E h=>?_) (λf cdv A outer s H vs Q E hr h=>?_)
 ·obtain⟨me,N,aS,aP,ap,aj,M,ast,aa,e,k,b,rfl,_⟩:=h;rfl
 obtain⟨me,N,aS,aP,ap,aj,M,ast,aa,e,k,b,rfl,hP,hst,hsl,ht,q⟩:=h;obtain⟨dx,fs,aT,aA,ts,rs,g1,g2,g3,g4,g5,g6,g7,g8,g9,g10,g11⟩:=hP.get;obtain⟨t1,t2,t3⟩:=zkx hP.wf ht;refine⟨_,(z07 (z0m (z8x (z33 z5q (z0k z0j (cv 3) (z2d aK (hr.mono (by decide)) (cv 0) (z00 (cv 1) (z00 (cv 2) z03))) (λ_ _=>rfl)) (z0n z3b (z0k z0j (cv 3) (cv 1) (λ_ _=>rfl)) z06) (z0p _)) (z7g (z2d aV (hr.mono (by decide)) (cv 0) (z00 (cv 1) (z00 (cv 2) z03))))))),?_⟩
 refine rd (σ':=[some (.ref me),some (.int (e:Int)),some (.int (k:Int)),some (.ref ast)]) rfl ?_;walk_at "r";refine⟨_,_,g1,g11 _ (by decide),me,N,aS,aP,ap,aj,M,e,k,b,rfl,hP,ht,?_⟩
 walk_at "r";refine⟨_,_,.inl (SqL.of hst),z3a (zf5 (by lia)),_,_,.inl (SqL.of hst),z3a (zf5 (by lia)),?_⟩
 walk_at "r";unfold zgi at q;refine z4d (λc=>?_) (λc=>?_)
 ·rw[c,y6k] at q;exact⟨_,_,g1,g11 _ (by decide),me,N,aS,aP,ap,aj,M,e,k,rfl,hP,by rw[hP.ls];exact t3,q⟩
 ·rw[eq_false_of_ne_true c,y68] at q;exact q
noncomputable abbrev z0v:Stmt:=z36 (top 8) 9
theorem sc_Pour_skip_dead_ties:FnScope ["self","end","steps","tried","ties"] ["self","end","steps","tried"] (z05 z0v):=⟨rfl,rfl,rfl,by decide +kernel,rfl,by decide +kernel,by decide +kernel⟩
theorem z4w (T:MTop K ay "skip_dead_ties" "Pour.skip_dead_ties" z0v ["self","end","steps","tried"])(B:Blt mg)(BS:mg "set"=none)(F:FldsPour K ay)(bp:MDef P w K mg base ay "leads_on" 2 ["self","end","tie","steps"] (zgu K ay)):MDef P w K mg base ay "skip_dead_ties" 3 ["self","end","steps","tried"] (zlj K ay):=by
 refine z38 (k:=2) T sc_Pour_skip_dead_ties (λvs H Q E h=>?_) (λf cdv A outer s H vs Q E hr h=>?_)
 ·obtain⟨me,N,aS,aP,ap,aj,M,ast,atr,aa,aB,e,g,es,way,rfl,_⟩:=h;rfl
 obtain⟨me,N,aS,aP,ap,aj,M,ast,atr,aa,aB,e,g,es,way,rfl,hP,hM,hne,hst,hsl,htr,W0,hes,hen,q⟩:=h;obtain⟨G0,f1,f2,f3,f4,fx⟩:=hP.ok;obtain⟨dx,fs,aT,aA,ts,rs,g1,g2,g3,g4,g5,g6,g7,g8,g9,g10,g11⟩:=fx.get;have Ftr:=f4 _ hM;obtain⟨le,hle⟩:∃le,N.at'[e]?=some le:=⟨_,y01 (by rw[hP.wf.len];exact hen)⟩
 obtain⟨ae,ha1,ha2⟩:=z41 g10 hle;have hnl:(z09 le).length=le.length:=by unfold z09;rw[y04]
 refine⟨_,(z02 (z0d 4 sc_Pour_skip_dead_ties.nd (z0k z0j (z1k F.ties_at (cv 0)) (cv 1) (λ_ _=>rfl)))
   (z07 (z49 (z9m (z0w z84 (z0k z0j (cv 3) (cv 1) (λ_ _=>rfl)) (z43 z25 B.len y19 (z00 (cv 4) z03)) (z0p _)) (z6u (z3x (z2r (z2d bp (hr.mono (by decide)) (cv 0) (z00 (cv 1) (z00 (z0k z0j (cv 4) (z0k z0j (cv 3) (cv 1) (λ_ _=>rfl)) (λ_ _=>rfl)) (z00 (cv 2) z03)))))))).pt
   (z07 (z5m (cv 3) (cv 1) z7y z06 zct z4t))))),?_⟩
 refine rd (σ':=[some (.ref me),some (.int (e:Int)),some (.ref ast),some (.ref atr),none]) rfl ?_;walk_at "r";refine⟨_,_,_,f1 _ _ g1,g6,_,_,.inl (SqL.of (f1 _ _ g9)),z24 ha1,?_⟩;refine⟨λm σ H'=>∃(aH:List Int) (t:Nat),σ = [some (.ref me),some (.int (e:Int)),some (.ref ast),some (.ref atr),some (.ref ae)]/\Frz [atr] H H'/\H' atr=some (.lst (aH.map V.int))/\PM.Walk N ap aj aa g aH es way/\PM.pot N.at' aH≤PM.pot N.at' aB/\(∀b,PM.Exh N aj aB b->PM.Exh N aj aH b)/\aH[e]?=some (t:Int)/\t≤le.length/\m=le.length - t,?_,?_⟩
 ·have hl:=W0.tr.len;obtain⟨z,hz⟩:∃z,aB[e]?=some z:=⟨_,y01 (by lia)⟩
  obtain⟨z0,z1⟩:=W0.tr.ok e le z hle hz;obtain⟨t,rfl⟩:=y1p z0;exact⟨_,aB,t,rfl,λb o _ h=>h,htr,W0,y0b _,λb h=>h,hz,by lia,rfl⟩
 ·rintro m σ H' ⟨aH,t,rfl,fz,h1,W,hp,hx,ht,htl,rfl⟩;have sF':=Same.frz f1 fz (λx hx=>by rw[y09.mp hx];exact Ftr)
  have hP':=hP.frz fz (λx hx=>by rw[y09.mp hx];exact hM)
  have hst':=fz _ _ (by simpa using hne) hst
  walk_at "r";refine⟨_,_,.inl (SqL.of h1),z3a ht,_,.inl (SqL.of (sF' _ _ ha2)),?_⟩;rw[hnl];walk_at "r";refine z4d (λc=>?_) (λc=>z91 ?_)
  ·have c':t<le.length:=by have:=of_decide_eq_true c;lia
   have hk:le[t]?=some le[t]:=y01 c';obtain⟨b,hb⟩:=zla hP.wf hle (y02 hk);refine⟨_,_,sF' _ _ g1,g11 _ (by decide),_,_,.inl (SqL.of h1),z3a ht,_,_,.inl (SqL.of (sF' _ _ ha2)),z24 (zhk hk),?_⟩
   refine⟨me,N,aS,aP,ap,aj,M,ast,aa,e,le[t],b,rfl,hP',hst',hsl,hb,?_⟩;walk_at "r";refine z4d (λcl=>?_) (λcl=>?_)
   ·have nl:∀b',¬PM.Leads N ap aa e le[t] b':=λb' L=>by
     have:=hb.uniq hP.wf L.1;subst this;rw[(zbw hP.wf hb hP.ls).mpr L] at cl;cases cl
    refine⟨_,_,h1,by lia,z5r ht,_,e,h1,z3g (by rw[y04];exact(y00.mp ht).1),?_⟩
    refine⟨le.length - (t+1),by lia,aH.set e ((t:Int)+1),t+1,rfl,?_,?_,W.skip hes hle ht hk nl,?_,λb' h=>(hx b' h).keep hle ht (by lia),?_,by lia,rfl⟩
    ·exact fz.trans (Frz.upd (by simp))
    ·rw[z01,y2l]
    ·have:=PM.pot_step hle ht c';lia
    ·rw[y0v (y00.mp ht).1];rfl
   ·refine q aH H' fz h1 W hp hx ⟨le,t,hle,ht,htl,λk' b' hk' tie'=>?_⟩;rw[hk] at hk';cases hk';have:=hb.uniq hP.wf tie';subst this;simpa using cl
  ·have c':¬t<le.length:=λz=>c (decide_eq_true (by lia))
   refine q aH H' fz h1 W hp hx ⟨le,t,hle,ht,htl,λk' b' hk' tie'=>?_⟩;rw[y0u (by lia)] at hk'
   cases hk'
noncomputable abbrev z1t:Stmt:=z36 (top 8) 8
theorem sc_Pour_way_from:FnScope ["self","give","steps","tried","way","ends","end","tie"] ["self","give","steps","tried"] (z05 z1t):=⟨rfl,rfl,rfl,by decide +kernel,rfl,by decide +kernel,by decide +kernel⟩
theorem z7m (T:MTop K ay "way_from" "Pour.way_from" z1t ["self","give","steps","tried"])(B:Blt mg)(BS:mg "set"=none)(F:FldsPour K ay)(aJ:MDef P w K mg base ay "has_room" 1 ["self","ends"] (ze3 K ay))(aW:MDef P w K mg base ay "skip_dead_ties" 3 ["self","end","steps","tried"] (zlj K ay))(aK:MDef P w K mg base ay "far_end" 1 ["self","end","tie"] (zk4 K ay)):MDef P w K mg base ay "way_from" 4 ["self","give","steps","tried"] (zoe K ay):=by
 refine z38 (k:=3) T sc_Pour_way_from (λvs H Q E h=>?_) (λf cdv A outer s H vs Q E hr h=>?_)
 ·obtain⟨me,N,aS,aP,ap,aj,M,ast,atr,aa,aB,g,rfl,_⟩:=h;rfl
 obtain⟨me,N,aS,aP,ap,aj,M,ast,atr,aa,aB,g,rfl,hP,hM,hne,hst,hsl,htr,hg0,hgG,T0,D0,q⟩:=h;obtain⟨G0,f1,f2,f3,f4,fx⟩:=hP.ok;obtain⟨dx,fs,aT,aA,ts,rs,g1,g2,g3,g4,g5,g6,g7,g8,g9,g10,g11⟩:=fx.get;have Ftr:=f4 _ hM;have hsm:=hP.sm
 obtain⟨Bn,hBn⟩:=PM.lv_top aa;refine⟨_,(z02 (z0d 4 sc_Pour_way_from.nd (z1b z03))
   (z02 (z0d 5 sc_Pour_way_from.nd (z1b (z00 (cv 1) z03)))
   (z02 (z49 (z9m (z0w z71 (z43 z25 B.len y19 (z00 (cv 5) z03)) z06 (z0p _)) (z6u (z3x (z2r (z2d aJ (hr.mono (by decide)) (cv 0) (z00 (z1b (z00 (z0k z0j (cv 5) (zcs z8i z06) (λ_ _=>rfl)) z03)) z03)))))).pt
   (z02 (z0d 6 sc_Pour_way_from.nd (z0k z0j (cv 5) (zcs z8i z06) (λ_ _=>rfl)))
    (z02 (z1z (z2d aW (hr.mono (by decide)) (cv 0) (z00 (cv 6) (z00 (cv 2) (z00 (cv 3) z03)))))
    (z07 (z3d (z0w z84 (z0k z0j (cv 3) (cv 6) (λ_ _=>rfl)) (z43 z25 B.len y19 (z00 (z0k z0j (z1k F.ties_at (cv 0)) (cv 6) (λ_ _=>rfl)) z03)) (z0p _))
    (z02 (z0d 7 sc_Pour_way_from.nd (z0k z0j (z0k z0j (z1k F.ties_at (cv 0)) (cv 6) (λ_ _=>rfl)) (z0k z0j (cv 3) (cv 6) (λ_ _=>rfl)) (λ_ _=>rfl)))
     (z02 (z1z (z0z (cv 4) (z00 (cv 7) z03)))
     (z07 (z1z (z0z (cv 5) (z00 (z2d aK (hr.mono (by decide)) (cv 0) (z00 (cv 6) (z00 (cv 7) z03))) z03))))))
    (z02 (z1z (z8k (cv 5)))
     (z07 (z3d (z0w z71 (z43 z25 B.len y19 (z00 (cv 5) z03)) z06 (z0p _))
     (z02 (z1z (z8k (cv 4)))
      (z07 (z5m (cv 3) (z0k z0j (cv 5) (zcs z8i z06) (λ_ _=>rfl)) z7y z06 zct z4t)))
     z1d))))))))
   (z07 (z0m (cv 4)))))),?_⟩
 refine rd (σ':=[some (.ref me),some (.int (g:Int)),some (.ref ast),some (.ref atr),none,none,none,none]) rfl ?_;walk_at "r";refine⟨sz (by show 0≤1000;decide),λlw hlw=>⟨sz (by show 1≤1000;decide),λle hle=>?_⟩⟩
 have s1:=z04 hlw (.lst []);have s2:=z04 hle (.lst [.int (g:Int)])
 have hleH:H le=none:=s1.free hle;have hlwe:le≠lw:=λz=>by
  subst z;rw[z01] at hle;cases hle
 have nwr:lw≠atr:=λz=>(z08 htr hlw) z.symm;have ner:le≠atr:=λz=>(z08 htr hleH) z.symm
 refine⟨λm σ H'=>∃(aH:List Int) (es way:List Nat) (t6 t7:Option V),σ = [some (.ref me),some (.int (g:Int)),some (.ref ast),some (.ref atr),some (.ref lw),some (.ref le),t6,t7]/\Frz [atr] H H'/\H' atr=some (.lst (aH.map V.int))/\H' lw=some (.lst (z09 way))/\H' le=some (.lst (z09 es))/\PM.Walk N ap aj aa g aH es way/\(∀b,PM.Exh N aj aB b->PM.Exh N aj aH b)/\m=PM.wm Bn N.at' aH es,
  ⟨_,aB,[g],[],_,_,rfl,Frz.of (s1.trans s2),(s1.trans s2) _ _ htr,s2 _ _ z01,z01,⟨T0,D0,λ_=>⟨⟨rfl,λi k hk=>by simp at hk⟩,rfl⟩,λz=>by simp at z,λi k e hk=>by simp at hk⟩,λb h=>h,rfl⟩,?_⟩
 rintro m σ H' ⟨aH,es,way,t6,t7,rfl,fz,h1,h2,h3,W,hx,rfl⟩;have mono:∀H'',Frz [atr] H H''->Same G0 H''/\PourAt K ay H'' me N aS aP ap aj M/\H'' ast=some (.lst (aa.map V.int)):=λH'' fz=>⟨Same.frz f1 fz (λx hx=>by rw[y09.mp hx];exact Ftr),hP.frz fz (λx hx=>by rw[y09.mp hx];exact hM),fz _ _ (by simpa using hne) hst⟩
 obtain⟨sF',hP',hst'⟩:=mono H' fz;have hshort:=W.short hg0 hBn;have esl:es.length≤1000:=by
  by_cases z:es = []
  ·subst z;simp
  ·obtain⟨Pt,h0⟩:=W.path z;have nd:es.Nodup:=by
    refine y2b.mpr λi j hi hj hij he=>?_;have hi':es[i]?=some es[i]:=y01 hi;have hj':es[j]?=some es[i]:=by rw[he];exact y01 hj
    have:=Pt.inj h0 hi' hj';lia
   have sub:∀x∈es,x<N.nE:=λx hx=>by
    obtain⟨i,hi⟩:=y08 hx;have:=Pt.lev h0 hi;rw[←hsl];exact zat (by lia)
   have:=ze0 nd sub;lia
 walk_at "r";refine⟨_,.inl (SqL.of h3),?_⟩;rw[z47];walk_at "r";refine z4d (λc=>?_) (λc=>z91 ?_)
 ·have hes:es ≠ []:=by
   rintro rfl;simp at c
  obtain⟨Pt,h0⟩:=W.path hes;obtain⟨e,hel⟩:∃e,es.getLast?=some e:=⟨_,y1y hes⟩;have pl:=Pt.len;have hlast:es[way.length]?=some e:=by
   rw[y1e] at hel;rw[show es.length - 1=way.length by lia] at hel
   exact hel
  have hlev:=Pt.lev h0 hlast;have hen:e<N.nE:=by
   rw[←hsl];exact zat (by lia)
  refine⟨_,_,sF' _ _ g1,g11 _ (by decide),_,_,.inl (SqL.of h3),z7q (z72 hel),sz (by show 1≤1000;decide),λp hp=>?_⟩
  have s3:=z04 hp (.lst [.int (e:Int)]);refine⟨me,N,aS,aP,ap,aj,M,p,[e],rfl,hP'.same s3,z01,by show 1≤1000;decide,λx hx=>by rw[y09.mp hx];exact hen,λH4 s4=>?_⟩
  have s34:=s3.trans s4;have fz4:=fz.trans (Frz.of s34)
  obtain⟨sF4,hP4,hst4⟩:=mono H4 fz4;have hany:[e].any (z5o N aj)=z5o N aj e:=by simp
  rw[hany];walk_at "r";refine z4d (λcr=>?_) (λcr=>?_)
  ·have nor:¬PM.Room N aj e:=λhR=>by
    rw[(z45 (by rw[hP.lp];exact hen)).mpr hR] at cr
    cases cr
   refine⟨_,_,.inl (SqL.of (s34 _ _ h3)),z7q (z72 hel),_,_,sF4 _ _ g1,g11 _ (by decide),?_⟩
   refine⟨me,N,aS,aP,ap,aj,M,ast,atr,aa,aH,e,g,es,way,rfl,hP4,hM,hne,hst4,hsl,s34 _ _ h1,W,hel,hen,λbI H5 fz5 k1 W2 hpot hx2 hlt=>?_⟩;obtain⟨l,t,hl,ht,htl,hlead⟩:=hlt;have fz5':=fz4.trans fz5;obtain⟨sF5,hP5,hst5⟩:=mono H5 fz5';have h2':H5 lw=some (.lst (z09 way)):=fz5 _ _ (by simpa using nwr) (s34 _ _ h2)
   have h3':H5 le=some (.lst (z09 es)):=fz5 _ _ (by simpa using ner) (s34 _ _ h3)
   have hx':∀b,PM.Exh N aj aB b->PM.Exh N aj bI b:=λb h=>hx2 b (hx b h);obtain⟨ae,ha1,ha2⟩:=z41 g10 hl;walk_at "r";refine⟨_,_,.inl (SqL.of k1),z3a ht,_,_,_,sF5 _ _ g1,g6,_,_,.inl (SqL.of (sF5 _ _ g9)),z24 ha1,?_⟩;walk_at "r";refine⟨_,.inl (SqL.of (sF5 _ _ ha2)),?_⟩;rw[z47];refine z4d (λct=>?_) (λct=>?_)
   ·have ct':t<l.length:=by have:=of_decide_eq_true ct;lia
    have hk:l[t]?=some l[t]:=y01 ct';obtain⟨b,hb⟩:=zla hP.wf hl (y02 hk);have L:=(zbw hP.wf hb hP.ls).mp (hlead _ b hk hb)
    have W3:=W2.push hel hl ht hk L nor;have hsh:=W3.short hg0 hBn
    rw[y0e,y4g] at hsh;refine⟨_,_,_,sF5 _ _ g1,g6,_,_,.inl (SqL.of (sF5 _ _ g9)),z24 ha1,_,_,.inl (SqL.of k1),z3a ht,?_⟩;walk_at "r";refine⟨_,_,.inl (SqL.of (sF5 _ _ ha2)),z24 (zhk hk),?_⟩;walk_at "r";have wl:way.length<1000:=by lia
    refine⟨⟨_,h2'⟩,_,h2',z0i (by rw[z47];lia),?_⟩
    rw[ze9];have fz6:Frz [atr] H (upd H5 lw (.lst (z09 (way ++ [l[t]])))):=fz5'.new hlw;obtain⟨sF6,hP6,hst6⟩:=mono _ fz6;have h3'':upd H5 lw (.lst (z09 (way ++ [l[t]]))) le=some (.lst (z09 es)):=by rw[z0a hlwe];exact h3'
    refine⟨⟨_,h3''⟩,_,_,sF6 _ _ g1,g11 _ (by decide),me,N,aS,aP,ap,aj,M,e,l[t],b,rfl,hP6,hb,?_⟩
    walk_at "r";refine⟨_,h3'',z0i (by rw[z47];lia),?_⟩
    rw[ze9];refine⟨_,?_,bI,es ++ [b],way ++ [l[t]],_,_,rfl,fz6.new hleH,?_,?_,z01,W3,hx',rfl⟩
    ·unfold PM.wm;rw[if_neg (by simp),if_neg hes,y0e,y4g]
     have:=y3t (Bn+3) hpot;lia
    ·rw[z0a (Ne.symm ner),z0a (Ne.symm nwr)];exact k1
    ·rw[z0a (Ne.symm hlwe),z01]
   ·have ct':t=l.length:=by
     have:¬t<l.length:=λz=>ct (decide_eq_true (by lia))
     lia
    rw[ct'] at ht;have h3l:(z09 es)[(z09 es).length - 1]?=some (.int (e:Int)):=by
     have:=z72 hel;rw[y1e] at this;exact this
    refine⟨_,_,h3',h3l,?_⟩;rw[zfv];have fz6:Frz [atr] H (upd H5 le (.lst (z09 es.dropLast))):=fz5'.new hleH;have k1':upd H5 le (.lst (z09 es.dropLast)) atr=some (.lst (bI.map V.int)):=by rw[z0a (Ne.symm ner)];exact k1
    have k2':upd H5 le (.lst (z09 es.dropLast)) lw=some (.lst (z09 way)):=by rw[z0a (Ne.symm hlwe)];exact h2'
    walk_at "r";refine⟨_,.inl (SqL.of z01),?_⟩;rw[z47];refine z4d (λcd=>?_) (λcd=>?_)
    ·have hd:es.dropLast ≠ []:=by
      intro z;rw[z] at cd;simp at cd
     obtain⟨f,hf⟩:∃f,es.dropLast.getLast?=some f:=⟨_,y1y hd⟩;obtain⟨t2,l2,j1,j2,j3,W3⟩:=W2.pop hP.wf hel hf hl ht nor;have dl:es.dropLast.length=es.length - 1:=y67;have hdl:=y0x.mpr hd
     have hway:way ≠ []:=by
      intro z;rw[z] at pl;simp at pl;lia
     obtain⟨kw,hkw⟩:∃kw,way.getLast?=some kw:=⟨_,y1y hway⟩;have h2l:(z09 way)[(z09 way).length - 1]?=some (.int (kw:Int)):=by
      have:=z72 hkw;rw[y1e] at this;exact this
     refine⟨_,_,k2',h2l,?_⟩;rw[zfv];have k3:upd (upd H5 le (.lst (z09 es.dropLast))) lw (.lst (z09 way.dropLast)) le=some (.lst (z09 es.dropLast)):=by rw[z0a hlwe,z01]
     have k4:upd (upd H5 le (.lst (z09 es.dropLast))) lw (.lst (z09 way.dropLast)) atr=some (.lst (bI.map V.int)):=by rw[z0a (Ne.symm nwr)];exact k1'
     refine⟨_,_,.inl (SqL.of k3),z7q (z72 hf),?_⟩;walk_at "r";refine⟨_,_,k4,by lia,z5r j2,_,f,k4,z3g (by rw[y04];exact(y00.mp j2).1),?_⟩
     refine⟨_,?_,bI.set f ((t2:Int)+1),es.dropLast,way.dropLast,_,_,rfl,(fz6.new hlw).trans (Frz.upd (by simp)),by rw[z01,y2l],?_,?_,W3,λb h=>(hx' b h).keep j1 j2 (by lia),rfl⟩
     ·unfold PM.wm;rw[if_neg hd,if_neg hes,dl];have p1:=PM.pot_step j1 j2 j3;have p2:(PM.pot N.at' (bI.set f ((t2:Int)+1))+1)*(Bn+3)≤PM.pot N.at' aH*(Bn+3):=y3t _ (by lia)
      rw[y7k] at p2;lia
     ·rw[z0a nwr,z01]
     ·rw[z0a ner];exact k3
    ·have hd:es.dropLast = []:=by
      rcases y21 es.dropLast.length with z | z
      ·exact y1j.mp z
      ·exact absurd (decide_eq_true (by lia)) cd
     obtain⟨wn,W3⟩:=W2.fin hel hd hl ht nor;subst wn;refine⟨_,?_,bI,[],[],_,_,rfl,fz6,k1',k2',by rw[z01,hd],W3,hx',rfl⟩
     unfold PM.wm;rw[if_pos rfl,if_neg hes];lia
  ·have cr':z5o N aj e=true:=by simpa using cr
   have hR:=(z45 (by rw[hP.lp];exact hen)).mp cr'
   have hwne:way ≠ []:=by
    rintro rfl;have e1:es[0]?=some e:=hlast;rw[h0] at e1;cases e1;have:=hR.1
    lia
   exact q lw way aH H4 fz4 (s34 _ _ h1) hlw (s34 _ _ h2) W.tr W.dead hx (.inr ⟨hwne,es,e,Pt,h0,hlast,hR⟩) (by lia)
 ·have hes:es = []:=by
   rcases y21 es.length with z | z
   ·exact y1j.mp z
   ·exact absurd (decide_eq_true (by lia)) c
  obtain⟨wn,ex⟩:=W.none hes;exact q lw way aH H' fz h1 hlw h2 W.tr W.dead hx (.inl ⟨wn,ex⟩) (by rw[wn];decide)
noncomputable abbrev z1e:Stmt:=z36 (top 8) 11
theorem sc_Pour_send_along:FnScope ["self","give","way","take","amount","tie"] ["self","give","way"] (z05 z1e):=⟨rfl,rfl,rfl,by decide +kernel,rfl,by decide +kernel,by decide +kernel⟩
theorem z65 (T:MTop K ay "send_along" "Pour.send_along" z1e ["self","give","way"])(B:Blt mg)(BS:mg "set"=none)(F:FldsPour K ay) :MDef P w K mg base ay "send_along" 1 ["self","give","way"] (zlm K ay):=by
 refine z38 (k:=0) T sc_Pour_send_along (λvs H Q E h=>?_) (λf cdv A outer s H vs Q E hr h=>?_)
 ·obtain⟨me,N,aS,aP,ap,aj,M,lw,cap,aa,g,f',es,way,rfl,_⟩:=h;rfl
 obtain⟨me,N,aS,aP,ap,aj,M,lw,cap,aa,g,f',es,way,rfl,hP,hM,hlw,hwl,hwn,hF,Pt,h0,h1,hR,hg,hsg,q⟩:=h;obtain⟨G0,f1,f2,f3,f4,fx⟩:=hP.ok;obtain⟨dx,fs,aT,aA,ts,rs,g1,g2,g3,g4,g5,g6,g7,g8,g9,g10,g11⟩:=fx.get;have hgle:=hP.wf.gle;have hlp:=hP.lp
 have hls:=hP.ls;obtain⟨hfG,y,hy,hy0⟩:=hR;have hfl:f'<aj.length:=(y00.mp hy).1
 have hgl:g<aj.length:=by lia
 have hyD:aj.getD f' 0=y:=by simp[y1l,hy]
 obtain⟨kl,hkl⟩:∃k,way.getLast?=some k:=⟨_,y1y hwn⟩;have hkl':way[way.length - 1]?=some kl:=by rw[y1e] at hkl;exact hkl
 have hwp:=y0x.mpr hwn;obtain⟨a0,b0,ea,eb,tie,_,_⟩:=Pt.link _ kl hkl';rw[show way.length - 1+1=way.length by lia,h1] at eb
 cases eb;obtain⟨pe,hpe,hpq⟩:=tie;have hlo:=hP.wf.lo kl pe hpe;have hpf:pe.2=f':=by rcases hpq with ⟨_,z⟩ | ⟨_,z⟩<;>lia
 obtain⟨at1,ht1,ht2⟩:=zkq g8 hpe;refine⟨_,(z02 (z0d 3 sc_Pour_send_along.nd (z0k z0j (z0k z0j (z1k F.tie_ends (cv 0)) (z0k z0j (cv 2) (zcs z8i z06) (λ_ _=>rfl)) (λ_ _=>rfl)) z06 (λ_ _=>rfl)))
   (z02 (z0d 4 sc_Pour_send_along.nd (z43 zos B.min zl6 (z00 (z0n z3b (z1b (z00 (z0k z0j (z1k F.aj (cv 0)) (cv 1) (λ_ _=>rfl)) (z00 (z0k z0j (z1k F.aj (cv 0)) (cv 3) (λ_ _=>rfl)) z03))) (z3s (N:=["tie","self"]) (fr:=[0]) 1 (z1o (zcw (cv 2) (z2o z06) z5x (z2o z06))) (λC hN=>by exact pgC ((z0b 0 hN)) (by walk_at "c")) (λC hN=>by exact peC ((z0k z0j (z1k F.ap (cv 1)) (cv 0) (λ_ _=>rfl))) (by walk_at "c")))) z03)))
   (z02 (z1u (z1o (zcw (cv 2) (z2o z06) z5x (z2o z06))) (z0b 5 sc_Pour_send_along.nd)
   (z07 (z5m (z1k F.ap (cv 0)) (cv 5) z7y (cv 4) zct z4t)))
   (z02 (z1u (z1o (zcw (cv 2) (z2o z06) z5x (z2o z06))) (z0b 5 sc_Pour_send_along.nd)
   (z07 (z5m (z1k F.ap (cv 0)) (cv 5) z7y (cv 4) z9z z4t)))
   (z02 (z5m (z1k F.aj (cv 0)) (cv 1) z7y (cv 4) z9z z4t)
   (z07 (z5m (z1k F.aj (cv 0)) (cv 3) z7y (cv 4) z9z z4t))))))),?_⟩
 refine rd (σ':=[some (.ref me),some (.int (g:Int)),some (.ref lw),none,none,none]) rfl ?_;walk_at "r";refine⟨_,_,_,f1 _ _ g1,g3,_,_,.inl (SqL.of hlw),z7q (z72 hkl),?_⟩;walk_at "r";refine⟨_,_,.inl (SqL.of (f1 _ _ g7)),z24 ht1,?_⟩;walk_at "r";refine⟨_,_,.inr (SqT.of (f1 _ _ ht2)),rfl,?_⟩;rw[hpf];refine⟨_,_,_,f1 _ _ g1,g5,_,_,.inl (SqL.of hP.sp),z3a (z19 hgl),?_⟩;walk_at "r";refine⟨_,_,_,f1 _ _ g1,g5,_,_,.inl (SqL.of hP.sp),z3a hy,sz (by show 2≤1000;decide),λl1 hl1=>?_⟩
 have s1:=z04 hl1 (.lst [.int (aj.getD g 0),.int y]);refine⟨_,SqL.of (s1 _ _ hlw),by decide,λl2 hl2=>?_⟩
 rw[zdp,zaw];have s2:=z04 hl2 (.lst (z09 (PM.alt false way)));refine .inl ⟨⟨_,SqL.of z01⟩,cgo (σ':=[none,some (.ref me)]) rfl ?_⟩;have kin:∀{b:Bool} {k:Nat},k∈PM.alt b way->k<ap.length:=λh=>by rw[hls];exact Pt.lt (PM.alt_mem h)
 have lao:=zdy false way;have lae:=zdy true way
 have nS:∀{l:Addr},H l=none->l≠aS:=λh z=>(z08 hP.st h) z.symm;have nP:∀{l:Addr},H l=none->l≠aP:=λh z=>(z08 hP.sp h) z.symm
 refine z1r (xs:=z09 (PM.alt false way)) (λi ys H'=>H'=upd (upd H l1 (.lst [.int (aj.getD g 0),.int y])) l2 (.lst (z09 (PM.alt false way)))/\ys=(((PM.alt false way).take i).map λk=>ap.getD k 0).map V.int) ⟨rfl,rfl⟩ (z0i (by rw[z47];lia)) ?_ ?_ ?_
 ·rintro i ys H' _ ⟨rfl,rfl⟩;refine⟨SqL.of z01,?_⟩;rw[y04,y04,y0t];lia
 ·rintro i x ys H' hx ⟨rfl,rfl⟩;obtain⟨k,hk,rfl⟩:=z2q hx;have hkl2:=kin (y02 hk);walk_at "r";refine z7r ⟨_,_,_,(s1.trans s2) _ _ (f1 _ _ g1),g4,_,_,.inl (SqL.of ((s1.trans s2) _ _ hP.st)),z3a (z19 hkl2),?_⟩;refine CNx.mk ⟨rfl,?_⟩ (y00.mp hx).1;rw[z0h hk,y0g,y0g];rfl
 rintro ys H' ⟨rfl,rfl⟩ l3 hl3;rw[z47,y0c (y0b _)];have s3:=z04 hl3 (.lst (((PM.alt false way).map λk=>ap.getD k 0).map V.int));have s13:=s1.trans (s2.trans s3)
 refine⟨_,_,(s2.trans s3) _ _ z01,z01,szz (by rw[y04,y04];show 2+_≤1000000;lia),λl4 hl4=>?_⟩
 have s4:=z04 hl4 (.lst ([.int (aj.getD g 0),.int y]++((PM.alt false way).map λk=>ap.getD k 0).map V.int));have s14:=s13.trans s4
 refine⟨aj.getD g 0::y::((PM.alt false way).map λk=>ap.getD k 0),SqL.of z01,by simp,λa ha hmin=>?_⟩
 have a1:a≤aj.getD g 0:=hmin _ y0d;have a2:a≤y:=hmin _ (y0a _ y0d)
 have a3:∀k∈PM.alt false way,∀s,ap[k]?=some s->a≤s:=λk hk s hs=>by
  have:=hmin (ap.getD k 0) (y0a _ (y0a _ (y1i.mpr ⟨k,hk,rfl⟩)));rw[show ap.getD k 0=s by simp[y1l,hs]] at this
  exact this
 have a0:0<a:=by
  rcases y0k.mp ha with rfl | ha
  ·exact hsg
  ·rcases y0k.mp ha with rfl | ha
   ·exact hy0
   ·obtain⟨k,hk,rfl⟩:=y1i.mp ha;obtain⟨s,hs,hs0⟩:=Pt.back hP.wf h0 hg hk;rw[show ap.getD k 0=s by simp[y1l,hs]]
    exact hs0
 refine⟨_,SqL.of (s14 _ _ hlw),by decide,λl5 hl5=>?_⟩
 rw[ziq,zaw];have s5:=z04 hl5 (.lst (z09 (PM.alt true way)));have s15:=s14.trans s5
 have hl5H:H l5=none:=s14.free hl5;refine .inl ⟨⟨_,SqL.of z01⟩,?_⟩;have hfirst:∀{o:HO},o = .lst (z09 (PM.alt true way))->upd (upd (upd (upd (upd H l1 (.lst [.int (aj.getD g 0),.int y])) l2 (.lst (z09 (PM.alt false way)))) l3 (.lst (((PM.alt false way).map λk=>ap.getD k 0).map V.int))) l4 (.lst ([.int (aj.getD g 0),.int y]++((PM.alt false way).map λk=>ap.getD k 0).map V.int))) l5 (.lst (z09 (PM.alt true way))) l5=some o:=λh=>by rw[h];exact z01
 have hS5:=s15 _ _ hP.st;have hP5:=s15 _ _ hP.sp
 have hL5:=hfirst rfl;have fz5:Frz [aS,aP] H _:=Frz.of s15
 clear hfirst s1 s2 s3 s4 s5 s13 s14;generalize upd (upd (upd (upd (upd H l1 (.lst [.int (aj.getD g 0),.int y])) l2 (.lst (z09 (PM.alt false way)))) l3 (.lst (((PM.alt false way).map λk=>ap.getD k 0).map V.int))) l4 (.lst ([.int (aj.getD g 0),.int y]++((PM.alt false way).map λk=>ap.getD k 0).map V.int))) l5 (.lst (z09 (PM.alt true way)))=H5 at s15 hS5 hP5 hL5 fz5 ⊢
 have stat:∀H',Frz [aS,aP] H H'->Same G0 H':=λH' fz=>Same.frz f1 fz λx hx=>by
  simp only[y0k,y15,or_false] at hx;rcases hx with rfl | rfl
  ·exact f2
  ·exact f3
 have hlwS:=hP.mu _ hM;refine z2t (xs:=z09 (PM.alt true way)) (λi σ H'=>∃t,σ = [some (.ref me),some (.int (g:Int)),some (.ref lw),some (.int (f':Int)),some (.int a),t]/\Frz [aS,aP] H H'/\H' aS=some (.lst ((PM.addAll a ap ((PM.alt true way).take i)).map V.int))/\H' aP=some (.lst (aj.map V.int))/\H' l5=some (.lst (z09 (PM.alt true way)))) ⟨_,rfl,fz5,hS5,hP5,hL5⟩ ?_ ?_ ?_
 ·rintro i σ H' _ ⟨t,rfl,fz,k1,k2,k3⟩;exact SqL.of k3
 ·rintro i x σ H' hx ⟨t,rfl,fz,k1,k2,k3⟩;obtain⟨k,hk,rfl⟩:=z2q hx;have hkn:k<(PM.addAll a ap ((PM.alt true way).take i)).length:=by rw[PM.addAll_len];exact kin (y02 hk)
  walk_at "r";refine⟨_,_,_,stat H' fz _ _ g1,g4,_,_,k1,by lia,z5r (z19 hkn),?_⟩
  walk_at "r";refine⟨_,k,k1,z3g (by rw[y04];exact hkn),_,rfl,fz.trans (Frz.upd (by simp)),?_,?_,?_⟩
  ·rw[z01,z0h hk,z8p,y2l]
  ·rw[z0a hP.ne.symm];exact k2
  ·rw[z0a (nS hl5H)];exact k3
 rintro σ H' ⟨t,rfl,fz,k1,k2,k3⟩;rw[z47,y0c (y0b _)] at k1;walk_at "r";have hlw':H' lw=some (.lst (z09 way)):=fz _ _ (by simp only[y0k,y15,or_false];exact λz=>z.elim hlwS.1 hlwS.2) hlw
 refine⟨_,SqL.of hlw',by decide,λl6 hl6=>?_⟩
 rw[zdp,zaw];have s6:=z04 hl6 (.lst (z09 (PM.alt false way)));have n6S:l6≠aS:=λz=>(z08 k1 hl6) z.symm
 refine .inl ⟨⟨_,SqL.of z01⟩,?_⟩;refine z2t (xs:=z09 (PM.alt false way)) (λi σ H'=>∃t,σ = [some (.ref me),some (.int (g:Int)),some (.ref lw),some (.int (f':Int)),some (.int a),t]/\Frz [aS,aP] H H'/\H' aS=some (.lst ((PM.addAll (-a) (PM.addAll a ap (PM.alt true way)) ((PM.alt false way).take i)).map V.int))/\H' aP=some (.lst (aj.map V.int))/\H' l6=some (.lst (z09 (PM.alt false way)))) ⟨_,rfl,fz.trans (Frz.of s6),s6 _ _ k1,s6 _ _ k2,z01⟩ ?_ ?_ ?_
 ·rintro i σ H' _ ⟨t,rfl,fz,k1,k2,k3⟩;exact SqL.of k3
 ·clear k1 k2 k3 fz hlw' s6 hl6;rintro i x σ H' hx ⟨t,rfl,fz,k1,k2,k3⟩;obtain⟨k,hk,rfl⟩:=z2q hx;have hkn:k<(PM.addAll (-a) (PM.addAll a ap (PM.alt true way)) ((PM.alt false way).take i)).length:=by rw[PM.addAll_len,PM.addAll_len];exact kin (y02 hk)
  walk_at "r";refine⟨_,_,_,stat H' fz _ _ g1,g4,_,_,k1,by lia,z5r (z19 hkn),?_⟩
  walk_at "r";refine⟨_,k,k1,z3g (by rw[y04];exact hkn),_,rfl,fz.trans (Frz.upd (by simp)),?_,?_,?_⟩
  ·rw[z01,z0h hk,z8p,y2l,Int.sub_eq_add_neg]
  ·rw[z0a hP.ne.symm];exact k2
  ·rw[z0a n6S];exact k3
 clear k1 k2 k3 fz hlw' s6 hl6;rintro σ H' ⟨t,rfl,fz,k1,k2,k3⟩;rw[z47,y0c (y0b _)] at k1;walk_at "r";refine⟨_,_,_,stat H' fz _ _ g1,g5,_,_,k2,by lia,z5r (z19 hgl),?_⟩
 walk_at "r";refine⟨_,g,k2,z3g (by rw[y04];exact hgl),?_⟩
 have hset:(aj.map V.int).set g (.int (aj.getD g 0 - a))=(aj.set g (aj.getD g 0 - a)).map V.int:=by rw[y2l]
 rw[hset];have fz2:Frz [aS,aP] H (upd H' aP (.lst ((aj.set g (aj.getD g 0 - a)).map V.int))):=fz.trans (Frz.upd (by simp))
 have hgf:f'≠g:=by lia
 have hy2:(aj.set g (aj.getD g 0 - a))[f']?=some y:=by rw[PM.set_at hgf];exact hy
 refine⟨_,_,_,stat _ fz2 _ _ g1,g5,_,_,z01,by lia,z5r hy2,?_⟩
 walk_at "r";refine⟨_,f',z01,z3g (by rw[y04,y2a];exact hfl),?_⟩
 have S:=hF.ap hP.wf Pt h0 h1 hg (by lia) (z19 hgl) hy (y2e a0) a1 a2 a3
 refine q a _ _ a0 (fz2.trans (Frz.upd (by simp))) ?_ ?_ S ?_ ?_
 ·rw[z0a hP.ne,z0a hP.ne];exact k1
 ·simp only[z01,y2l]
 ·have:((aj.set g (aj.getD g 0 - a)).set f' (y - a)).getD g 0=aj.getD g 0 - a:=by
   rw[y05,PM.set_at (Ne.symm hgf),y0v hgl];rfl
  lia
 ·intro e he heg;rw[y05,PM.set_at (by lia),PM.set_at heg,←y05]
noncomputable abbrev z0y:Stmt:=z36 (top 8) 7
theorem sc_Pour_send_by_steps:FnScope ["self","steps","tried","give","way"] ["self","steps"] (z05 z0y):=⟨rfl,rfl,rfl,by decide +kernel,rfl,by decide +kernel,by decide +kernel⟩
theorem z4y (T:MTop K ay "send_by_steps" "Pour.send_by_steps" z0y ["self","steps"])(B:Blt mg)(BS:mg "set"=none)(F:FldsPour K ay)(aI:MDef P w K mg base ay "gives_with_rest" 1 ["self"] (zim K ay))(aY:MDef P w K mg base ay "way_from" 4 ["self","give","steps","tried"] (zoe K ay))(bf:MDef P w K mg base ay "send_along" 1 ["self","give","way"] (zlm K ay)):MDef P w K mg base ay "send_by_steps" 5 ["self","steps"] (zhc K ay):=by
 refine z38 (k:=4) T sc_Pour_send_by_steps (λvs H Q E h=>?_) (λf cdv A outer s H vs Q E hr h=>?_)
 ·obtain⟨me,N,aS,aP,aN,aC,M,ast,cap,aa,rfl,_⟩:=h;rfl
 obtain⟨me,N,aS,aP,aN,aC,M,ast,cap,aa,rfl,hP,hM,hst,hsl,hF,hS,q⟩:=h;obtain⟨G0,f1,f2,f3,f4,fx⟩:=hP.ok;obtain⟨dx,fs,aT,aA,ts,rs,g1,g2,g3,g4,g5,g6,g7,g8,g9,g10,g11⟩:=fx.get;have hsm:=hP.sm;have hgle:=hP.wf.gle
 have hsp:(aC.map V.int).length=N.nE:=by rw[y04];exact hP.lp
 obtain⟨na1,na2⟩:=hP.mu _ hM;refine⟨_,(z02 (z0d 2 sc_Pour_send_by_steps.nd (z0n z3c (z1b (z00 z06 z03)) (z43 z25 B.len y19 (z00 (z1k F.aj (cv 0)) z03))))
   (z07 (z1u (z1o (z6j aI (hr.mono (by decide)) (cv 0))) (z0b 3 sc_Pour_send_by_steps.nd)
   (z02 (z0d 4 sc_Pour_send_by_steps.nd (z2d aY (hr.mono (by decide)) (cv 0) (z00 (cv 3) (z00 (cv 1) (z00 (cv 2) z03)))))
    (z07 (z49 (z0w z71 (z43 z25 B.len y19 (z00 (cv 4) z03)) z06 (z0p _))
    (z02 (z1z (z2d bf (hr.mono (by decide)) (cv 0) (z00 (cv 3) (z00 (cv 4) z03))))
     (z07 (z0d 4 sc_Pour_send_by_steps.nd (zak (z0w z71 (z0k z0j (z1k F.aj (cv 0)) (cv 3) (λ_ _=>rfl)) z06 (z0p _)) (z2d aY (hr.mono (by decide)) (cv 0) (z00 (cv 3) (z00 (cv 1) (z00 (cv 2) z03)))) (z1b z03))))))))))),?_⟩
 refine rd (σ':=[some (.ref me),some (.ref ast),none,none,none]) rfl ?_;walk_at "r";refine⟨sz (by show 1≤1000;decide),λl0 hl0=>?_⟩
 have s0:=z04 hl0 (.lst [.int 0]);refine⟨_,_,_,s0 _ _ (f1 _ _ g1),g5,_,.inl (SqL.of (s0 _ _ hP.sp)),?_⟩;rw[hsp];walk_at "r";refine⟨_,z01,by lia,by lia,sz (by show 1*_≤1000;lia),λlt hlt=>?_⟩
 rw[z3y];have e0:y07 ((N.nE:Int)).toNat (V.int 0)=(y07 N.nE 0).map V.int:=by rw[y38];rfl
 rw[e0];have s1:=z04 hlt (.lst ((y07 N.nE 0).map V.int));have sA:=s0.trans s1
 have hltH:H lt=none:=s0.free hlt;have hP1:=((hP.same s0).new hlt).same s1
 have ntS:lt≠aS:=λz=>(z08 hP.st hltH) z.symm;have ntP:lt≠aP:=λz=>(z08 hP.sp hltH) z.symm
 have nta:ast≠lt:=z08 hst hltH;refine⟨_,_,sA _ _ (f1 _ _ g1),g11 _ (by decide),me,N,aS,aP,aN,aC,_,rfl,hP1,λr hr=>?_⟩
 have s2:=z04 hr (.lst (z09 (rest N aC)));have hrH:H r=none:=sA.free hr
 have nrt:r≠lt:=λz=>by
  subst z;rw[z01] at hr;cases hr
 have nrS:r≠aS:=λz=>(z08 hP.st hrH) z.symm;have nrP:r≠aP:=λz=>(z08 hP.sp hrH) z.symm
 refine .inl ⟨⟨_,SqL.of z01⟩,?_⟩;have hP2:=hP1.same s2;have ht2:upd (upd (upd H l0 (.lst [.int 0])) lt (.lst ((y07 N.nE 0).map V.int))) r (.lst (z09 (rest N aC))) lt=some (.lst ((y07 N.nE 0).map V.int)):=s2 _ _ z01
 refine z2t (xs:=z09 (rest N aC)) (λi σ H'=>∃(ap aj aB:List Int) (t3 t4:Option V),σ = [some (.ref me),some (.ref ast),some (.ref lt),t3,t4]/\PourAt K ay H' me N aS aP ap aj (lt::M)/\Frz [aS,aP] H H'/\H' lt=some (.lst (aB.map V.int))/\H' r=some (.lst (z09 (rest N aC)))/\PM.Phase N cap aa aN aC ((rest N aC).take i) ap aj aB/\(∀e,e<N.G->e ∉ (rest N aC).take i->aj.getD e 0=aC.getD e 0))
  ⟨aN,aC,_,_,_,rfl,hP2,Frz.of (sA.trans s2),ht2,z01,⟨hF,tr0 hP.wf,zqk,λe x y h1 h2=>by rw[h1] at h2;cases h2;exact y20 _,.inl ⟨rfl,rfl,λg hg=>by simp at hg⟩⟩,λe _ _=>rfl⟩ ?_ ?_ ?_
 ·rintro i σ H' _ ⟨ap,aj,aB,t3,t4,rfl,hP',fz,h1,h2,_⟩;exact SqL.of h2
 ·clear hP1 hP2 ht2 s0 s1 s2 sA hr hlt e0;rintro i x σ H' hx ⟨ap,aj,aB,t3,t4,rfl,hP',fz,h1,h2,Ph,same⟩;obtain⟨g,hg,rfl⟩:=z2q hx;have hgm:=rest_mem.mp (y02 hg);have hgl:g<aC.length:=by rw[hP.lp];lia
  have hg0:PM.Lv aa g=0:=hS.src g _ hgm.1 (z19 hgl) hgm.2;have stat:∀H'',Frz [aS,aP] H H''->Same G0 H''/\H'' ast=some (.lst (aa.map V.int)):=λH'' fz=>⟨Same.frz f1 fz λx hx=>by
   simp only[y0k,y15,or_false] at hx;rcases hx with rfl | rfl
   ·exact f2
   ·exact f3,fz _ _ (by simp only[y0k,y15,or_false];exact λz=>z.elim na1 na2) hst⟩
  have thr:∀{H1 H2:Hp},Frz [aS,aP] H H1->Frz [lt] H1 H2->Frz [aS,aP] H H2:=λa b c o hc h=>b c o (by simpa using z08 h hltH) (a c o hc h)
  walk_at "r";refine⟨_,_,(stat H' fz).1 _ _ g1,g11 _ (by decide),me,N,aS,aP,ap,aj,_,ast,lt,aa,aB,g,rfl,hP',y0d,nta,(stat H' fz).2,hsl,h1,hg0,hgm.1,Ph.tr,Ph.dead,λlw way tried1 H1 fz1 k1 k2 k3 T1 D1 ex1 hway hwl=>?_⟩
  have fz1':=thr fz fz1;have hPa:=((hP'.new k2).frz fz1 (λx hx=>by rw[y09.mp hx];simp))
  have hr1:H1 r=some (.lst (z09 (rest N aC))):=fz1 _ _ (by simpa using nrt) h2
  have sg0:aj.getD g 0=aC.getD g 0:=same g hgm.1 (zfq zfg hg);walk_at "r";refine⟨λm σ H2=>∃(ap aj aB:List Int) (way:List Nat) (lw:Addr),σ = [some (.ref me),some (.ref ast),some (.ref lt),some (.int (g:Int)),some (.ref lw)]/\PourAt K ay H2 me N aS aP ap aj (lw::lt::M)/\Frz [aS,aP] H H2/\H2 lt=some (.lst (aB.map V.int))/\H2 r=some (.lst (z09 (rest N aC)))/\H2 lw=some (.lst (z09 way))/\way.length≤1000 /\
    PM.Phase N cap aa aN aC ((rest N aC).take i) ap aj aB/\(∀e,e<N.G->e ∉ (rest N aC).take i->e≠g->aj.getD e 0=aC.getD e 0) /\
    ((way = []/\(PM.Exh N aj aB g∨aj.sum<aC.sum))∨(way ≠ []/\0<aj.getD g 0/\∃(es:List Nat) (f:Nat),PM.Path N aa ap es way/\es[0]?=some g/\es[way.length]?=some f/\PM.Room N aj f))/\m=(aj.getD g 0).toNat,
   ⟨_,ap,aj,tried1,way,lw,rfl,hPa,fz1',k1,hr1,k3,hwl,Ph.walked T1 D1 ex1,λe he hm _=>same e he hm,hway.imp (λz=>⟨z.1,.inl z.2⟩) (λz=>⟨z.1,by rw[sg0];exact hgm.2,z.2⟩),rfl⟩,?_⟩
  clear hPa fz1' hr1 sg0 k1 k2 k3 T1 D1 ex1 hway hwl fz1 Ph same h1 h2 hP' fz;rintro m σ H2 ⟨ap,aj,aB,way,lw,rfl,hP',fz,h1,h2,h3,hwl,Ph,same,hway,rfl⟩;walk_at "r";refine⟨_,.inl (SqL.of h3),?_⟩;rw[z47];refine z4d (λc=>?_) (λc=>?_)
  ·have hwn:way ≠ []:=by
    rintro rfl;simp at c
   obtain⟨_,sg,es,f',Pt,p0,p1,pR⟩:=hway.resolve_left (λz=>hwn z.1);refine⟨_,_,(stat H2 fz).1 _ _ g1,g11 _ (by decide),me,N,aS,aP,ap,aj,_,lw,cap,aa,g,f',es,way,rfl,hP',y0d,h3,hwl,hwn,Ph.flow,Pt,p0,p1,pR,hgm.1,sg,λa aG H3 a0 fz3 k1 k2 S hless oth=>?_⟩
   have fz3':=fz.trans fz3;have hP3:=hP'.but fz3 k1 k2 (PM.send_len a ap way) (by rw[S.flow.lp,Ph.flow.lp])
   have Ph3:=Ph.ap hP.wf Pt p0 hgm.1 a0 S;have nlw:=hP'.mu lw y0d
   have h1':H3 lt=some (.lst (aB.map V.int)):=fz3 _ _ (by simp only[y0k,y15,or_false];exact λz=>z.elim ntS ntP) h1
   have h2':H3 r=some (.lst (z09 (rest N aC))):=fz3 _ _ (by simp only[y0k,y15,or_false];exact λz=>z.elim nrS nrP) h2
   have hsl':aG.length=N.nE:=S.flow.lp;have sp0:0≤aG.getD g 0:=S.flow.sp g _ (z19 (by lia))
   have sum3:aG.sum<aC.sum:=by
    have:=S.sum;rcases Ph.prog with ⟨_,rfl,_⟩ | z<;>lia
   have same3:∀e,e<N.G->e ∉ (rest N aC).take i->e≠g->aG.getD e 0=aC.getD e 0:=λe he hm hne=>by rw[oth e he hne];exact same e he hm hne
   walk_at "r";refine⟨_,_,_,(stat H3 fz3').1 _ _ g1,g5,_,_,.inl (SqL.of k2),z3a (z19 (by lia)),z4d (λcs=>?_) (λcs=>?_)⟩
   ·have cs':=of_decide_eq_true cs;have hPl:=hP3.less (L:=lt::M) (λx hx=>y0a _ hx)
    refine⟨_,_,(stat H3 fz3').1 _ _ g1,g11 _ (by decide),me,N,aS,aP,_,aG,_,ast,lt,aa,aB,g,rfl,hPl,y0d,nta,(stat H3 fz3').2,hsl,h1',hg0,hgm.1,Ph3.tr,Ph3.dead,λlw2 way2 bI H4 fz4 j1 j2 j3 T2 D2 ex2 hway2 hwl2=>?_⟩
    refine⟨_,?_,_,aG,bI,way2,lw2,rfl,(hPl.new j2).frz fz4 (λx hx=>by rw[y09.mp hx];simp),thr fz3' fz4,j1,fz4 _ _ (by simpa using nrt) h2',j3,hwl2,Ph3.walked T2 D2 ex2,same3,hway2.imp (λz=>⟨z.1,.inr sum3⟩) (λz=>⟨z.1,cs',z.2⟩),rfl⟩
    lia
   ·refine⟨sz (by show 0≤1000;decide),λlw2 hlw2=>?_⟩
    have s4:=z04 hlw2 (.lst []);refine⟨_,?_,_,aG,aB,[],lw2,rfl,((hP3.less (L:=lt::M) (λx hx=>y0a _ hx)).new hlw2).same s4,fz3'.trans (Frz.of s4),s4 _ _ h1',s4 _ _ h2',z01,by decide,Ph3,same3,.inl ⟨rfl,.inr sum3⟩,rfl⟩
    lia
  ·have hwn:way = []:=by
    rcases y21 way.length with z | z
    ·exact y1j.mp z
    ·exact absurd (decide_eq_true (by lia)) c
   have ex:=(hway.resolve_right (λz=>z.1 hwn)).2;refine⟨ap,aj,aB,_,_,rfl,hP'.less (λx hx=>y0a _ hx),fz,h1,h2,?_,λe he hm=>?_⟩
   ·rw[z0h hg];exact Ph.one ex
   ·rw[z0h hg] at hm;simp only[y0y,y09,not_or] at hm;exact same e he hm.1 hm.2
 ·rintro σ H' ⟨ap,aj,aB,t3,t4,rfl,hP',fz,h1,h2,Ph,same⟩;rw[z47,y0c (y0b _)] at Ph;refine q ap aj H' fz hP'.st hP'.sp Ph.flow Ph.le λe he hR=>Ph.less hP.wf hS (λg hg=>?_) he hR;obtain⟨a1,x,a2,a3⟩:=hS.zero g hg;refine rest_mem.mpr ⟨a1,?_⟩;rw[show aC.getD g 0=x by simp[y1l,a2]]
  exact a3
noncomputable abbrev z2u:Stmt:=z36 (top 8) 12
theorem sc_Pour_fill:FnScope ["self","steps"] ["self"] (z05 z2u):=⟨rfl,rfl,rfl,by decide +kernel,rfl,by decide +kernel,by decide +kernel⟩
theorem zbc (T:MTop K ay "fill" "Pour.fill" z2u ["self"])(B:Blt mg)(BS:mg "set"=none)(aQ:MDef P w K mg base ay "steps_to_room" 3 ["self"] (zhd K ay))(aJ:MDef P w K mg base ay "has_room" 1 ["self","ends"] (ze3 K ay))(aX:MDef P w K mg base ay "send_by_steps" 5 ["self","steps"] (zhc K ay)):MDef P w K mg base ay "fill" 6 ["self"] (zl8 K ay):=by
 refine z38 (k:=5) T sc_Pour_fill (λvs H Q E h=>?_) (λf cdv A outer s H vs Q E hr h=>?_)
 ·obtain⟨me,N,aS,aP,aN,aC,M,cap,rfl,_⟩:=h;rfl
 obtain⟨me,N,aS,aP,aN,aC,M,cap,rfl,hP,hF,q⟩:=h;obtain⟨G0,f1,f2,f3,f4,fx⟩:=hP.ok;obtain⟨dx,fs,aT,aA,ts,rs,g1,g2,g3,g4,g5,g6,g7,g8,g9,g10,g11⟩:=fx.get;have hsm:=hP.sm;have hgle:=hP.wf.gle
 have stat:∀H'',Frz [aS,aP] H H''->Same G0 H'':=λH'' fz=>Same.frz f1 fz λx hx=>by
  simp only[y0k,y15,or_false] at hx;rcases hx with rfl | rfl
  ·exact f2
  ·exact f3
 refine⟨_,(z02 (z0d 1 sc_Pour_fill.nd (z6j aQ (hr.mono (by decide)) (cv 0)))
   (z02 (z49 (z2r (z2d aJ (hr.mono (by decide)) (cv 0) (z00 (z6a (N:=["end","step"]) (fr:=[]) 2 (z8o B.enumerate (cv 1)) (λC hN=>by exact pgC ((z74 (z0b 0 hN) (z0b 1 hN))) (by walk_at "c")) (λC hN=>by exact ptC ((z0w zn4 (cv 1) z06 (z0p _))) (by walk_at "c")) (λC hN=>by exact peC ((cv 0)) (by walk_at "c"))) z03)))
   (z02 (z1z (z2d aX (hr.mono (by decide)) (cv 0) (z00 (cv 1) z03)))
    (z07 (z0d 1 sc_Pour_fill.nd (z6j aQ (hr.mono (by decide)) (cv 0))))))
   (z07 (z0m (z3s (N:=["step"]) (fr:=[]) 1 (z1o (cv 1)) (λC hN=>by exact pgC ((z0b 0 hN)) (by walk_at "c")) (λC hN=>by exact peC ((z33 zn4 (cv 0) z06 (z0p _))) (by walk_at "c"))))))),?_⟩
 refine rd (σ':=[some (.ref me),none]) rfl ?_;walk_at "r";refine⟨_,_,f1 _ _ g1,g11 _ (by decide),me,N,aS,aP,aN,aC,M,rfl,hP,λl aa H1 s1 hl k1 hsl hfound=>?_⟩
 refine⟨λm σ H'=>∃(ap aj aa:List Int) (ast:Addr),σ = [some (.ref me),some (.ref ast)]/\PourAt K ay H' me N aS aP ap aj (ast::M)/\Frz [aS,aP] H H'/\H' ast=some (.lst (aa.map V.int))/\aa.length=N.nE/\PM.Flow N cap ap aj/\(∀(e:Nat) x y,aC[e]?=some x->aj[e]?=some y->y≤x)/\zo7 N ap aj aa/\m=aj.sum.toNat,
  ⟨_,aN,aC,aa,l,rfl,(hP.new hl).same s1,Frz.of s1,k1,hsl,hF,λe x y h1 h2=>by rw[h1] at h2;cases h2;exact y20 _,hfound,rfl⟩,?_⟩
 clear k1 hsl hfound hl s1;rintro m σ H' ⟨ap,aj,aa,ast,rfl,hP',fz,k1,hsl,hF',le,⟨d,row,R,hrow⟩,rfl⟩;walk_at "r";refine⟨_,_,stat H' fz _ _ g1,g11 _ (by decide),⟨_,SqL.of k1⟩,cgo (σ':=[none,none]) rfl ?_⟩
 have hml:(aa.map V.int).length=aa.length:=y04 _;refine zb3 (xs:=aa.map V.int) (λi ys H2=>Same H' H2/\ys=z09 (z97 aa i)) ⟨Same.refl _,rfl⟩ (z0i (by lia)) ?_ ?_ ?_
 ·rintro i ys H2 _ ⟨s2,rfl⟩;exact⟨SqL.of (s2 _ _ k1),by rw[z47];exact zbd _ _⟩
 ·rintro i x ys H2 p hx ⟨s2,rfl⟩ hp;have hil:i<aa.length:=by simpa using (y00.mp hx).1
  have ex:x = .int (PM.Lv aa i):=by
   rw[y06,zf5 hil] at hx;exact(y12 hx).symm
  subst ex;have s3:=z04 hp (.tup [.int (i:Int),.int (PM.Lv aa i)]);refine⟨_,_,SqT.of z01,?_⟩;walk_at "r";refine z4d (λc=>?_) (λc=>?_)
  ·refine CNx.mk ⟨s2.trans s3,?_⟩ (by lia)
   rw[z9l,if_pos (of_decide_eq_true c),ze9]
  ·refine CNx.mk ⟨s2.trans s3,?_⟩ (by lia)
   rw[z9l,if_neg (λz=>c (decide_eq_true z)),y2s]
 rintro ys H2 ⟨s2,rfl⟩ le1 hle1;rw[hml];have s3:=z04 hle1 (.lst (z09 (z97 aa aa.length)));have s23:=s2.trans s3
 have rl:=zbd aa aa.length;refine⟨me,N,aS,aP,ap,aj,_,le1,z97 aa aa.length,rfl,hP'.same s23,z01,by lia,λe he=>?_,λH3 s4=>?_⟩
 ·rw[←hsl];exact zat (reach_mem.mp he)
 have s24:=s23.trans s4;have fz3:=fz.trans (Frz.of s24)
 walk_at "r";refine z4d (λc=>?_) (λc=>?_)
 ·obtain⟨e,he,hR⟩:=y1t.mp c;have he0:=reach_mem.mp he;have hR':=(z45 (by rw[hP'.lp,←hsl];exact zat he0)).mp hR
  refine⟨_,_,stat H3 fz3 _ _ g1,g11 _ (by decide),me,N,aS,aP,ap,aj,_,ast,cap,aa,rfl,hP'.same s24,y0d,s24 _ _ k1,hsl,hF',R.st,λck aG H4 fz4 j1 j2 hF4 le4 less=>?_⟩
  have hP4:=(hP'.same s24).but fz4 j1 j2 (by rw[hF4.ls,hF'.ls]) (by rw[hF4.lp,hF'.lp])
  have fz4':=fz3.trans fz4;have hP4':=hP4.less (L:=M) (λx hx=>y0a _ hx)
  walk_at "r";refine⟨_,_,stat H4 fz4' _ _ g1,g11 _ (by decide),me,N,aS,aP,ck,aG,M,rfl,hP4',λl2 steps2 H5 s5 i1 i2 hsl2 hf2=>?_⟩
  have sl:=less e he0 hR';have n0:0≤aG.sum:=PM.sum_nn λi x hx=>hF4.sp i x hx
  refine⟨_,?_,ck,aG,steps2,l2,rfl,(hP4'.new i1).same s5,fz4'.trans (Frz.of s5),i2,hsl2,hF4,λe x y h1 h2=>?_,hf2,rfl⟩
  ·lia
  ·have hz:aj[e]?=some (aj[e]'(by have:=(y00.mp h1).1;rw[hP'.lp];rw[hP.lp] at this;exact this)):=y01 _
   have a1:=le e _ _ h1 hz;have a2:=le4 e _ _ hz h2
   lia
 ·have nor:∀e,0≤PM.Lv aa e->¬PM.Room N aj e:=λe he hR=>by
   have hR':=(z45 (by rw[hP'.lp,←hsl];exact zat he)).mpr hR
   exact c (y1t.mpr ⟨e,reach_mem.mpr he,hR'⟩)
  have Dn:=R.done hF' hrow nor;refine .inl ⟨⟨_,SqL.of (s24 _ _ k1)⟩,cgo (σ':=[none]) rfl ?_⟩;refine z1r (xs:=aa.map V.int) (λi ys H4=>H4=H3/\ys=((aa.take i).map λs=>decide (0≤s)).map V.bl) ⟨rfl,rfl⟩ (z0i (by lia)) ?_ ?_ ?_
  ·rintro i ys H4 _ ⟨rfl,rfl⟩;refine⟨SqL.of (s24 _ _ k1),?_⟩;rw[y04,y04,y0t];lia
  ·rintro i x ys H4 hx ⟨rfl,rfl⟩;have hil:i<aa.length:=by simpa using (y00.mp hx).1
   have hst:aa[i]?=some aa[i]:=y01 hil;have ex:x = .int aa[i]:=by
    rw[y06,hst] at hx;exact(y12 hx).symm
   subst ex;walk_at "r";refine z7r (CNx.mk ⟨rfl,?_⟩ (by lia))
   rw[z0h hst,y0g,y0g];rfl
  ·rintro ys H4 ⟨rfl,rfl⟩ l2 hl2;rw[hml,y0c (y0b _)];have s5:=z04 hl2 (.lst ((z3v aa).map V.bl));have hl2H:H l2=none:=by
    cases z:H l2 with
    | none=>rfl
    | some o =>
     exfalso
     by_cases hb:l2 ∈ [aS,aP]
     ·simp only[y0k,y15,or_false] at hb;rcases hb with rfl | rfl
      ·rw[s24 _ _ hP'.st] at hl2;cases hl2
      ·rw[s24 _ _ hP'.sp] at hl2;cases hl2
     ·rw[fz3 _ _ hb z] at hl2;cases hl2
   exact q l2 ap aj aa _ (fz3.trans (Frz.of s5)) (s5 _ _ (s24 _ _ hP'.st)) (s5 _ _ (s24 _ _ hP'.sp)) Dn le hsl hl2H z01
noncomputable abbrev z32:Stmt:=top 10
theorem sc_pour_more:FnScope ["gives","takes","ties","sent","pour","near"] ["gives","takes","ties","sent"] (z05 z32):=⟨rfl,rfl,rfl,by decide +kernel,rfl,by decide +kernel,by decide +kernel⟩
theorem zb0 (T:Top K mg "pour_more" z32 ["gives","takes","ties","sent"])(B:Blt mg)(BS:mg "set"=none)(F:FldsPour K ay)(bn:CDef P w K mg base "Pour" ay 1 ["self","gives","takes","ties","sent"] (zh7 K ay))(bO:MDef P w K mg base ay "fill" 6 ["self"] (zl8 K ay)):Def P w K mg base "pour_more" 7 ["gives","takes","ties","sent"] (zlo K):=by
 refine z1h (k:=6) T sc_pour_more (λvs H Q E h=>?_) (λf cdv A outer s H vs Q E hr h=>?_)
 ·obtain⟨ag,ak,ai,ase,gs,ts,ss,az,rfl,_⟩:=h;rfl
 obtain⟨ag,ak,ai,ase,gs,ts,ss,az,rfl,hg,hk,hi,hs,hties,hssl,hsm,htl,hnn,hsp,q⟩:=h;refine⟨_,(z02 (z0d 4 sc_pour_more.nd (zmt bn (hr.mono (by decide)) (z00 (cv 0) (z00 (cv 1) (z00 (cv 2) (z00 (cv 3) z03))))))
   (z02 (z0d 5 sc_pour_more.nd (z6j bO (hr.mono (by decide)) (cv 4)))
   (z07 (z0m (z2s (z00 (z1k F.ap (cv 4)) (z00 (z2s (z00 (zfa (cv 5) z5x (z2o (z43 z25 B.len y19 (z00 (cv 0) z03)))) (z00 (zfa (cv 5) (z2o (z43 z25 B.len y19 (z00 (cv 0) z03))) z5x) z03))) z03))))))),?_⟩
 refine rd (σ':=[some (.ref ag),some (.ref ak),some (.ref ai),some (.ref ase),none,none]) rfl ?_;walk_at "r";intro x dx hx hdx hne;have s1:Same H (upd (upd H dx (.own x)) x (.ins ay dx [])):=λb o h=>by
  rw[z0a (z08 h hx),z0a (z08 h hdx)];exact h
 refine⟨x,dx,ag,ak,ai,ase,gs,ts,ss,az,rfl,z01,s1 _ _ hg,s1 _ _ hk,Is.same s1 _ _ hi,s1 _ _ hs,hties,hssl,hsm,htl,λaS aP H1 fz1 hS hP0 hP=>⟨rfl,?_⟩⟩;have hSH:H aS=none:=s1.free hS;have hPH:H aP=none:=s1.free hP0
 have s2:Same H H1:=λb o h=>fz1 b o (by simpa using z08 h hx) (s1 b o h)
 obtain⟨G0,f1,f2,f3,f4,fx⟩:=hP.ok;obtain⟨dx',fs,aT,aA,ts',rs,g1,g2,g3,g4,g5,g6,g7,g8,g9,g10,g11⟩:=fx.get;walk_at "r";refine⟨_,_,f1 _ _ g1,g11 _ (by decide),x,z2p gs.length ts.length az,aS,aP,ss,_,[],gs++ts,rfl,hP,zqw hssl hnn hsp,λl ap aj aa H2 fz2 k1 k2 Dn le hsl hl k3=>?_⟩
 have hlH:H l=none:=s2.free hl;have s3:Same H H2:=λb o h=>fz2 b o (by simp only[y0k,y15,or_false];exact λz=>z.elim (z08 h hSH) (z08 h hPH)) (s2 b o h)
 have sG:=Same.frz f1 fz2 λx hx=>by
  simp only[y0k,y15,or_false] at hx;rcases hx with rfl | rfl
  ·exact f2
  ·exact f3
 have hsl':aa.length=gs.length+ts.length:=hsl;have hgl:(gs.map V.int).length=gs.length:=y04 _
 refine⟨_,_,_,sG _ _ g1,g4,?_⟩;refine⟨_,.inl (SqL.of (s3 _ _ hg)),?_⟩;rw[hgl];walk_at "r";refine⟨_,SqL.of k3,λn1 hn1=>?_⟩;rw[zcl,←y6p];have s4:=z04 hn1 (.lst (((z3v aa).take gs.length).map V.bl));refine⟨_,.inl (SqL.of ((s3.trans s4) _ _ hg)),?_⟩;rw[hgl];refine⟨_,SqL.of (s4 _ _ k3),λn2 hn2=>?_⟩;rw[zh9,←y7t];have s5:=z04 hn2 (.lst (((z3v aa).drop gs.length).map V.bl))
 refine⟨sz (by show 2≤1000;decide),λq' hq'=>⟨sz (by show 2≤1000;decide),λp hp=>?_⟩⟩
 have s6:=z04 hq' (.tup [.ref n1,.ref n2]);have s7:=z04 hp (.tup [.ref aS,.ref q'])
 have sA:=s3.trans (s4.trans (s5.trans (s6.trans s7)));refine q p q' aS n1 n2 ap aj aa _ sA ⟨(s3.trans (s4.trans (s5.trans s6))).free hp,(s3.trans (s4.trans s5)).free hq',hSH,s3.free hn1,(s3.trans s4).free hn2⟩ ⟨λz=>?_,λz=>?_,λz=>?_⟩ z01 (s7 _ _ z01) ((s4.trans (s5.trans (s6.trans s7))) _ _ k1) ((s5.trans (s6.trans s7)) _ _ z01) ((s6.trans s7) _ _ z01) Dn hsl' le
 ·subst z;rw[k1] at hn1;cases hn1
 ·subst z;rw[s4 _ _ k1] at hn2;cases hn2
 ·subst z;rw[z01] at hn2;cases hn2
noncomputable abbrev z3o:Stmt:=top 9
theorem zcu:FnScope ["gives","takes","ties"] ["gives","takes","ties"] (z05 z3o):=⟨rfl,rfl,rfl,by decide +kernel,rfl,by decide +kernel,by decide +kernel⟩
theorem zch (T:Top K mg "pour_all" z3o ["gives","takes","ties"])(B:Blt mg)(BS:mg "set"=none)(bQ:Def P w K mg base "pour_more" 7 ["gives","takes","ties","sent"] (zlo K)):Def P w K mg base "pour_all" 8 ["gives","takes","ties"] (zoa K):=by
 refine z1h (k:=7) T zcu (λvs H Q E h=>?_) (λf cdv A outer s H vs Q E hr h=>?_)
 ·obtain⟨ag,ak,ai,gs,ts,az,rfl,_⟩:=h;rfl
 obtain⟨ag,ak,ai,gs,ts,az,rfl,hg,hk,hi,hties,hsm,htl,hnn,q⟩:=h;obtain⟨_,tv,e1,hai,hal⟩:=is_list.mp hi;cases e1;have htv:tv.length=az.length:=by simpa using z0g hal
 refine⟨_,(z07 (z0m (z0e bQ (hr.mono (by decide)) (z00 (cv 0) (z00 (cv 1) (z00 (cv 2) (z00 (z0n z3c (z1b (z00 z06 z03)) (z43 z25 B.len y19 (z00 (cv 2) z03))) z03))))))),?_⟩
 refine rd (σ':=[some (.ref ag),some (.ref ak),some (.ref ai)]) rfl ?_;walk_at "r";refine⟨sz (by show 1≤1000;decide),λl0 hl0=>?_⟩
 have s0:=z04 hl0 (.lst [.int 0]);refine⟨_,.inl (SqL.of (s0 _ _ hai)),?_⟩;rw[htv];walk_at "r";refine⟨_,z01,by lia,by lia,sz (by show 1*_≤1000;lia),λl1 hl1=>?_⟩
 rw[z3y];have e0:y07 ((az.length:Int)).toNat (V.int 0)=(y07 az.length 0).map V.int:=by rw[y38];rfl
 rw[e0];have s1:=z04 hl1 (.lst ((y07 az.length 0).map V.int));have sA:=s0.trans s1
 refine⟨ag,ak,ai,l1,gs,ts,y07 az.length 0,az,rfl,sA _ _ hg,sA _ _ hk,Is.same sA _ _ hi,z01,hties,by rw[y1k],hsm,htl,λk s h=>?_,λe he=>?_,?_⟩
 ·rw[y1f] at h
  split at h
  ·cases h;exact y20 _
  ·cases h
 ·unfold zev;rw[y0c (l:=y07 az.length 0) (by rw[y1k];exact y0b _),zb6]
  have he':e<(gs++ts).length:=by rw[y0e];exact he
  have:=hnn _ (y02 (z19 he'));lia
 ·intro p q' aS n1 n2 ap aj aa H' s2 fr ne h1 h2 h3 h4 h5 Dn hsl _;exact q p q' aS n1 n2 ap aj aa H' (sA.trans s2) ⟨sA.free fr.1,sA.free fr.2.1,sA.free fr.2.2.1,sA.free fr.2.2.2.1,sA.free fr.2.2.2.2⟩ ne h1 h2 h3 h4 h5 Dn hsl trivial
noncomputable abbrev z4m:Stmt:=top 12
theorem sc_ties_in:FnScope ["doers","crowd","place_of","ties","give","chore"] ["doers","crowd"] (z05 z4m):=⟨rfl,rfl,rfl,by decide +kernel,rfl,by decide +kernel,by decide +kernel⟩
theorem zff (T:Top K mg "ties_in" z4m ["doers","crowd"])(B:Blt mg)(BS:mg "set"=none) :Def P w K mg base "ties_in" 1 ["doers","crowd"] (z7s K):=by
 refine z1h (k:=0) T sc_ties_in (λvs H Q E h=>?_) (λf cdv A outer s H vs Q E hr h=>?_)
 ·obtain⟨ad,vc,drs,av,aq,rfl,_⟩:=h;rfl
 obtain⟨ad,vc,drs,av,aq,rfl,hd,hcr,hnd,hhl,hcl,hrl,hin,q⟩:=h;obtain⟨ac,ah,ax,rfl,h1,h2,h3⟩:=is_crowd.mp hcr;obtain⟨_,rs,e1,hda,hal⟩:=is_list.mp hd;cases e1;have hrsl:rs.length=drs.length:=by simpa using z0g hal
 refine⟨_,(z02 (z0d 2 sc_ties_in.nd (znv zn7 B.dict zlx (z00 (z3s (N:=["place","hand"]) (fr:=[]) 2 (z8o B.enumerate (z0k z0j (cv 1) z06 (λ_ _=>rfl))) (λC hN=>by exact pgC ((z74 (z0b 0 hN) (z0b 1 hN))) (by walk_at "c")) (λC hN=>by exact peC ((z2s (z00 (cv 1) (z00 (cv 0) z03)))) (by walk_at "c"))) z03)))
   (z02 (z0d 3 sc_ties_in.nd (z1b z03))
   (z02 (z1u (z8o B.enumerate (z0k z0j (cv 1) z06 (λ_ _=>rfl))) (z74 (z0b 4 sc_ties_in.nd) (z0b 5 sc_ties_in.nd))
   (z07 (z1z (zc9 (cv 3) (z00 (z6a (N:=["hand","give","place_of"]) (fr:=[4,2]) 1 (z1o (z0k z0j (cv 0) (cv 5) (λ_ _=>rfl))) (λC hN=>by exact pgC ((z0b 0 hN)) (by walk_at "c")) (λC hN=>by exact ptC ((z0w (zny hr) (cv 0) (cv 2) (by with_unfolding_all rfl))) (by walk_at "c")) (λC hN=>by exact peC ((z2s (z00 (cv 1) (z00 (zls hr (cv 2) (cv 0) (λ_ _=>rfl)) z03)))) (by walk_at "c"))) z03)))))
   (z07 (z0m (cv 3)))))),?_⟩
 refine rd (σ':=[some (.ref ad),some (.ref ac),none,none,none,none]) rfl ?_;walk_at "r";refine⟨_,_,.inr (SqT.of h1),rfl,?_⟩;walk_at "r";refine⟨⟨_,SqL.of h2⟩,?_⟩;refine zb3 (xs:=z09 av) (λi ys H2=>Same H H2/\∃tas:List Addr,ys=tas.map V.ref/\tas.length=i/\∀(j:Nat) t,tas[j]?=some t->H2 t=some (.tup [.int ((av.getD j 0:Nat):Int),.int (j:Int)])) ⟨Same.refl _,[],rfl,rfl,λj t h=>by simp at h⟩ (z0i (by rw[z0l];lia)) ?_ ?_ ?_
 ·rintro i ys H2 _ ⟨e2,tas,rfl,hl,_⟩;exact⟨SqL.of (e2 _ _ h2),by rw[y04];lia⟩
 ·rintro i x ys H2 Tp hx ⟨e2,tas,rfl,hl,ht⟩ hT;have hil:=(y00.mp hx).1;obtain⟨hh,hhh,rfl⟩:=z2q hx;have sT:=z04 hT (.tup [.int (i:Int),.int (hh:Int)])
  walk_at "r";refine⟨_,_,SqT.of z01,?_⟩;walk_at "r";refine z7r ⟨sz (by show 2≤1000;decide),λt htt=>?_⟩
  have sU:=z04 htt (.tup [.int (hh:Int),.int (i:Int)]);refine CNx.mk ⟨e2.trans (sT.trans sU),tas ++ [t],by rw[y0g];rfl,by rw[y0e];simp;lia,λj t' hj=>?_⟩ hil
  by_cases c:j<tas.length
  ·rw[y0s c] at hj;exact(sT.trans sU) _ _ (ht j t' hj)
  ·rw[y10 (by lia)] at hj
   have e:j=tas.length:=by
    have:=(y00.mp hj).1;simp at this;lia
   subst e;simp at hj;subst hj;rw[z01,hl,PM.getD_of hhh]
 rintro ys H2 ⟨e2,tas,rfl,hl,ht⟩ lp hlp;rw[z0l] at hl;have sL:=z04 hlp (.lst (tas.map V.ref));walk_at "r";refine⟨tas,z2c av,z01,by unfold z2c;simp;exact hl,λj t p hj hp=>?_,λdp hdp=>?_⟩
 ·have hjl:=(y00.mp hj).1;unfold z2c at hp;rw[y06,y1w (by lia)] at hp
  cases hp;exact sL _ _ (ht j t hj)
 rw[zf9 hnd];have sD:=z04 hdp (.dK (z2c av));have e3:=e2.trans (sL.trans sD)
 have hdk:=z01 (H:=upd H2 lp (.lst (tas.map V.ref))) (a:=dp) (o:=.dK (z2c av));generalize upd (upd H2 lp (.lst (tas.map V.ref))) dp (.dK (z2c av))=H3 at e3 hdk ⊢
 clear sL sD hlp hdp ht hl e2;refine⟨sz (by show 0≤1000;decide),λl hl=>?_⟩
 have nl:dp≠l:=z08 hdk hl;refine⟨_,_,.inr (SqT.of ((e3.trans (z04 hl _)) _ _ h1)),rfl,?_⟩;walk_at "r";refine⟨⟨_,SqL.of ((e3.trans (z04 hl _)) _ _ h3)⟩,?_⟩;refine zde (xs:=z09 aq) (λi σ' H'=>∃t4 t5 tvs,σ' = [some (.ref ad),some (.ref ac),some (.ref dp),some (.ref l),t4,t5]/\Grow K H3 H' l tvs ((z44 drs av aq i).map pr)/\tvs.length≤i*20) ⟨_,_,[],rfl,Grow.start hl,y0b _⟩ ?_ ?_ ?_
 ·rintro i σ' H' _ ⟨_,_,_,_,gr,_⟩;exact SqL.of (gr.same _ _ (e3 _ _ h3))
 ·rintro i x σ' H' Tp hx ⟨t4,t5,tvs,rfl,gr,tvl⟩ hT;have hil:=(y00.mp hx).1;rw[z0l] at hil;obtain⟨c,hc,rfl⟩:=z2q hx;have gr2:=gr.more (z04 hT (.tup [.int (i:Int),.int (c:Int)]))
  have hcd:=hin c (y02 hc);have hrow:drs[c]?=some drs[c]:=y01 hcd
  have hgetD:drs.getD (aq.getD i 0) []=drs[c]:=by
   rw[PM.getD_of hc];simp[y1l,hrow]
  generalize drs[c]=row at hrow hgetD;have hrowl:=hrl row (y02 hrow);obtain⟨ra,hra1,hra2⟩:=z41 hal hrow;walk_at "r";refine⟨_,_,SqT.of z01,?_⟩;walk_at "r";generalize upd H' Tp (.tup [.int (i:Int),.int (c:Int)])=H4 at gr2 ⊢
  clear gr hT;have e4:=e3.trans gr2.same;refine⟨⟨_,gr2.here⟩,_,_,.inl (SqL.of (e4 _ _ hda)),z24 hra1,?_⟩;walk_at "r";refine .inl ⟨⟨_,SqL.of (e4 _ _ hra2)⟩,?_⟩;refine cgo (σ':=[none,some (.int (i:Int)),some (.ref dp)]) rfl ?_;refine z1r (xs:=z09 row) (λj ys H5=>Same H4 H5/\ys.length≤j/\IsAll K (del H5 l) ys ((z3e av i (row.take j)).map pr)) ⟨Same.refl _,y0b _,z0r⟩ (z0i (by rw[z0l];lia)) ?_ ?_ ?_
  ·rintro j ys H5 _ ⟨e5,yl,_⟩;exact⟨SqL.of ((e4.trans e5) _ _ hra2),yl⟩
  ·rintro j x ys H5 hx2 ⟨e5,yl,al⟩;have hjl:=(y00.mp hx2).1;obtain⟨hh,hhh,rfl⟩:=z2q hx2;have hdk5:=e5 _ _ (gr2.same _ _ hdk)
   rw[show ∀(m:Nat),CNx (λj ys H5=>Same H4 H5/\ys.length≤j/\IsAll K (del H5 l) ys ((z3e av i (row.take j)).map pr)) m=CNx (λj ys H5=>Same H4 H5/\ys.length≤j/\IsAll K (del H5 l) ys ((z3e av i (row.take j)).map pr)) m from λ_=>rfl]
   walk_at "r";refine⟨_,hdk5,?_⟩;rw[z8w hnd];walk_at "r";cases hpl:z31 av hh with
   | none =>
    refine z91 (CNx.mk ⟨e5,by lia,?_⟩ hjl)
    rw[z0h hhh,z7e,hpl];simpa using al
   | some p =>
    refine z7r ⟨_,_,hdk5,by rw[z8w hnd,hpl];rfl,?_⟩
    walk_at "r";refine⟨sz (by show 2≤1000;decide),λt htt=>?_⟩
    have sT:=z04 htt (.tup [.int (i:Int),.int (p:Int)]);refine CNx.mk ⟨e5.trans sT,by rw[y0e];simp;lia,?_⟩ hjl
    rw[z0h hhh,z7e,hpl,y0g];refine z1j (IsAll.same (z5f sT) _ _ al) (ze6 (zqr (p:=(i,p)) (K:=K) z01) (xs:=tvs) ((e5.trans sT) _ _ gr2.here))
  ·rintro ys H5 ⟨e5,yl,al⟩ le hle;rw[z0l] at yl;rw[z0l,y0c (y0b _)] at al;have sE:=z04 hle (.lst ys);have gr3:=gr2.more (e5.trans sE)
   have nle:le≠l:=λz=>by
    subst z;rw[e5 _ _ gr2.here] at hle;cases hle
   walk_at "r";have hti:i<20:=by lia
   refine⟨_,_,gr3.here,z01,sz (by lia),?_⟩
   refine⟨_,_,tvs++ys,rfl,⟨?_,z01,?_⟩,by rw[y0e];lia⟩
   ·rw[z2z];exact gr3.old
   ·rw[z2z,z44,hgetD,y0g];exact z7v gr3.all (IsAll.same (z5f sE) _ _ al)
 ·rintro σ' H' ⟨t4,t5,tvs,rfl,gr,tvl⟩;rw[z0l] at gr;walk_at "r";exact q _ _ (e3.trans gr.same) gr.is ⟨_,rfl,z3r e3 hl⟩
noncomputable abbrev z4l:Stmt:=top 13
theorem zfn:FnScope ["works","crowd"] ["works","crowd"] (z05 z4l):=⟨rfl,rfl,rfl,by decide +kernel,rfl,by decide +kernel,by decide +kernel⟩
theorem zf0 (T:Top K mg "work_in" z4l ["works","crowd"])(B:Blt mg)(BS:mg "set"=none) :Def P w K mg base "work_in" 1 ["works","crowd"] (zan K):=by
 refine z1h (k:=0) T zfn (λvs H Q E h=>?_) (λf cdv A outer s H vs Q E hr h=>?_)
 ·obtain⟨aw,vc,ws,av,aq,rfl,_⟩:=h;rfl
 obtain⟨aw,vc,ws,av,aq,rfl,hw,hcr,hcl,hin,q⟩:=h;obtain⟨ac,ah,ax,rfl,h1,h2,h3⟩:=is_crowd.mp hcr;refine⟨_,(z07 (z0m (z43 zoj B.sum zpa (z00 (z3s (N:=["chore","works"]) (fr:=[0]) 1 (z1o (z0k z0j (cv 1) z06 (λ_ _=>rfl))) (λC hN=>by exact pgC ((z0b 0 hN)) (by walk_at "c")) (λC hN=>by exact peC ((z0k z0j (cv 1) (cv 0) (λ_ _=>rfl))) (by walk_at "c"))) z03)))),?_⟩
 refine rd (σ':=[some (.ref aw),some (.ref ac)]) rfl ?_;walk_at "r";refine⟨_,_,.inr (SqT.of h1),rfl,?_⟩;walk_at "r";refine .inl ⟨⟨_,SqL.of h3⟩,?_⟩;refine cgo (σ':=[none,some (.ref aw)]) rfl ?_;refine z1r (xs:=z09 aq) (λi ys H2=>H2=H/\ys=((aq.take i).map λc=>ws.getD c 0).map V.int) ⟨rfl,rfl⟩ (z0i (by rw[z0l];lia)) ?_ ?_ ?_
 ·rintro i ys H2 hi ⟨rfl,rfl⟩;exact⟨SqL.of h3,by simp;lia⟩
 ·rintro i x ys H2 hx ⟨rfl,rfl⟩;have hil:=(y00.mp hx).1;obtain⟨c,hc,rfl⟩:=z2q hx;walk_at "r";refine z7r ⟨_,_,.inl (SqL.of hw),zom (hin c (y02 hc)),CNx.mk ⟨rfl,?_⟩ hil⟩;rw[z0h hc,y0g,y0g];rfl
 ·rintro ys H2 ⟨rfl,rfl⟩ l hl;rw[z0l,y0c (y0b _)];walk_at "r";exact⟨_,SqL.of z01,q _ (z04 hl _)⟩
noncomputable abbrev z4g:Stmt:=top 14
theorem sc_pour_in:FnScope ["works","doers","crowd","many","gives"] ["works","doers","crowd"] (z05 z4g):=⟨rfl,rfl,rfl,by decide +kernel,rfl,by decide +kernel,by decide +kernel⟩
theorem zer (T:Top K mg "pour_in" z4g ["works","doers","crowd"])(B:Blt mg)(BS:mg "set"=none)(bV:Def P w K mg base "pour_all" 8 ["gives","takes","ties"] (zoa K))(bu:Def P w K mg base "ties_in" 1 ["doers","crowd"] (z7s K))(bx:Def P w K mg base "work_in" 1 ["works","crowd"] (zan K)):Def P w K mg base "pour_in" 9 ["works","doers","crowd"] (zaa K):=by
 refine z1h (k:=8) T sc_pour_in (λvs H Q E h=>?_) (λf cdv A outer s H vs Q E hr h=>?_)
 ·obtain⟨aw,ad,vc,ws,drs,av,aq,rfl,_⟩:=h;rfl
 obtain⟨aw,ad,vc,ws,drs,av,aq,rfl,ac',hcr,ok,q⟩:=h;obtain⟨ac,ah,ax,rfl,h1,h2,h3⟩:=is_crowd.mp hcr;have hl:=ok.hl;have cl:=ok.cl
 refine⟨_,(z02 (z0d 3 sc_pour_in.nd (z43 z25 B.len y19 (z00 (z0k z0j (cv 2) z06 (λ_ _=>rfl)) z03)))
   (z02 (zaj (N:=["chore","many","works"]) (fr:=[3,0]) 4 1 sc_pour_in.nd (z1o (z0k z0j (cv 2) z06 (λ_ _=>rfl))) (λC hN=>by exact pgC ((z0b 0 hN)) (by walk_at "c")) (λC hN=>by exact peC ((z0n z3c (z0k z0j (cv 2) (cv 0) (λ_ _=>rfl)) (cv 1))) (by walk_at "c")))
   (z07 (z0m (z0e bV (hr.mono (by decide)) (z00 (cv 4) (z00 (z0n z3c (z1b (z00 (z0e bx (hr.mono (by decide)) (z00 (cv 0) (z00 (cv 2) z03))) z03)) (cv 3)) (z00 (z0e bu (hr.mono (by decide)) (z00 (cv 1) (z00 (cv 2) z03))) z03)))))))),?_⟩
 refine rd (σ':=[some (.ref aw),some (.ref ad),some (.ref ac),none,none]) rfl ?_;walk_at "r";refine⟨_,_,.inr (SqT.of h1),rfl,_,.inl (SqL.of h2),?_⟩;walk_at "r";rw[z0l];refine⟨_,_,.inr (SqT.of h1),rfl,?_⟩;walk_at "r";refine .inl ⟨⟨_,SqL.of h3⟩,?_⟩;refine cgo (σ':=[none,some (.int (av.length:Int)),some (.ref aw)]) rfl ?_;refine z1r (xs:=z09 aq) (λi ys H2=>H2=H/\ys=((aq.take i).map λc=>ws.getD c 0*(av.length:Int)).map V.int) ⟨rfl,rfl⟩ (z0i (by rw[z0l];lia)) ?_ ?_ ?_
 ·rintro i ys H2 hi ⟨rfl,rfl⟩;exact⟨SqL.of h3,by simp;lia⟩
 ·rintro i x ys H2 hx ⟨rfl,rfl⟩;have hil:=(y00.mp hx).1;obtain⟨c,hc,rfl⟩:=z2q hx;have hcw:=ok.ci c (y02 hc)
  walk_at "r";refine z7r ⟨_,_,.inl (SqL.of ac'.w),zom hcw,z9a (m:=300) (n:=60) (ac'.bd _ (y02 (z19 hcw))) (by show _<_;lia) (by decide),CNx.mk ⟨rfl,?_⟩ hil⟩
  rw[z0h hc,y0g,y0g];rfl
 rintro ys H2 ⟨rfl,rfl⟩ lg hlg;rw[z0l,y0c (y0b _)];have s1:=z04 hlg (.lst ((aq.map λc=>ws.getD c 0*(av.length:Int)).map V.int));have hg:=z01 (H:=H2) (a:=lg) (o:=.lst ((aq.map λc=>ws.getD c 0*(av.length:Int)).map V.int))
 generalize upd H2 lg (.lst ((aq.map λc=>ws.getD c 0*(av.length:Int)).map V.int))=H3 at s1 hg ⊢
 walk_at "r";refine⟨aw,.ref ac,ws,av,aq,rfl,s1 _ _ ac'.w,Is.same s1 _ _ hcr,cl,ok.ci,λH4 s4=>?_⟩;walk_at "r";refine⟨sz (by show 1≤1000;decide),λl1 hl1=>?_⟩
 have s5:=z04 hl1 (.lst [.int (z2l ws aq)]);refine⟨_,z01,by lia,by lia,sz (by show 1*_≤1000;lia),λlt hlt=>?_⟩
 have er:y07 ((av.length:Int)).toNat (V.int (z2l ws aq))=(takesIn ws av aq).map V.int:=by unfold takesIn;rw[y38];rfl
 rw[z3y,er];have s6:=z04 hlt (.lst ((takesIn ws av aq).map V.int));have ht:=z01 (H:=upd H4 l1 (.lst [.int (z2l ws aq)])) (a:=lt) (o:=.lst ((takesIn ws av aq).map V.int))
 have sA:=s1.trans (s4.trans (s5.trans s6));have hg2:=(s4.trans (s5.trans s6)) _ _ hg
 generalize upd (upd H4 l1 (.lst [.int (z2l ws aq)])) lt (.lst ((takesIn ws av aq).map V.int))=H5 at sA hg2 ht ⊢
 clear s1 s4 s5 s6 hg hl1 hlt er;refine⟨ad,.ref ac,drs,av,aq,rfl,Is.same sA _ _ ac'.d,Is.same sA _ _ hcr,ok.nd,hl,cl,ac'.row,λc hc=>by rw[ac'.len];exact ok.ci c hc,λvt H6 s6 it _=>?_⟩
 obtain⟨ai,tv,e1,hai,hal⟩:=is_list.mp it;subst e1;walk_at "r";have glen:(z0q ws av aq).length=aq.length:=by unfold z0q;simp
 have tlen:(takesIn ws av aq).length=av.length:=by unfold takesIn;simp
 have tl:=z78 (av:=av) (aq:=aq) ac'.row aq.length;have wp:∀c∈aq,1≤ws.getD c 0:=λc hc=>ac'.pos _ (y02 (z19 (ok.ci c hc)))
 refine⟨lg,lt,ai,z0q ws av aq,takesIn ws av aq,z0o drs av aq,rfl,s6 _ _ hg2,s6 _ _ ht,it,λp hp=>?_,by lia,by unfold z0o;lia,λg hg=>?_,?_⟩
 ·obtain⟨g,t⟩:=p;obtain⟨c,hd,g1,g2,_⟩:=(z26 ok.nd g t).mp hp;rw[glen,tlen];exact⟨(y00.mp g1).1,(y00.mp g2).1⟩
 ·rcases y0y.mp hg with hg | hg
  ·unfold z0q at hg;obtain⟨c,hc,rfl⟩:=y1i.mp hg;have:=wp c hc;exact y2g (by lia) (by lia)
  ·unfold takesIn at hg;rw[y3z hg];unfold z2l;exact PM.sum_nn λi x hx=>by
    obtain⟨c,hc,rfl⟩:=y1i.mp (y02 hx);have:=wp c hc;lia
 ·intro p q' aS n1 n2 ap aj aa H' s2 fr ne k1 k2 k3 k4 k5 Dn hsl _;have sB:=sA.trans s6;exact q p q' aS n1 n2 ap aj aa H' (sB.trans s2) ⟨sB.free fr.1,sB.free fr.2.1,sB.free fr.2.2.1,sB.free fr.2.2.2.1,sB.free fr.2.2.2.2⟩ ne k1 k2 k3 k4 k5 Dn hsl trivial
noncomputable abbrev z5a:Stmt:=top 15
theorem zgl:FnScope ["things","marks","wanted"] ["things","marks","wanted"] (z05 z5a):=⟨rfl,rfl,rfl,by decide +kernel,rfl,by decide +kernel,by decide +kernel⟩
theorem zgj (T:Top K mg "chosen" z5a ["things","marks","wanted"])(B:Blt mg)(BS:mg "set"=none) :Def P w K mg base "chosen" 1 ["things","marks","wanted"] (zen K):=by
 refine z1h (k:=0) T zgl (λvs H Q E h=>?_) (λf cdv A outer s H vs Q E hr h=>?_)
 ·obtain⟨ax,ab,xs,bs,w,rfl,_⟩:=h;rfl
 obtain⟨ax,ab,xs,bs,w,rfl,h1,h2,hl,hxl,q⟩:=h;refine⟨_,(z07 (z0m (z6a (N:=["thing","mark","wanted"]) (fr:=[2]) 2 (z5u B.zip (cv 0) (cv 1)) (λC hN=>by exact pgC ((z74 (z0b 0 hN) (z0b 1 hN))) (by walk_at "c")) (λC hN=>by exact ptC ((z0w z5q (cv 1) (cv 2) (z0p _))) (by walk_at "c")) (λC hN=>by exact peC ((cv 0)) (by walk_at "c"))))),?_⟩
 refine rd (σ':=[some (.ref ax),some (.ref ab),some (.bl w)]) rfl ?_;walk_at "r";refine⟨false,false,⟨_,SqL.of h1⟩,⟨_,SqL.of h2⟩,?_⟩;refine cgo (σ':=[none,none,some (.bl w)]) rfl ?_;refine zkr (xs:=z09 xs) (zs:=bs.map V.bl) xs.length (by rw[z0l,y04];lia) (λi ys H2=>Same H H2/\ys.length≤i/\ys=z09 (pick (xs.take i) (bs.take i) w)) ⟨Same.refl _,y0b _,rfl⟩ (z0i (by lia)) ?_ ?_ ?_
 ·rintro i ys H2 _ ⟨e2,yl,_⟩;exact⟨zrd (SqL.of (e2 _ _ h1)),zrd (SqL.of (e2 _ _ h2)),yl⟩
 ·rintro i x z ys H2 Tp hx hz ⟨e2,yl,rfl⟩ hT;have hil:=(y00.mp hx).1;rw[z0l] at hil;obtain⟨n,hn,rfl⟩:=z2q hx;obtain⟨b,hb,rfl⟩:=zpk hz;have e3:=e2.trans (z04 hT (.tup [.int (n:Int),.bl b]))
  walk_at "r";refine⟨_,_,SqT.of z01,?_⟩;walk_at "r";refine z4d (λc=>?_) (λc=>?_)
  ·refine CNx.mk ⟨e3,by rw[y0e];simp;lia,?_⟩ hil
   rw[z8n hn hb,if_pos (of_decide_eq_true c)];unfold z09;rw[y0g];rfl
  ·refine CNx.mk ⟨e3,by lia,?_⟩ hil
   rw[z8n hn hb,if_neg (λz=>c (decide_eq_true z)),y2s]
 ·rintro ys H2 ⟨e2,_,rfl⟩ l hl2;rw[y0c (y0b _),y0c (by lia)]
  exact q l _ (e2.free hl2) (e2.trans (z04 hl2 _)) z01
noncomputable abbrev z30:Stmt:=top 16
theorem sc_crowds_by:FnScope ["works","doers","many","crowds","uncut","crowd","near","wanted"] ["works","doers","many"] (z05 z30):=⟨rfl,rfl,rfl,by decide +kernel,rfl,by decide +kernel,by decide +kernel⟩
theorem zca (T:Top K mg "crowds_by" z30 ["works","doers","many"])(B:Blt mg)(BS:mg "set"=none)(bz:Def P w K mg base "pour_in" 9 ["works","doers","crowd"] (zaa K))(b6:Def P w K mg base "chosen" 1 ["things","marks","wanted"] (zen K)):Def P w K mg base "crowds_by" 10 ["works","doers","many"] (zab K):=by
 refine z1h (k:=9) T sc_crowds_by (λvs H Q E h=>?_) (λf cdv A outer s H vs Q E hr h=>?_)
 ·obtain⟨aw,ad,au,ws,drs,rfl,_⟩:=h;rfl
 obtain⟨aw,ad,au,ws,drs,rfl,ac,dk,q⟩:=h;have few:=ac.few;have mfew:=dk.few
 have hw:=zbt ac.pos;refine⟨_,(z02 (z0d 3 sc_crowds_by.nd (z1b z03))
   (z02 (z0d 4 sc_crowds_by.nd (zak (z0w z71 (cv 2) z06 (z0p _)) (z1b (z00 (z2s (z00 (zas B.list B.range (cv 2)) (z00 (zas B.list B.range (z43 z25 B.len y19 (z00 (cv 0) z03))) z03))) z03)) (z1b z03)))
   (z02 (z49 (z0w z71 (z43 z25 B.len y19 (z00 (cv 4) z03)) z06 (z0p _))
   (z02 (z0d 5 sc_crowds_by.nd (z8k (cv 4)))
    (z02 (z0d 6 sc_crowds_by.nd (z0k z0j (z0e bz (hr.mono (by decide)) (z00 (cv 0) (z00 (cv 1) (z00 (cv 5) z03)))) z06 (λ_ _=>rfl)))
    (z07 (z3d (z2r (z43 zlb B.any zlk (z00 (z0k z0j (cv 6) z06 (λ_ _=>rfl)) z03)))
    (z07 (z1u (z1o (z2s (z00 z79 (z00 z79 z03)))) (z0b 7 sc_crowds_by.nd)
     (z07 (z1z (z0z (cv 4) (z00 (z2s (z00 (z0e b6 (hr.mono (by decide)) (z00 (z0k z0j (cv 5) z06 (λ_ _=>rfl)) (z00 (z0k z0j (cv 6) z06 (λ_ _=>rfl)) (z00 (cv 7) z03)))) (z00 (z0e b6 (hr.mono (by decide)) (z00 (z0k z0j (cv 5) z06 (λ_ _=>rfl)) (z00 (z0k z0j (cv 6) z06 (λ_ _=>rfl)) (z00 (cv 7) z03)))) z03))) z03))))))
    (z07 (z1z (z0z (cv 3) (z00 (cv 5) z03)))))))))
   (z07 (z0m (cv 3)))))),?_⟩
 refine rd (σ':=[some (.ref aw),some (.ref ad),some (.int (au:Int)),none,none,none,none,none]) rfl ?_;walk_at "r";refine⟨sz (by show 0≤1000;decide),λlc hlc=>?_⟩
 have s0:=z04 hlc (.lst []);have hlce:=z01 (H:=H) (a:=lc) (o:=.lst [])
 generalize upd H lc (.lst [])=H0 at s0 hlce ⊢
 refine z4d (λhm=>?_) (λhm=>?_)
 ·have hm0:0<au:=by
   have:=of_decide_eq_true hm;lia
  refine⟨⟨by lia,by lia⟩,λl1 hl1=>?_⟩
  rw[show((au:Int)).toNat=au by lia]
  have w1:=z04 hl1 (.lst ((y0f au).map λ(i:Nat)=>V.int (i:Int)));refine⟨_,.inl (SqL.of (w1 _ _ (s0 _ _ ac.w))),?_⟩;walk_at "r";rw[y04];refine⟨⟨by lia,by lia⟩,λl2 hl2=>?_⟩
  rw[show((ws.length:Int)).toNat=ws.length by lia]
  have w2:=z04 hl2 (.lst ((y0f ws.length).map λ(i:Nat)=>V.int (i:Int)));refine⟨sz (by show 2≤1000;decide),λt ht=>⟨sz (by show 1≤1000;decide),λlu hlu=>?_⟩⟩
  have w3:=z04 ht (.tup [.ref l1,.ref l2]);have w4:=z04 hlu (.lst [.ref t])
  have f1:=(w2.trans (w3.trans w4)) _ _ (z01 (H:=H0) (a:=l1) (o:=.lst ((y0f au).map λ(i:Nat)=>V.int (i:Int))));have f2:=(w3.trans w4) _ _ (z01 (a:=l2) (o:=.lst ((y0f ws.length).map λ(i:Nat)=>V.int (i:Int))))
  have f3:=w4 _ _ (z01 (a:=t) (o:=.tup [.ref l1,.ref l2]));have f4:=z01 (H:=upd (upd (upd H0 l1 (.lst ((y0f au).map λ(i:Nat)=>V.int (i:Int)))) l2 (.lst ((y0f ws.length).map λ(i:Nat)=>V.int (i:Int)))) t (.tup [.ref l1,.ref l2])) (a:=lu) (o:=.lst [.ref t])
  have sW:=w1.trans (w2.trans (w3.trans w4));have n1:l1≠lc/\l1≠lu:=by
   refine⟨λz=>?_,λz=>?_⟩
   ·rw[z,hlce] at hl1;cases hl1
   ·have:=(w2.trans w3) _ _ (z01 (H:=H0) (a:=l1) (o:=.lst ((y0f au).map λ(i:Nat)=>V.int (i:Int))));rw[z] at this;rw[z] at hlu;rw[this] at hlu;cases hlu
  have n2:l2≠lc/\l2≠lu:=by
   refine⟨λz=>?_,λz=>?_⟩
   ·rw[z,w1 _ _ hlce] at hl2;cases hl2
   ·have:=w3 _ _ (z01 (H:=upd H0 l1 (.lst ((y0f au).map λ(i:Nat)=>V.int (i:Int)))) (a:=l2) (o:=.lst ((y0f ws.length).map λ(i:Nat)=>V.int (i:Int))));rw[z] at this;rw[z] at hlu;rw[this] at hlu;cases hlu
  have nlu:lc≠lu:=z08 ((w1.trans (w2.trans w3)) _ _ hlce) hlu;have hluH:H lu=none:=s0.free ((w1.trans (w2.trans w3)).free hlu)
  have hlce2:=sW _ _ hlce;have sA:=s0.trans sW
  generalize upd (upd (upd (upd H0 l1 (.lst ((y0f au).map λ(i:Nat)=>V.int (i:Int)))) l2 (.lst ((y0f ws.length).map λ(i:Nat)=>V.int (i:Int)))) t (.tup [.ref l1,.ref l2])) lu (.lst [.ref t])=H1 at f1 f2 f3 f4 hlce2 sA ⊢
  clear w1 w2 w3 w4 hl1 hl2 ht hlu sW hlce;have two0:Two K H H1 lc lu [] [.ref t] [] ([((y0f au,y0f ws.length):PM.Cr)].map z2m):=by
   have base:Two K H H1 lc lu [] [.ref t] [] [z5l (y0f au) (y0f ws.length)]:=by
    have old:Same H (z7c H1 lc lu):=λb o hb=>by
     rw[z3u (z08 hb hlc) (z08 hb hluH)];exact sA _ _ hb
    have nt1:t≠lc:=λz=>by rw[z,hlce2] at f3;cases f3
    have nt2:t≠lu:=λz=>by rw[z,f4] at f3;cases f3
    refine⟨nlu,old,hlce2,f4,z0r,z46 (is_crowd.mpr ⟨t,l1,l2,rfl,?_,?_,?_⟩)⟩
    ·rw[z3u nt1 nt2];exact f3
    ·rw[z3u n1.1 n1.2];exact f1
    ·rw[z3u n2.1 n2.2];exact f2
   exact base
  walk_at "r";refine⟨λm σ' H'=>∃t5 t6 t7 vc vu Lc U,σ' = [some (.ref aw),some (.ref ad),some (.int (au:Int)),some (.ref lc),some (.ref lu),t5,t6,t7]/\Two K H H' lc lu vc vu (Lc.map z2m) (U.map z2m)/\PM.Crowds (z2n ws) (z2i drs) au ws.length (Lc++U.reverse)/\(∀c∈Lc,znu ws drs c)/\m=zc4 U,⟨_,_,_,_,[],[.ref t],[],[(y0f au,y0f ws.length)],rfl,two0,zay dk hm0,λc hc=>(by cases hc),rfl⟩,?_⟩
  rintro m σ' H' ⟨t5,t6,t7,vc,vu,Lc,U,rfl,tw,cr,rst,rfl⟩;have vul:vu.length=U.length:=by simpa using z0g tw.a2
  walk_at "r";refine⟨_,.inl (SqL.of tw.h2),?_⟩;walk_at "r";refine z4d (λhc=>?_) (λhc=>?_)
  ·have hne:U ≠ []:=λz=>by
    have:(0:Int)<(vu.length:Int):=of_decide_eq_true hc;rw[vul,z] at this;exact absurd this (by decide)
   obtain⟨c,hcl⟩:∃c,U.getLast?=some c:=⟨_,y1y hne⟩;have eU:U=U.dropLast ++ [c]:=by
    have:=List.dropLast_concat_getLast hne;rw[y1y hne] at hcl;cases hcl;exact this.symm
   have al2:=tw.a2;have hlast:(U.map z2m)[vu.length - 1]?=some (z2m c):=by
    rw[y06,vul,←y1e,hcl];rfl
   obtain⟨v,hv,isv⟩:=z1m al2 hlast;obtain⟨tc,ch,cc,rfl,k1,k2,k3⟩:=is_crowd.mp isv;generalize U.dropLast=U' at eU;subst eU;rw[y6f,List.reverse_singleton,List.singleton_append] at cr;have hcin:c∈Lc++c::U'.reverse:=by simp
   have hcr:=cr.hr c hcin;have hcc:=cr.cr c hcin
   have hne1:=cr.ne c hcin;have hlt:∀x∈c.2,x<ws.length:=λx hx=>by
    have e:=cr.cs x
    by_cases z:x<ws.length
    ·exact z
    ·rw[if_neg z,y0g,y1x,y0l,y0q] at e;have:=y2w.mpr hx;lia
   have hhl:c.1.length≤au:=z1a hcr λh hh=>by
    have e:=cr.hs h
    by_cases z:h<au
    ·exact z
    ·rw[if_neg z,y0g,y1x,y0l,y0q] at e;have:=y2w.mpr hh;lia
   have hcl2:c.2.length≤ws.length:=z1a hcc hlt;have tw2:Two K H (upd H' lu (.lst vu.dropLast)) lc lu vc vu.dropLast (Lc.map z2m) (U'.map z2m):=tw.set2 (by
    have:=z9p (vu.length - 1) al2;rw[←List.dropLast_eq_take] at this;have e2:((U' ++ [c]).map z2m).take (vu.length - 1)=U'.map z2m:=by
     rw[y0g,List.take_append_of_le_length (by rw[y04,vul];simp),y0c (by rw[y04,vul];simp)]
    rw[e2] at this;exact this)
   walk_at "r";refine⟨_,_,tw.h2,hv,?_⟩;walk_at "r";have sub2:∀b o,z7c H' lc lu b=some o->upd H' lu (.lst vu.dropLast) b=some o:=λb o hb=>by
    have:z7c (upd H' lu (.lst vu.dropLast)) lc lu b=some o:=by rw[z56];exact hb
    exact z5d _ _ this
   replace k1:=sub2 _ _ k1;replace k2:=sub2 _ _ k2;replace k3:=sub2 _ _ k3;have isv2:Is K (z7c (upd H' lu (.lst vu.dropLast)) lc lu) (.ref tc) (z2m c):=by rw[z56];exact isv
   generalize upd H' lu (.lst vu.dropLast)=H2 at tw2 k1 k2 k3 isv2 ⊢
   clear tw al2 hlast isv sub2 hv;refine⟨aw,ad,.ref tc,ws,drs,c.1,c.2,rfl,ac.same tw2.same,is_crowd.mpr ⟨tc,ch,cc,rfl,k1,k2,k3⟩,⟨z27 hcr,by lia,by lia,hlt⟩,?_⟩
   intro tp tq aS n1' n2' ap aj aa H3 s3 fr _ g1 g2 g3 g4 g5 Dn hsl _;have hn1u:n1'≠lu:=λz=>by have:=fr.2.2.2.1;rw[z,tw2.h2] at this;cases this
   have hn2u:n2'≠lu:=λz=>by have:=fr.2.2.2.2;rw[z,tw2.h2] at this;cases this
   obtain⟨nc,nh,C,mc,mh⟩:=zid hcr hcc hlt Dn;have gl:(z0q ws c.1 c.2).length=c.2.length:=by unfold z0q;simp
   have tl:(takesIn ws c.1 c.2).length=c.1.length:=by unfold takesIn;simp
   have nl:(z3v aa).length=c.2.length+c.1.length:=by unfold z3v;rw[y04,hsl,gl,tl]
   have l1':((z3v aa).take (z0q ws c.1 c.2).length).length=c.2.length:=by rw[y0t,gl];lia
   have l2':((z3v aa).drop (z0q ws c.1 c.2).length).length=c.1.length:=by rw[y4j,gl];lia
   generalize (z3v aa).take (z0q ws c.1 c.2).length=b1 at mc g4 l1';generalize (z3v aa).drop (z0q ws c.1 c.2).length=b2 at mh g5 l2';have tw3:=tw2.more s3;replace k1:=s3 _ _ k1;replace k2:=s3 _ _ k2;replace k3:=s3 _ _ k3;replace isv2:=Is.same (z6e s3) _ _ isv2;clear tw2 s3 Dn hsl;walk_at "r";refine⟨_,_,.inr (SqT.of g1),rfl,?_⟩;walk_at "r";refine⟨_,_,.inr (SqT.of g2),rfl,?_⟩;walk_at "r";refine⟨b2,SqL.of g5,z4d (λhany=>?_) (λhany=>?_)⟩
   ·obtain⟨b,hb1,hb2⟩:=y1t.mp hany;obtain⟨ib,hib⟩:=y08 hb1;have hibl:=(y00.mp hib).1;have hx:c.1[ib]?=some (c.1[ib]'(by lia)):=y01 (by lia)
    have hnear:∃h∈c.1,nh h=true:=by
     refine⟨_,y02 hx,?_⟩;have e:=mh ib _ hx;rw[hib] at e;cases e;exact hb2
    obtain⟨pt,pf⟩:=z8f (f:=nh) (by lia) mh
    obtain⟨qt,qf⟩:=z8f (f:=nc) (by lia) mc
    have cut:=PM.Crowds.cut hw cr C hnear;have nlu:∀{x:Addr} {o:HO},H3 x=some o->(∀xs,o ≠ .lst xs)->x≠lu:=λ{x o} h hz z=>by
     rw[z,tw3.h2] at h;cases h;exact hz _ rfl
    have old3:∀{x:Addr},(∃o,z7c H3 lc lu x=some o)->x≠lu:=λ{x} ⟨o,h⟩ z=>by
     subst z;unfold z7c del at h;rw[if_pos rfl] at h;cases h
    obtain⟨_,_,_,ez,m1,m2,m3⟩:=is_crowd.mp isv2;cases ez;have ech:=z5d _ _ m1;rw[k1] at ech;cases ech;have dch:ch≠lu:=old3 ⟨_,m2⟩
    have dcc:cc≠lu:=old3 ⟨_,m3⟩;have dn1:n1'≠lu:=hn1u
    have dn2:n2'≠lu:=hn2u;have dtc:=nlu k1 λ_ z=>by cases z
    have dtq:=nlu g2 λ_ z=>by cases z
    walk_at "r";refine⟨sz (by show 2≤1000;decide),λtb htb=>.inr ⟨⟨_,SqT.of z01⟩,?_⟩⟩
    have sB:=z04 htb (.tup [.bl false,.bl true]);have htbe:=z01 (H:=H3) (a:=tb) (o:=.tup [.bl false,.bl true])
    have dtb:tb≠lu:=λz=>by rw[z,tw3.h2] at htb;cases htb
    have tw4:=tw3.more sB;replace k1:=sB _ _ k1;replace k2:=sB _ _ k2;replace k3:=sB _ _ k3;replace g2:=sB _ _ g2;replace g4:=sB _ _ g4;replace g5:=sB _ _ g5;generalize upd H3 tb (.tup [.bl false,.bl true])=H4 at htbe tw4 k1 k2 k3 g2 g4 g5 ⊢
    clear tw3 sB htb g1 g3 isv2 nlu old3 m1 m2 m3;refine zl1 (xs:=[.bl false,.bl true]) (λj σ' H5=>∃t7 vu,σ' = [some (.ref aw),some (.ref ad),some (.int (au:Int)),some (.ref lc),some (.ref lu),some (.ref tc),some (.ref tq),t7]/\Two K H H5 lc lu vc vu (Lc.map z2m) ((U' ++ [PM.restOf c nc nh,PM.nearOf c nc nh].take j).map z2m)/\Frz [lu] H4 H5) ⟨_,_,rfl,by simpa using tw4,Frz.of (Same.refl _)⟩ ?_ ?_ ?_
    ·rintro j σ' H5 _ ⟨_,_,_,_,fz⟩;exact SqT.of (fz _ _ (by simpa using dtb) htbe)
    ·rintro j x σ' H5 hx ⟨t7,vu5,rfl,tw5,fz⟩;have fzz:∀{b:Addr} {o:HO},b≠lu->H4 b=some o->H5 b=some o:=λ{b o} hb h=>fz b o (by simpa using hb) h
     have hj:j<2:=(y00.mp hx).1;have ulen:vu5.length≤U'.length+2:=by
      have e:=z0g tw5.a2;rw[y04,y0e,y0t] at e;simp at e;lia
     have ull:U'.length≤20:=by
      have:=z6v cr;rw[y0e,y1a,List.length_reverse] at this;lia
     obtain⟨w,rfl,ew⟩:∃w:Bool,x = .bl w/\[PM.restOf c nc nh,PM.nearOf c nc nh].take (j+1) = [PM.restOf c nc nh,PM.nearOf c nc nh].take j ++ [((pick c.1 b2 w,pick c.2 b1 w):PM.Cr)]:=by
      match j,hx with
      | 0,hx =>
       cases hx;refine⟨false,rfl,?_⟩;rw[pf,qf];rfl
      | 1,hx =>
       cases hx;refine⟨true,rfl,?_⟩;rw[pt,qt];rfl
      | k+2,hx=>cases hx
     walk_at "r";refine⟨⟨_,tw5.h2⟩,_,_,.inr (SqT.of (fzz dtc k1)),rfl,_,_,.inr (SqT.of (fzz dtq g2)),rfl,?_⟩;refine⟨ch,n2',c.1,b2,w,rfl,fzz dch k2,fzz dn2 g5,by lia,by lia,λla H6 hla s6 ea=>?_⟩
     walk_at "r";refine⟨_,_,.inr (SqT.of (s6 _ _ (fzz dtc k1))),rfl,_,_,.inr (SqT.of (s6 _ _ (fzz dtq g2))),rfl,?_⟩;refine⟨cc,n1',c.2,b1,w,rfl,s6 _ _ (fzz dcc k3),s6 _ _ (fzz dn1 g4),by lia,by lia,λlb H7 hlb s7 eb=>?_⟩
     walk_at "r";refine⟨sz (by show 2≤1000;decide),λtn htn=>?_⟩
     have s8:=z04 htn (.tup [.ref la,.ref lb]);have tw8:=tw5.more (s6.trans (s7.trans s8))
     have isn:Is K (z7c (upd H7 tn (.tup [.ref la,.ref lb])) lc lu) (.ref tn) (z5l (pick c.1 b2 w) (pick c.2 b1 w)):=by
      refine tw8.crowd (x:=la) (y:=lb) ⟨λz=>?_,λz=>?_⟩ ⟨λz=>?_,λz=>?_⟩ z01 ((s7.trans s8) _ _ ea) (s8 _ _ eb)
      ·rw[z,tw5.h1] at hla;cases hla
      ·rw[z,tw5.h2] at hla;cases hla
      ·rw[z,s6 _ _ tw5.h1] at hlb;cases hlb
      ·rw[z,s6 _ _ tw5.h2] at hlb;cases hlb
     refine⟨_,tw8.h2,z0i (by lia),?_⟩
     refine⟨_,vu5 ++ [.ref tn],rfl,?_,?_⟩
     ·rw[ew,←y32,y0g];exact tw8.set2 (z1j tw8.a2 isn)
     ·exact(fz.trans (Frz.of (s6.trans (s7.trans s8)))).trans (Frz.upd (by simp))
    ·rintro σ' H5 ⟨t7,vu5,rfl,tw5,_⟩;have lens:(c.1.filter nh).length+(c.1.filter λh=>!nh h).length=c.1.length:=by
      have:=List.length_eq_countP_add_countP nh (l:=c.1);rw[y4r,y4r] at this;have e:(c.1.filter λa=>decide ¬nh a=true)=c.1.filter λh=>!nh h:=y5g λx _=>by cases nh x<;>rfl
      rw[e] at this;lia
     obtain⟨h1',h2',h3'⟩:=hnear;obtain⟨r1',r2',r3'⟩:=C.far ⟨h1',h2',h3'⟩;have p1:0<(c.1.filter nh).length:=y0x.mpr λz=>by
      have:h1'∈c.1.filter nh:=y18.mpr ⟨h2',h3'⟩;rw[z] at this;cases this
     have p2:0<(c.1.filter λh=>!nh h).length:=y0x.mpr λz=>by
      have:r1'∈c.1.filter λh=>!nh h:=y18.mpr ⟨r2',by rw[r3'];rfl⟩
      rw[z] at this;cases this
     refine⟨zc4 (U' ++ [PM.restOf c nc nh,PM.nearOf c nc nh]),?_,_,_,_,vc,vu5,Lc,U' ++ [PM.restOf c nc nh,PM.nearOf c nc nh],rfl,tw5,?_,rst,rfl⟩
     ·unfold zc4 PM.restOf PM.nearOf;simp;lia
     ·rw[y6f];exact cut
   ·have hall:∀h∈c.1,nh h=false:=λh hh=>by
     obtain⟨i,hi⟩:=y08 hh;have e:=mh i h hi;cases z:nh h with
     | false=>rfl
     | true =>
      rw[z] at e;exact absurd (y1t.mpr ⟨true,y02 e,rfl⟩) hany
    have rc:=znd C hall (cr.own c hcin);have lcl:vc.length=Lc.length:=by simpa using z0g tw3.a1
    have lcf:Lc.length≤20:=by
     have:=z6v cr;rw[y0e] at this;lia
    walk_at "r";refine⟨⟨_,tw3.h1⟩,_,tw3.h1,z0i (by lia),?_⟩
    refine⟨zc4 U',?_,_,_,_,vc ++ [.ref tc],vu.dropLast,Lc ++ [c],U',rfl,?_,?_,λd hd=>?_,rfl⟩
    ·have:=y0x.mpr hne1;unfold zc4;simp;lia
    ·rw[y0g];exact tw3.set1 (z1j tw3.a1 isv2)
    ·rw[y32];exact cr
    ·rcases y0y.mp hd with hd | hd
     ·exact rst d hd
     ·rw[y09.mp hd];exact rc
  ·have hU:U = []:=by
    have:¬(0:Int)<(vu.length:Int):=λz=>hc (decide_eq_true z);exact y1j.mp (by lia)
   subst hU;rw[List.reverse_nil,y2s] at cr;exact q Lc (λz=>by lia) (λ_=>cr) rst _ _ tw.same (is_list.mpr ⟨lc,vc,rfl,tw.h1,IsAll.same z5d _ _ tw.a1⟩)
 ·have hm0:au=0:=by
   have:¬(0:Int)<(au:Int):=λz=>hm (decide_eq_true z);lia
  refine⟨sz (by show 0≤1000;decide),λlu hlu=>?_⟩
  have w1:=z04 hlu (.lst []);refine⟨λm σ' H'=>H'=upd H0 lu (.lst [])/\∃t5 t6 t7,σ' = [some (.ref aw),some (.ref ad),some (.int (au:Int)),some (.ref lc),some (.ref lu),t5,t6,t7],⟨0,rfl,_,_,_,rfl⟩,?_⟩;rintro m σ' H' ⟨rfl,t5,t6,t7,rfl⟩;walk_at "r";refine⟨_,.inl (SqL.of z01),z91 ?_⟩;exact q [] (λ_=>rfl) (λz=>by lia) (λc hc=>(by cases hc)) _ _ (s0.trans w1) (is_list.mpr ⟨lc,[],rfl,w1 _ _ hlce,z0r⟩)
noncomputable abbrev z3m:Stmt:=top 4
theorem zcd:FnScope ["thing"] ["thing"] (z05 z3m):=⟨rfl,rfl,rfl,by decide +kernel,rfl,by decide +kernel,by decide +kernel⟩
theorem zdf (T:Top K mg "is_whole" z3m ["thing"])(B:Blt mg)(BS:mg "set"=none) :Def P w K mg base "is_whole" 1 ["thing"] (z3z):=by
 refine z1h (k:=0) T zcd (λvs H Q E h=>?_) (λf cdv A outer s H vs Q E hr h=>?_)
 ·unfold z3z at h
  split at h
  ·rfl
  ·rfl
  ·exact h.elim
 refine⟨_,(z07 (z0m (z8x (z43 z1y B.isinstance z1w (z00 (cv 0) (z00 (zcj B.int zl9) z03))) (z7g (zl4 (z43 z1y B.isinstance z1w (z00 (cv 0) (z00 (zcj B.bool zhs) z03)))))))),?_⟩;unfold z3z at h
 split at h
 ·rename_i z;refine rd (σ':=[some (.int z)]) rfl ?_;walk_at "r";exact⟨by decide,z7r ⟨by decide,h⟩⟩
 ·rename_i z;refine rd (σ':=[some (.bl z)]) rfl ?_;walk_at "r";exact⟨by decide,z7r ⟨by decide,h⟩⟩
 ·exact h.elim
noncomputable abbrev z2g:Stmt:=top 5
theorem sc_divisor_of:FnScope ["one","other","greater","lesser","rest"] ["one","other"] (z05 z2g):=⟨rfl,rfl,rfl,by decide +kernel,rfl,by decide +kernel,by decide +kernel⟩
theorem zad (T:Top K mg "divisor_of" z2g ["one","other"])(B:Blt mg)(BS:mg "set"=none) :Def P w K mg base "divisor_of" 1 ["one","other"] (spG):=by
 refine z1h (k:=0) T sc_divisor_of (λvs H Q E h=>?_) (λf cdv A outer s H vs Q E hr h=>?_)
 ·unfold spG at h
  split at h
  ·rfl
  ·exact h.elim
 unfold spG at h
 split at h
 ·rename_i a b;refine⟨_,(z02 (z0d 2 sc_divisor_of.nd (z43 zbq B.abs zc2 (z00 (cv 0) z03)))
   (z02 (z0d 3 sc_divisor_of.nd (z43 zbq B.abs zc2 (z00 (cv 1) z03)))
   (z02 (ze1 (z0w z71 (cv 3) z06 (z0p _))
   (z02 (z0d 4 sc_divisor_of.nd (z0n z20 (cv 2) (cv 3)))
    (z02 (z0d 2 sc_divisor_of.nd (cv 3))
    (z07 (z0d 3 sc_divisor_of.nd (cv 4))))))
   (z07 (z0m (cv 2)))))),?_⟩
  refine rd (σ':=[some (.int a),some (.int b),none,none,none]) rfl ?_;walk_at "r";refine⟨fun σ H'=>H'=H/\∃(g l:Int) (r:Option V),σ = [some (.int a),some (.int b),some (.int g),some (.int l),r]/\0≤g/\0≤l/\y22 g l=y22 a b,
   fun σ _=>match σ with | [_,_,_,some (.int l),_]=>l.toNat | _=>0,⟨rfl,_,_,_,rfl,zb2 a,zb2 b,zhj a b⟩,?_⟩
  rintro σ H' ⟨rfl,g,l,r,rfl,hg,hl,e⟩;walk_at "r";refine z4d (λc=>?_) (λc=>?_)
  ·have c':0<l:=of_decide_eq_true c;refine⟨c',⟨rfl,l,g % l,_,rfl,hl,y1r _ (by lia),by rw[zeq hg c',e]⟩,?_⟩
   have:=y1u g c';have:=y1r g (show l≠0 by lia)
   lia
  ·have c':¬ 0<l:=λz=>c (decide_eq_true z);have e0:l=0:=by lia
   subst e0;rw[←e,zdz hg] at h;exact h
 ·exact h.elim
noncomputable abbrev z4k:Stmt:=top 6
theorem sc_part_of:FnScope ["top","bottom","divisor"] ["top","bottom"] (z05 z4k):=⟨rfl,rfl,rfl,by decide +kernel,rfl,by decide +kernel,by decide +kernel⟩
theorem zfi (T:Top K mg "part_of" z4k ["top","bottom"])(B:Blt mg)(BS:mg "set"=none)(bH:Def P w K mg base "is_whole" 1 ["thing"] (z3z))(bG:Def P w K mg base "divisor_of" 1 ["one","other"] (spG)):Def P w K mg base "part_of" 2 ["top","bottom"] (zbb K):=by
 refine z1h (k:=1) T sc_part_of (λvs H Q E h=>?_) (λf cdv A outer s H vs Q E hr h=>?_)
 ·obtain⟨a,b,rfl,_⟩:=h;rfl
 obtain⟨a,b,rfl,hb,hB,q⟩:=h;refine⟨_,(z02 (z3d (z9b (z3x (z2r (z0e bH (hr.mono (by decide)) (z00 (cv 0) z03)))) (z9b (z3x (z2r (z0e bH (hr.mono (by decide)) (z00 (cv 1) z03)))) (z7h (z0w z5q (cv 1) z06 (z0p _))))).pt
   (z07 zkd)
   z1d)
   (z02 (z0d 2 sc_part_of.nd (z0e bG (hr.mono (by decide)) (z00 (cv 0) (z00 (cv 1) z03))))
   (z02 (z3d (z0w z84 (cv 1) z06 (z0p _))
   (z07 (z0d 2 sc_part_of.nd (zcs z8i (cv 2))))
   z1d)
   (z07 (z0m (z2s (z00 (z0n z3q (cv 0) (cv 2)) (z00 (z0n z3q (cv 1) (cv 2)) z03)))))))),?_⟩
 refine rd (σ':=[some (.int a),some (.int b),none]) rfl ?_;walk_at "r";have fin:∀j:Int,j=(if b<0 then -((y22 a b:Nat):Int) else (y22 a b:Nat))->j≠0/\j.natAbs.log2<9000/\j≠0/\j.natAbs.log2<9000/\2≤sizeLine/\∀p,H p=none->Q (.ref p) (upd H p (.tup [.int (a.fdiv j),.int (b.fdiv j)])):=λj hj=>by
  obtain⟨h1,h2,h3,h4,h5⟩:=z7t hb hj;exact⟨h1,zpy hB h2 h1,h1,zpy hB h2 h1,sz (by show 2≤1000;decide),(q _ _ h3 h4 h5).ints2⟩
 refine z91 (z91 (z4d (λc=>absurd (of_decide_eq_true c) hb) (λ_=>?_)));refine z4d (λc=>?_) (λc=>?_)
 ·exact fin _ (if_pos (of_decide_eq_true c)).symm
 ·exact fin _ (if_neg (λz=>c (decide_eq_true z))).symm
noncomputable abbrev z2x:Stmt:=top 22
theorem sc_shares_in:FnScope ["works","doers","crowd","sent"] ["works","doers","crowd"] (z05 z2x):=⟨rfl,rfl,rfl,by decide +kernel,rfl,by decide +kernel,by decide +kernel⟩
theorem zar (T:Top K mg "shares_in" z2x ["works","doers","crowd"])(B:Blt mg)(BS:mg "set"=none)(bz:Def P w K mg base "pour_in" 9 ["works","doers","crowd"] (zaa K))(bq:Def P w K mg base "part_of" 2 ["top","bottom"] (zbb K)):Def P w K mg base "shares_in" 10 ["works","doers","crowd"] (z9u K):=by
 refine z1h (k:=9) T sc_shares_in (λvs H Q E h=>?_) (λf cdv A outer s H vs Q E hr h=>?_)
 ·obtain⟨aw,ad,vc,ws,drs,c,rfl,_⟩:=h;rfl
 obtain⟨aw,ad,vc,ws,drs,c,rfl,ask,hcr,pc,q⟩:=h;have hcr':Is K H vc (z5l c.1 c.2):=hcr;obtain⟨ac,ah,ax,rfl,h1,h2,h3⟩:=is_crowd.mp hcr;have hl:=pc.hl
 have cl:=pc.cl;have n0:=pc.n0
 refine⟨_,(z02 (z0d 3 sc_shares_in.nd (z0k z0j (z0e bz (hr.mono (by decide)) (z00 (cv 0) (z00 (cv 1) (z00 (cv 2) z03)))) z06 (λ_ _=>rfl)))
   (z07 (z0m (z3s (N:=["amount","crowd"]) (fr:=[2]) 1 (z1o (cv 3)) (λC hN=>by exact pgC ((z0b 0 hN)) (by walk_at "c")) (λC hN=>by exact peC ((z0e bq (hr.mono (by decide)) (z00 (cv 0) (z00 (z43 z25 B.len y19 (z00 (z0k z0j (cv 1) z06 (λ_ _=>rfl)) z03)) z03)))) (by walk_at "c")))))),?_⟩
 refine rd (σ':=[some (.ref aw),some (.ref ad),some (.ref ac),none]) rfl ?_;walk_at "r";refine⟨aw,ad,.ref ac,ws,drs,c.1,c.2,rfl,ask,hcr',⟨pc.nd,hl,cl,pc.ci⟩,?_⟩;intro p q' aS n1 n2 ap aj aa H1 s1 _ _ k1 k2 k3 k4 k5 D hsl _;obtain⟨e1,e2,e3,e4⟩:=zj2 pc ask.pos D;have sb:∀s∈ap,Bd 330 s:=λs hs=>by
  obtain⟨k,hk⟩:=y08 hs;have hkl:=(y00.mp hk).1;have ht:(z0o drs c.1 c.2)[k]?=some ((z0o drs c.1 c.2)[k]'(by lia)):=y01 _
  generalize (z0o drs c.1 c.2)[k]'(by lia)=tp at ht
  obtain⟨x,hd,z1,z2,_⟩:=(z26 pc.nd tp.1 tp.2).mp (y02 ht);have gl:(z0q ws c.1 c.2).length=c.2.length:=by unfold z0q;rw[y04]
  have tl:(takesIn ws c.1 c.2).length=c.1.length:=by unfold takesIn;rw[y1k]
  have l1:=(y00.mp z1).1;have le1:=z7b D.flow.nn (show(z2p (z0q ws c.1 c.2).length (takesIn ws c.1 c.2).length (z0o drs c.1 c.2)).ends[k]?=some (tp.1,(z0q ws c.1 c.2).length+tp.2) by rw[z8t,y06,ht];rfl) hk
  have le2:=(D.flow.load_le (e:=tp.1) (by show tp.1<_+_;rw[gl,tl];lia)).1
  rw[z68 (by rw[gl];exact l1)] at le2
  have gv:(z0q ws c.1 c.2).getD tp.1 0=ws.getD x 0*(c.1.length:Int):=by
   unfold z0q;rw[y05,y06,z1];rfl
  have b:Bd 330 (ws.getD x 0*(c.1.length:Int)):=((ask.bd _ (y02 (z19 (pc.ci x (y02 z1))))).mul (show Bd 6 (c.1.length:Int) by show _<_;lia)).le (by decide)
  have s0:=e2 s hs;refine b.of_le ?_;rw[gv] at le2;dsimp only at le1;lia
 walk_at "r";refine⟨_,_,.inr (SqT.of k1),rfl,?_⟩;walk_at "r";refine .inl ⟨⟨_,SqL.of k3⟩,?_⟩;refine cgo (σ':=[none,some (.ref ac)]) rfl ?_;have tl:=z78 (av:=c.1) (aq:=c.2) ask.row c.2.length;have sl:ap.length≤400:=by rw[e1];unfold z0o;lia
 refine z1r (xs:=ap.map V.int) (λj ys H2=>Same H1 H2/\ys.length≤j/\∃ss:List (Int×Int),IsAll K H2 ys (ss.map λp=>z3l p.1 p.2)/\ss.length=j/\∀(k:Nat) p s,ss[k]?=some p->ap[k]?=some s->Low p/\p.1*c.1.length=s*p.2) ⟨Same.refl _,y0b _,[],z0r,rfl,λk p s z=>(by simp at z)⟩ (z0i (by rw[y04];lia)) ?_ ?_ ?_
 ·rintro j ys H2 _ ⟨e5,yl,_⟩;exact⟨SqL.of (e5 _ _ k3),yl⟩
 ·rintro j x ys H2 hx ⟨e5,yl,ss,al2,sl2,sp⟩;have hj:=(y00.mp hx).1;obtain⟨z,hz,rfl⟩:=zdg hx;have h1':=(s1.trans e5) _ _ h1
  walk_at "r";refine z7r ⟨_,_,.inr (SqT.of h1'),rfl,_,.inl (SqL.of ((s1.trans e5) _ _ h2)),?_⟩;rw[z0l];refine⟨z,(c.1.length:Int),rfl,by lia,(show Bd 6 (c.1.length:Int) by show _<_;lia).le (by decide),λn d g1 g2 g3 v H3 s3 is3=>?_⟩
  refine CNx.mk ⟨e5.trans s3,by rw[y0e];show _+1≤_;lia,ss ++ [(n,d)],?_,by rw[y0e,sl2];rfl,λk p s' hp hs=>?_⟩ hj
  ·rw[y0g];exact z1j (IsAll.same s3 _ _ al2) is3
  ·rcases z3w hp with y | ⟨y1,y2⟩
   ·exact sp k p s' y hs
   ·subst y2;rw[y1,sl2,hz] at hs;cases hs;exact⟨⟨g1,g2⟩,g3⟩
 rintro ys H2 ⟨e5,yl,ss,al2,sl2,sp⟩ l hl';rw[y04] at sl2;have f:=z04 hl' (.lst ys);exact q ss (zp1 pc sb e1 e2 e3 e4 sl2 sp) _ _ (s1.trans (e5.trans f)) (is_list.mpr ⟨l,ys,rfl,z01,IsAll.same f _ _ al2⟩)
noncomputable abbrev z34:Stmt:=top 17
theorem sc_rows_from:FnScope ["doers","crowds","sents","nothing","rows","crowd","sent","tie","amount","chore"] ["doers","crowds","sents","nothing"] (z05 z34):=⟨rfl,rfl,rfl,by decide +kernel,rfl,by decide +kernel,by decide +kernel⟩
theorem zbm (T:Top K mg "rows_from" z34 ["doers","crowds","sents","nothing"])(B:Blt mg)(BS:mg "set"=none)(bu:Def P w K mg base "ties_in" 1 ["doers","crowd"] (z7s K)):Def P w K mg base "rows_from" 2 ["doers","crowds","sents","nothing"] (zhz K (λp:Int×Int=>z3l p.1 p.2)):=by
 refine z1h (k:=1) T sc_rows_from (λvs H Q E h=>?_) (λf cdv A outer s H vs Q E hr h=>?_)
 ·obtain⟨ad,ac,as,vn,drs,L,sss,no,rfl,_⟩:=h;rfl
 obtain⟨ad,ac,as,vn,drs,L,sss,no,rfl,id,ic,is,iv,dfew,drow,dnd,lfew,lok,sl,sok,q⟩:=h;obtain⟨_,rs,e0,hda,hrs⟩:=is_list.mp id;cases e0;obtain⟨_,cs,e0,hca,hcs⟩:=is_list.mp ic;cases e0;obtain⟨_,sv,e0,hsa,hsv⟩:=is_list.mp is;cases e0;have rsl:rs.length=drs.length:=by rw[z0g hrs,y04]
 have csl:cs.length=L.length:=by rw[z0g hcs,y04]
 have svl:sv.length=L.length:=by rw[z0g hsv,y04,sl]
 refine⟨_,(z02 (zaj (N:=["hands","nothing"]) (fr:=[3]) 4 1 sc_rows_from.nd (z1o (cv 0)) (λC hN=>by exact pgC ((z0b 0 hN)) (by walk_at "c")) (λC hN=>by exact peC ((z0n z3c (z1b (z00 (cv 1) z03)) (z43 z25 B.len y19 (z00 (cv 0) z03)))) (by walk_at "c")))
   (z02 (z1u (z5u B.zip (cv 1) (cv 2)) (z74 (z0b 5 sc_rows_from.nd) (z0b 6 sc_rows_from.nd))
   (z07 (z1u (z5u B.zip (z0e bu (hr.mono (by decide)) (z00 (cv 0) (z00 (cv 5) z03))) (cv 6)) (z74 (z0b 7 sc_rows_from.nd) (z0b 8 sc_rows_from.nd))
    (z02 (z0d 9 sc_rows_from.nd (z0k z0j (z0k z0j (cv 5) z06 (λ_ _=>rfl)) (z0k z0j (cv 7) z06 (λ_ _=>rfl)) (λ_ _=>rfl)))
     (z07 (z9n (cv 8) (zbg (z0k z0j (cv 4) (cv 9) (λ_ _=>rfl)) (zc3 hr (z0k z0j (cv 0) (cv 9) (λ_ _=>rfl)) (z00 (z0k z0j (z0k z0j (cv 5) z06 (λ_ _=>rfl)) (z0k z0j (cv 7) z06 (λ_ _=>rfl)) (λ_ _=>rfl)) z03)) z4t)))))))
   (z07 (z0m (cv 4))))),?_⟩
 refine rd (σ':=[some (.ref ad),some (.ref ac),some (.ref as),some vn,none,none,none,none,none,none]) rfl ?_;walk_at "r";refine .inl ⟨⟨_,SqL.of hda⟩,?_⟩;refine cgo (σ':=[none,some vn]) rfl ?_;refine z1r (xs:=rs) (λj ys H1=>∃rv aF,ys=rv.map V.ref/\Rw K H H1 rv aF ((z4v (drs.take j) no).map λr=>r.map λp:Int×Int=>z3l p.1 p.2)/\rv.length=j/\∀r∈rv,H r=none) ⟨[],[],rfl,⟨by simp,rfl,rfl,λi r v h=>(by simp at h),λb o h=>(by unfold z7k;simpa using h),λi v d h=>(by simp at h)⟩,rfl,λr h=>(by cases h)⟩ (z0i (by lia)) ?_ ?_ ?_
 ·rintro j ys H1 _ ⟨rv,aF,rfl,g,rl,_⟩;exact⟨SqL.of (g.same _ _ hda),by rw[y04];lia⟩
 ·rintro j x ys H1 hx ⟨rv,aF,rfl,g,rl,rn⟩;have hj:=(y00.mp hx).1;have hSj:drs[j]?=some (drs[j]'(by lia)):=y01 (by lia)
  generalize drs[j]'(by lia)=row at hSj
  obtain⟨ra,hra1,hra⟩:=z41 hrs hSj;rw[hx] at hra1;cases hra1;have rl20:=drow row (y02 hSj);walk_at "r";refine z7r ⟨sz (by show 1≤1000;decide),λt1 ht1=>?_⟩
  have f1:=z04 ht1 (.lst [vn]);refine⟨_,.inl (SqL.of ((g.more f1).same _ _ hra)),?_⟩;rw[z0l];walk_at "r";refine⟨_,z01,by lia,by lia,sz (by show 1*_≤1000;lia),λl1 hl1=>?_⟩
  rw[z3y,show((row.length:Nat):Int).toNat=row.length by lia]
  have g1:=(g.more f1).snoc hl1 (v:=y07 row.length vn) (d:=y07 row.length (z3l no.1 no.2)) (z6m (Is.same (g.more f1).old _ _ iv) _);refine CNx.mk ⟨rv ++ [l1],aF ++ [y07 row.length vn],by rw[y0g];rfl,?_,by rw[y0e,rl];rfl,λr hr'=>?_⟩ hj
  ·rw[z0h hSj];unfold z4v at g1 ⊢
   rw[y0g,y0g];simpa using g1
  ·rcases y0y.mp hr' with z | z
   ·exact rn r z
   ·rw[y09.mp z];exact z3r ((g.more f1).same) hl1
 rintro ys H1 ⟨rv,aF,rfl,g,rl,rn⟩ l hl;rw[rsl,y0c (y0b _)] at g;have f1:=z04 hl (.lst (rv.map V.ref));have kl:=z01 (H:=H1) (a:=l) (o:=.lst (rv.map V.ref))
 have lrv:l ∉ rv:=λz=>by
  obtain⟨v,hv⟩:=g.here z;rw[hl] at hv;cases hv
 have g2:=(g.more f1).rebase;have sB:Same H (z7k (upd H1 l (.lst (rv.map V.ref))) rv):=(g.more f1).old
 have hln:=z3r g.same hl;have kb:z7k (upd H1 l (.lst (rv.map V.ref))) rv l=some (.lst (rv.map V.ref)):=by rw[zcx lrv];exact kl
 generalize upd H1 l (.lst (rv.map V.ref))=H2 at g2 sB kl kb ⊢
 generalize z7k H2 rv=Hb at g2 sB kb;clear g f1 hl kl;refine⟨false,false,⟨_,SqL.of (g2.same _ _ (sB _ _ hca))⟩,⟨_,SqL.of (g2.same _ _ (sB _ _ hsa))⟩,?_⟩;refine z9g (xs:=cs) (ys:=sv) L.length (by rw[csl,svl,y4i]) (λi σ' H'=>∃t5 t6 t7 t8 t9 aF,σ' = [some (.ref ad),some (.ref ac),some (.ref as),some vn,some (.ref l),t5,t6,t7,t8,t9]/\Rw K Hb H' rv aF (((((L.take i).zip (sss.take i)).flatMap λx=>z5y drs x.1 x.2).foldl PM.putT (z4v drs no)).map λr=>r.map λp:Int×Int=>z3l p.1 p.2)) ⟨_,_,_,_,_,aF,rfl,g2⟩ ?_ ?_ ?_
 ·rintro i σ' H' _ ⟨t5,t6,t7,t8,t9,aF,rfl,g⟩;exact⟨SqL.of (g.same _ _ (sB _ _ hca)),SqL.of (g.same _ _ (sB _ _ hsa))⟩
 ·rintro i x y σ' H' pt hx hy ⟨t5,t6,t7,t8,t9,aF,rfl,g⟩ hpt;have hi:=(y00.mp hx).1;have hc1:L[i]?=some (L[i]'(by lia)):=y01 _
  generalize L[i]'(by lia)=c at hc1
  have hs1:sss[i]?=some (sss[i]'(by lia)):=y01 _
  generalize sss[i]'(by lia)=ss at hs1
  obtain⟨x',hx1,ix⟩:=z1m hcs (show(L.map z2m)[i]?=some (z2m c) by rw[y06,hc1];rfl)
  rw[hx] at hx1;cases hx1;obtain⟨tc,ah,ax,rfl,k1,k2,k3⟩:=is_crowd.mp ix;obtain⟨y',hy1,iy⟩:=z1m hsv (show(sss.map λss=>PyData.list (ss.map λp:Int×Int=>z3l p.1 p.2))[i]?=some (.list (ss.map λp:Int×Int=>z3l p.1 p.2)) by rw[y06,hs1];rfl)
  rw[hy] at hy1;cases hy1;obtain⟨sa,vv,rfl,hsa1,hvv⟩:=is_list.mp iy;obtain⟨hnd,hl20,cl20,cin⟩:=lok c (y02 hc1);have sl1:=sok i c ss hc1 hs1;have vvl:vv.length=(z0o drs c.1 c.2).length:=by rw[z0g hvv,y04,sl1]
  have sT:=z04 hpt (.tup [.ref tc,.ref sa]);have g1:=g.more sT
  have kT:=z01 (H:=H') (a:=pt) (o:=.tup [.ref tc,.ref sa]);generalize upd H' pt (.tup [.ref tc,.ref sa])=H3 at g1 kT ⊢
  clear g sT hpt;walk_at "r";refine⟨_,_,SqT.of kT,?_⟩;walk_at "r";refine⟨ad,.ref tc,drs,c.1,c.2,rfl,Is.same (sB.trans g1.same) _ _ id,Is.same (sB.trans g1.same) _ _ ix,hnd,hl20,cl20,drow,cin,λvt H4 s4 it ⟨lt,e1,nlt⟩=>?_⟩;subst e1;obtain⟨_,tv,e0,hlt,htv⟩:=is_list.mp it;cases e0;have g3:=g1.more s4;have ltr:lt ∉ rv:=λz=>by
   obtain⟨v,hv⟩:=g1.here z;rw[nlt] at hv;cases hv
  have tvl:tv.length=(z0o drs c.1 c.2).length:=by rw[z0g htv,y04]
  have g4:=g3.rebase;have sC:Same Hb (z7k H4 rv):=g3.old
  have htv':=g3.prs htv;have hlt':z7k H4 rv lt=some (.lst tv):=by rw[zcx ltr];exact hlt
  generalize z7k H4 rv=Hc at g4 sC htv' hlt';clear g1 g3 s4 nlt hlt htv it kT;have sA:=sB.trans sC;refine⟨false,false,⟨_,SqL.of (g4.same _ _ hlt')⟩,⟨_,SqL.of (g4.same _ _ (sA _ _ hsa1))⟩,?_⟩;generalize hR0:(((L.take i).zip (sss.take i)).flatMap λx=>z5y drs x.1 x.2).foldl PM.putT (z4v drs no)=R0 at g4;refine z9g (xs:=tv) (ys:=vv) (z0o drs c.1 c.2).length (by rw[tvl,vvl,y4i]) (λj σ' H'=>∃t7 t8 t9 aF,σ' = [some (.ref ad),some (.ref ac),some (.ref as),some vn,some (.ref l),some (.ref tc),some (.ref sa),t7,t8,t9]/\Rw K Hc H' rv aF ((((z5y drs c ss).take j).foldl PM.putT R0).map λr=>r.map λp:Int×Int=>z3l p.1 p.2)) ⟨_,_,_,_,rfl,by simpa using g4⟩ ?_ ?_ ?_
  ·rintro j σ' H' _ ⟨t7,t8,t9,aF,rfl,g⟩;exact⟨SqL.of (g.same _ _ hlt'),SqL.of (g.same _ _ (sA _ _ hsa1))⟩
  ·rintro j x y σ' H' pt hx hy ⟨t7,t8,t9,aF,rfl,g⟩ hpt;have hj:=(y00.mp hx).1;have ht1:(z0o drs c.1 c.2)[j]?=some ((z0o drs c.1 c.2)[j]'(by lia)):=y01 _
   generalize (z0o drs c.1 c.2)[j]'(by lia)=tp at ht1
   have ha1:ss[j]?=some (ss[j]'(by lia)):=y01 _
   generalize ss[j]'(by lia)=am at ha1
   obtain⟨x',hx1,ix⟩:=z1m htv' (show((z0o drs c.1 c.2).map pr)[j]?=some (pr tp) by rw[y06,ht1];rfl)
   rw[hx] at hx1;cases hx1;obtain⟨pa,rfl,hpa⟩:=(is_frac (n:=(tp.1:Int)) (d:=(tp.2:Int))).mp ix;obtain⟨y',hy1,iy'⟩:=z1m hvv (show(ss.map λp:Int×Int=>z3l p.1 p.2)[j]?=some (z3l am.1 am.2) by rw[y06,ha1];rfl)
   rw[hy] at hy1;cases hy1;obtain⟨x0,h0,hx0,hh0,hin⟩:=(z26 hnd tp.1 tp.2).mp (y02 ht1);have xlt:x0<drs.length:=cin x0 (y02 hx0);have hrow:drs[x0]?=some (z2i drs x0):=by
    unfold z2i;rw[y05,y01 xlt];rfl
   obtain⟨ra,hra1,hra⟩:=z41 hrs hrow;have rx:rv[x0]?=some (rv[x0]'(by lia)):=y01 _
   generalize rv[x0]'(by lia)=r0 at rx
   have vx:aF[x0]?=some (aF[x0]'(by rw[g.len];lia)):=y01 _
   generalize aF[x0]'(by rw[g.len];lia)=v0 at vx
   have htr:(z5y drs c ss)[j]?=some (x0,(z2i drs x0).idxOf h0,am):=by
    unfold z5y;rw[y06,(y0w (z:=(tp,am))).mpr ⟨ht1,ha1⟩];show some (c.2.getD tp.1 0,(z2i drs (c.2.getD tp.1 0)).idxOf (c.1.getD tp.2 0),am)=_;rw[PM.getD_of hx0,PM.getD_of hh0]
   have sT:=z04 hpt (.tup [.ref pa,y]);have g1:=g.more sT
   have kT:=z01 (H:=H') (a:=pt) (o:=.tup [.ref pa,y]);generalize upd H' pt (.tup [.ref pa,y])=H5 at g1 kT ⊢
   clear g sT hpt;have sH:=sA.trans g1.same;have Rl:((((z5y drs c ss).take j).foldl PM.putT R0)).length=rv.length:=by have:=g1.dlen;rw[y04] at this;exact this
   generalize hR1:(((z5y drs c ss).take j).foldl PM.putT R0)=R1 at g1 Rl;have dx:(R1.map λr=>r.map λp:Int×Int=>z3l p.1 p.2)[x0]?=some ((R1.getD x0 []).map λp:Int×Int=>z3l p.1 p.2):=by
    rw[y06,y05,y01 (by lia)]
    rfl
   have al0:=g1.all x0 v0 _ vx dx;have vl0:v0.length=(z2i drs x0).length:=by
    rw[z0g al0,y04,←hR1,←hR0,←y4d];refine(zdt _ _ (λt ht=>?_) (z8r drs no)).2 x0 xlt;have one:∀{c:PM.Cr} {ss:List (Int×Int)},c∈L->t∈z5y drs c ss->t.1<drs.length:=λ{c ss} hc ht=>by
     obtain⟨n1,_,_,ci⟩:=lok c hc;obtain⟨_,_,x,_,_,z1,_,_,z2,_⟩:=z3j n1 ht;rw[z2];exact ci x (y02 z1)
    rcases y0y.mp ht with z | z
    ·obtain⟨u,hu,hu2⟩:=y2k.mp z;exact one (y3b (y1c hu).1) hu2
    ·exact one (y02 hc1) (y3b z)
   have klt:=y1g hin;have st:=SqT.of (K:=K) (g1.same _ _ hpa)
   have sc:=SqT.of (K:=K) (sH _ _ k1);walk_at "r";refine⟨_,_,SqT.of kT,?_⟩;walk_at "r";refine⟨_,_,.inr sc,rfl,_,_,.inr st,rfl,_,_,.inl (SqL.of (sH _ _ k3)),zp5 hx0,?_⟩;walk_at "r";refine⟨_,_,.inl (SqL.of (g1.same _ _ (sC _ _ kb))),z24 (show(rv.map V.ref)[x0]?=some (.ref r0) by rw[y06,rx];rfl),_,_,.inl (SqL.of (sH _ _ hda)),z24 hra1,⟨_,sH _ _ hra⟩,_,_,.inr sc,rfl,_,_,.inr st,rfl,_,_,.inl (SqL.of (sH _ _ k2)),zp5 hh0,(z2i drs x0).map λ(n:Nat)=>(n:Int),by rw[sH _ _ hra,z9i],y1i.mpr ⟨h0,hin,rfl⟩,λk hk _=>?_⟩
   have ek:=z55 (dnd _ (y02 hrow)) (zpf hk);refine⟨v0,k,g1.at_ x0 r0 v0 rx vx,z3g (by rw[vl0,←ek];exact klt),?_⟩
   refine⟨_,_,_,aF.set x0 (v0.set k y),rfl,?_⟩;have g2:=g1.set rx vx (z67 (i:=k) al0 (Is.same (sA.trans g1.old) _ _ iy'));rw[z0h htr,y4d,y3k,List.foldl_nil,hR1,zmr (by lia),ek]
   exact g2
  ·rintro σ' H' ⟨t7,t8,t9,aF,rfl,g⟩;refine⟨_,_,_,_,_,aF,rfl,?_⟩;rw[show(z5y drs c ss).take (z0o drs c.1 c.2).length=z5y drs c ss from y0c (by unfold z5y;rw[y04,y45];lia),←hR0,←y4d] at g
   have e:(((L.take (i+1)).zip (sss.take (i+1))).flatMap λx=>z5y drs x.1 x.2)=(((L.take i).zip (sss.take i)).flatMap λx=>z5y drs x.1 x.2)++z5y drs c ss:=by
    rw[z0h hc1,z0h hs1,y4y (by rw[y0t,y0t];lia),y4z]
    simp
   rw[e];exact g.base sC
 ·rintro σ' H' ⟨t5,t6,t7,t8,t9,aF,rfl,g⟩;rw[show L.take L.length=L from y0c (y0b _),show sss.take L.length=sss from y0c (by lia)] at g
  walk_at "r";refine q l rv H' ⟨sB.trans g.same,hln,g.same _ _ kb,λr hr'=>⟨rn r hr',λz=>lrv (z▸hr')⟩,by have:=g.dlen;rw[y04] at this;exact this.symm,λi r row h1 h2=>?_,g.nd⟩
  have hv:aF[i]?=some (aF[i]'(by rw[g.len];exact(y00.mp h1).1)):=y01 _
  unfold z2b at h2;exact⟨_,g.at_ i r _ h1 hv,IsAll.same zdx _ _ (g.all i _ _ hv (by rw[y06,h2];rfl))⟩
noncomputable abbrev z2a:Stmt:=top 21
theorem sc_deal_evenly:FnScope ["works","doers","many","crowds","sents"] ["works","doers","many"] (z05 z2a):=⟨rfl,rfl,rfl,by decide +kernel,rfl,by decide +kernel,by decide +kernel⟩
theorem z99 (T:Top K mg "deal_evenly" z2a ["works","doers","many"])(B:Blt mg)(BS:mg "set"=none)(aZ:Def P w K mg base "crowds_by" 10 ["works","doers","many"] (zab K))(bN:Def P w K mg base "shares_in" 10 ["works","doers","crowd"] (z9u K))(bP:Def P w K mg base "rows_from" 2 ["doers","crowds","sents","nothing"] (zhz K (λp:Int×Int=>z3l p.1 p.2))):Def P w K mg base "deal_evenly" 11 ["works","doers","many"] (za4 K):=by
 refine z1h (k:=10) T sc_deal_evenly (λvs H Q E h=>?_) (λf cdv A outer s H vs Q E hr h=>?_)
 ·obtain⟨aw,ad,au,ws,drs,rfl,_⟩:=h;rfl
 obtain⟨aw,ad,au,ws,drs,rfl,ask,dk,dnd,q⟩:=h;have few:=ask.few;refine⟨_,(z02 (z0d 3 sc_deal_evenly.nd (z0e aZ (hr.mono (by decide)) (z00 (cv 0) (z00 (cv 1) (z00 (cv 2) z03)))))
   (z02 (zaj (N:=["crowd","works","doers"]) (fr:=[0,1]) 4 1 sc_deal_evenly.nd (z1o (cv 3)) (λC hN=>by exact pgC ((z0b 0 hN)) (by walk_at "c")) (λC hN=>by exact peC ((z0e bN (hr.mono (by decide)) (z00 (cv 1) (z00 (cv 2) (z00 (cv 0) z03))))) (by walk_at "c")))
   (z07 (z0m (z0e bP (hr.mono (by decide)) (z00 (cv 1) (z00 (cv 3) (z00 (cv 4) (z00 (z2s (z00 z06 (z00 z06 z03))) z03))))))))),?_⟩
 refine rd (σ':=[some (.ref aw),some (.ref ad),some (.int (au:Int)),none,none]) rfl ?_;walk_at "r";refine⟨aw,ad,au,ws,drs,rfl,ask,dk,λL c1 c2 c3 vl H1 s1 il=>?_⟩;have co:CrOk ws drs au L:=⟨c1,c2,c3⟩;have lfew:=co.few dk.few
 obtain⟨al,lv,rfl,hal,hlv⟩:=is_list.mp il;have lvl:lv.length=L.length:=by rw[z0g hlv,y04]
 walk_at "r";refine .inl ⟨⟨_,SqL.of hal⟩,?_⟩;refine cgo (σ':=[none,some (.ref aw),some (.ref ad)]) rfl ?_;refine z1r (xs:=lv) (λj ys H2=>Same H1 H2/\ys.length≤j/\∃sss:List (List (Int×Int)),IsAll K H2 ys (sss.map λss=>z5j ss)/\sss.length=j/\∀(i:Nat) c ss,L[i]?=some c->sss[i]?=some ss->ShcOk ws drs c ss) ⟨Same.refl _,y0b _,[],z0r,rfl,λi c ss _ z=>(by simp at z)⟩ (z0i (by lia)) ?_ ?_ ?_
 ·rintro j ys H2 _ ⟨e2,yl,_⟩;exact⟨SqL.of (e2 _ _ hal),yl⟩
 ·rintro j x ys H2 hx ⟨e2,yl,sss,al2,sl2,sp⟩;have hj:=(y00.mp hx).1;have hc1:L[j]?=some (L[j]'(by lia)):=y01 _
  generalize L[j]'(by lia)=c at hc1
  obtain⟨x',hx1,ix⟩:=z1m hlv (show(L.map z2m)[j]?=some (z2m c) by rw[y06,hc1];rfl)
  rw[hx] at hx1;cases hx1;walk_at "r";refine z7r ⟨aw,ad,x,ws,drs,c,rfl,ask.same (s1.trans e2),Is.same e2 _ _ ix,co.crowdP dk.few few (y02 hc1),λss pk v H3 s3 is3=>?_⟩;refine CNx.mk ⟨e2.trans s3,by rw[y0e];show _+1≤_;lia,sss ++ [ss],?_,by rw[y0e,sl2];rfl,λi c' ss' h1 h2=>?_⟩ hj
  ·rw[y0g];exact z1j (IsAll.same s3 _ _ al2) is3
  ·rcases z3w h2 with z | ⟨z1,z2⟩
   ·exact sp i c' ss' h1 z
   ·subst z2;rw[z1,sl2,hc1] at h1;cases h1;exact pk
 rintro ys H2 ⟨e2,yl,sss,al2,sl2,sp⟩ ls hls;rw[lvl] at sl2;have f3:=z04 hls (.lst ys);walk_at "r";refine⟨sz (by show 2≤1000;decide),λpz hpz=>?_⟩
 have f4:=z04 hpz (.tup [.int 0,.int 1]);have sB:=e2.trans (f3.trans f4)
 have sA:=s1.trans sB;refine⟨ad,al,ls,.ref pz,drs,L,sss,(0,1),rfl,Is.same sA _ _ ask.d,Is.same sB _ _ il,is_list.mpr ⟨ls,ys,rfl,f4 _ _ z01,IsAll.same (f3.trans f4) _ _ al2⟩,is_frac.mpr ⟨pz,rfl,z01⟩,by rw[ask.len];exact few,ask.row,dnd,lfew,λc hc=>?_,sl2,λi c ss h1 h2=>(sp i c ss h1 h2).len,λl rv H4 t=>?_⟩
 ·have p:=co.crowdP dk.few few hc;exact⟨p.nd,p.hl,p.cl,λx hx=>by rw[ask.len];exact p.ci x hx⟩
 ·refine q L sss l rv H4 co sl2 sp ⟨sA.trans t.same,z3r sA t.new,t.out,λr hr'=>⟨z3r sA (t.rows r hr').1,(t.rows r hr').2⟩,t.len,t.at_,t.nd⟩
noncomputable abbrev z5e:Stmt:=top 34
theorem zgv:FnScope ["_law_one","_law_other"] ["_law_one","_law_other"] (z05 z5e):=⟨rfl,rfl,rfl,by decide +kernel,rfl,by decide +kernel,by decide +kernel⟩
theorem zh4 (T:Top K mg "_law_below" z5e ["_law_one","_law_other"])(B:Blt mg)(BS:mg "set"=none) :Def P w K mg base "_law_below" 1 ["_law_one","_law_other"] (zhr K):=by
 refine z1h (k:=0) T zgv (λvs H Q E h=>?_) (λf cdv A outer s H vs Q E hr h=>?_)
 ·obtain⟨x,y,a,b,c,d,rfl,_⟩:=h;rfl
 obtain⟨x,y,a,b,c,d,rfl,hx,hy,ba,bb,bc,bd,q⟩:=h;obtain⟨p,rfl,hp0⟩:=is_frac.mp hx;obtain⟨r,rfl,hr0⟩:=is_frac.mp hy;have hp:SqT K H p _:=SqT.of hp0;have hr':SqT K H r _:=SqT.of hr0
 refine⟨_,(z07 (z0m (z33 z84 (z0n z3c (z0k z0j (cv 0) z06 (λ_ _=>rfl)) (z0k z0j (cv 1) z06 (λ_ _=>rfl))) (z0n z3c (z0k z0j (cv 1) z06 (λ_ _=>rfl)) (z0k z0j (cv 0) z06 (λ_ _=>rfl))) (z0p _)))),?_⟩;refine rd (σ':=[some (.ref p),some (.ref r)]) rfl ?_;walk_at "r";exact⟨_,_,.inr hp,rfl,_,_,.inr hr',rfl,z9a ba bd (by decide),_,_,.inr hr',rfl,_,_,.inr hp,rfl,z9a bc bb (by decide),q⟩
noncomputable abbrev z7a:Stmt:=top 37
theorem sc_Leven:FnScope ["_law_shares_here","_law_doers","_law_loads","_law_row_here","_law_some","_law_one","_law_share","_law_other"] ["_law_shares_here","_law_doers","_law_loads"] (z05 z7a):=⟨rfl,rfl,rfl,by decide +kernel,rfl,by decide +kernel,by decide +kernel⟩
theorem zjv (T:Top K mg "_law_even" z7a ["_law_shares_here","_law_doers","_law_loads"])(B:Blt mg)(BS:mg "set"=none)(cx:Def P w K mg base "_law_below" 1 ["_law_one","_law_other"] (zhr K)):Def P w K mg base "_law_even" 2 ["_law_shares_here","_law_doers","_law_loads"] (zdb K):=by
 refine z1h (k:=1) T sc_Leven (λvs H Q E h=>?_) (λf cdv A outer s H vs Q E hr h=>?_)
 ·obtain⟨l,ad,lo,au,ws,drs,R,qs,rfl,_⟩:=h;rfl
 obtain⟨l,ad,lo,au,ws,drs,R,qs,rfl,ip,id,il,d,q⟩:=h;obtain⟨_,rs,e0,hda,hrs⟩:=is_list.mp id;cases e0;obtain⟨_,pv,e0,hpa,hpv⟩:=is_list.mp ip;cases e0;obtain⟨_,lv,e0,hla,hlv⟩:=is_list.mp il;cases e0;have rl:=d.ev.len;have rsl:rs.length=drs.length:=by rw[z0g hrs,y04]
 have pvl:pv.length=drs.length:=by rw[z0g hpv,y04,rl]
 have qlen:=d.len;refine⟨_,(z02 (z1u (z5u B.zip (cv 1) (cv 0)) (z74 (z0b 3 sc_Leven.nd) (z0b 4 sc_Leven.nd))
   (z07 (z1u (z5u B.zip (cv 3) (cv 4)) (z74 (z0b 5 sc_Leven.nd) (z0b 6 sc_Leven.nd))
    (z07 (z1u (z1o (cv 3)) (z0b 7 sc_Leven.nd)
     (z07 (z3d (z9m (z0w z71 (z0k z0j (cv 6) z06 (λ_ _=>rfl)) z06 (z0p _)) (z6u (z2r (z0e cx (hr.mono (by decide)) (z00 (z0k z0j (cv 2) (cv 7) (λ_ _=>rfl)) (z00 (z0k z0j (cv 2) (cv 5) (λ_ _=>rfl)) z03)))))).pt
      (z07 (z0m z79))
      z1d)))))))
   (z07 (z0m z79))),?_⟩
 refine rd (σ':=[some (.ref l),some (.ref ad),some (.ref lo),none,none,none,none,none]) rfl ?_;walk_at "r";refine⟨false,false,⟨_,SqL.of hda⟩,⟨_,SqL.of hpa⟩,?_⟩;refine z9g (xs:=rs) (ys:=pv) drs.length (by rw[rsl,pvl,y4i]) (λi σ' H'=>Same H H'/\∃t3 t4 t5 t6 t7,σ' = [some (.ref l),some (.ref ad),some (.ref lo),t3,t4,t5,t6,t7]) ⟨Same.refl _,_,_,_,_,_,rfl⟩ ?_ ?_ ?_
 ·rintro i σ' H' _ ⟨s1,_⟩;exact⟨SqL.of (s1 _ _ hda),SqL.of (s1 _ _ hpa)⟩
 ·rintro i y z σ' H' pt hy hz ⟨s1,t3,t4,t5,t6,t7,rfl⟩ hpt;have hi:=(y00.mp hy).1;have hr1:drs[i]?=some (drs[i]'(by lia)):=y01 _
  have hs1:R[i]?=some (R[i]'(by lia)):=y01 _
  generalize drs[i]'(by lia)=r at hr1
  generalize R[i]'(by lia)=s at hs1
  obtain⟨ra,hra1,hra⟩:=z41 hrs hr1;rw[hy] at hra1;cases hra1;obtain⟨z',hz1,iz⟩:=z1m hpv (show(R.map z5j)[i]?=some (z5j s) by rw[y06,hs1];rfl)
  rw[hz] at hz1;cases hz1;obtain⟨sa,sv,rfl,hsa,hsv⟩:=is_list.mp iz;have k1:=d.ev.row i r s hr1 hs1;have svl:sv.length=s.length:=by rw[z0g hsv,y04]
  obtain⟨_,b7,rlt⟩:=d.rows.2 r (y02 hr1);have ev:=d.ev.even i r s hr1 hs1;have sT:=z04 hpt (.tup [.ref ra,.ref sa])
  have s2:=s1.trans sT;have kT:=z01 (H:=H') (a:=pt) (o:=.tup [.ref ra,.ref sa])
  generalize upd H' pt (.tup [.ref ra,.ref sa])=H2 at s2 kT ⊢
  walk_at "r";refine⟨_,_,SqT.of kT,?_⟩;walk_at "r";refine⟨false,false,⟨_,SqL.of (s2 _ _ hra)⟩,⟨_,SqL.of (s2 _ _ hsa)⟩,?_⟩;refine z9g (xs:=z09 r) (ys:=sv) r.length (by rw[z0l,svl,k1,y4i]) (λj σ' H'=>Same H H'/\∃t5 t6 t7,σ' = [some (.ref l),some (.ref ad),some (.ref lo),some (.ref ra),some (.ref sa),t5,t6,t7]) ⟨s2,_,_,_,rfl⟩ ?_ ?_ ?_
  ·rintro j σ' H' _ ⟨s1,_⟩;exact⟨SqL.of (s1 _ _ hra),SqL.of (s1 _ _ hsa)⟩
  ·rintro j x y σ' H' pt hx hy ⟨s1,t5,t6,t7,rfl⟩ hpt;obtain⟨h,hh,rfl⟩:=z2q hx;obtain⟨b,ba,hb,rfl,hba⟩:=zah (IsAll.same s1 _ _ hsv) hy;have sT:=z04 hpt (.tup [.int (h:Int),.ref ba]);have s3:=s1.trans sT
   have kT:=z01 (H:=H') (a:=pt) (o:=.tup [.int (h:Int),.ref ba]);replace hba:=sT _ _ hba;generalize upd H' pt (.tup [.int (h:Int),.ref ba])=H3 at s3 kT hba ⊢
   have look:∀h'∈r,∃qv va,qs[h']?=some qv/\lv[h']?=some va/\Is K H va (z3l qv.1 qv.2)/\Bd 100000 qv.1/\Bd 100000 qv.2:=λh' hh'=>by
    have hlt:=rlt h' hh';have qo:qs[h']?=some (qs[h']'(by lia)):=y01 _
    obtain⟨va,hva,iva⟩:=z1m hlv (show(qs.map λp=>z3l p.1 p.2)[h']?=some (z3l (qs[h']'(by lia)).1 (qs[h']'(by lia)).2) by rw[y06,qo];rfl)
    obtain⟨o1,o2,o3,o4⟩:=d.ok _ (y02 qo);refine⟨_,va,qo,hva,iva,o4.le (by decide),?_⟩
    have o5:=o1.1;show(qs[h']'(by lia)).2.natAbs<2^100000
    exact y0r (show(qs[h']'(by lia)).2.natAbs<2^5 by lia) (y4o (by decide) (by decide))
   obtain⟨qa,va,hqa,hva,iva,ba1,ba2⟩:=look h (y02 hh);walk_at "r";refine⟨_,_,SqT.of kT,?_⟩;walk_at "r";refine .inl ⟨⟨_,SqL.of (s3 _ _ hra)⟩,?_⟩;refine z2t (xs:=z09 r) (λm σ' H'=>H'=H3/\∃t7,σ' = [some (.ref l),some (.ref ad),some (.ref lo),some (.ref ra),some (.ref sa),some (.int (h:Int)),some (.ref ba),t7]) ⟨rfl,_,rfl⟩ ?_ ?_ ?_
   ·rintro m σ' H' _ ⟨rfl,_⟩;exact SqL.of (s3 _ _ hra)
   ·rintro m x σ' H' hx ⟨rfl,t7,rfl⟩;obtain⟨o,ho,rfl⟩:=z2q hx;obtain⟨qb,vb,hqb,hvb,ivb,bb1,bb2⟩:=look o (y02 ho);walk_at "r";refine⟨_,_,.inr (SqT.of hba),rfl,?_⟩;walk_at "r";refine z4d (λc=>?_) (λc=>⟨rfl,_,rfl⟩);refine⟨_,_,.inl (SqL.of (s3 _ _ hla)),z24 hvb,_,_,.inl (SqL.of (s3 _ _ hla)),z24 hva,_,_,qb.1,qb.2,qa.1,qa.2,rfl,Is.same s3 _ _ ivb,Is.same s3 _ _ iva,bb1,bb2,ba1,ba2,?_⟩;have le:=ev j b h hb hh (of_decide_eq_true c) o (y02 ho) qa qb hqa hqb;walk_at "r";rw[decide_eq_false (show ¬qb.1*qa.2<qa.1*qb.2 by lia)]
    exact z91 ⟨rfl,_,rfl⟩
   ·rintro σ' H' ⟨rfl,t7,rfl⟩;exact⟨s3,_,_,_,rfl⟩
  ·rintro σ' H' ⟨s1,t5,t6,t7,rfl⟩;exact⟨s1,_,_,_,_,_,rfl⟩
 ·rintro σ' H' ⟨s1,t3,t4,t5,t6,t7,rfl⟩;walk_at "r";exact q H' s1
noncomputable abbrev z3p:Stmt:=top 27
theorem sc_Ldivisor:FnScope ["_law_one","_law_other","_law_left","_law_right"] ["_law_one","_law_other"] (z05 z3p):=⟨rfl,rfl,rfl,by decide +kernel,rfl,by decide +kernel,by decide +kernel⟩
theorem zd3 (T:Top K mg "_law_divisor" z3p ["_law_one","_law_other"])(B:Blt mg)(BS:mg "set"=none) :Def P w K mg base "_law_divisor" 1 ["_law_one","_law_other"] (spG):=by
 refine z1h (k:=0) T sc_Ldivisor (λvs H Q E h=>?_) (λf cdv A outer s H vs Q E hr h=>?_)
 ·unfold spG at h
  split at h
  ·rfl
  ·exact h.elim
 unfold spG at h
 split at h
 ·rename_i a b;refine⟨_,(z02 (z0d 2 sc_Ldivisor.nd (z43 zbq B.abs zc2 (z00 (cv 0) z03)))
   (z02 (z0d 3 sc_Ldivisor.nd (z43 zbq B.abs zc2 (z00 (cv 1) z03)))
   (z02 (ze1 (z0w z71 (cv 2) z06 (z0p _))
   (z07 (zow 2 3 sc_Ldivisor.nd (z00 (z0n z20 (cv 3) (cv 2)) (z00 (cv 2) z03)))))
   (z07 (z0m (cv 3)))))),?_⟩
  refine rd (σ':=[some (.int a),some (.int b),none,none]) rfl ?_;walk_at "r";refine⟨fun σ H'=>H'=H/\∃(l g:Int),σ = [some (.int a),some (.int b),some (.int l),some (.int g)]/\0≤g/\0≤l/\y22 g l=y22 a b,
   fun σ _=>match σ with | [_,_,some (.int l),_]=>l.toNat | _=>0,⟨rfl,_,_,rfl,zb2 b,zb2 a,by rw[y73];exact zhj a b⟩,?_⟩
  rintro σ H' ⟨rfl,l,g,rfl,hg,hl,e⟩;walk_at "r";refine z4d (λc=>?_) (λc=>?_)
  ·have c':0<l:=of_decide_eq_true c;refine⟨c',⟨rfl,g % l,l,rfl,hl,y1r _ (by lia),by rw[zeq hg c',e]⟩,?_⟩
   have:=y1u g c';have:=y1r g (show l≠0 by lia)
   lia
  ·have c':¬ 0<l:=λz=>c (decide_eq_true z);have e0:l=0:=by lia
   subst e0;rw[←e,zdz hg] at h;exact h
 ·exact h.elim
noncomputable abbrev z4b:Stmt:=top 29
theorem sc_Llowest:FnScope ["_law_top","_law_bottom","_law_by"] ["_law_top","_law_bottom"] (z05 z4b):=⟨rfl,rfl,rfl,by decide +kernel,rfl,by decide +kernel,by decide +kernel⟩
theorem zfe (T:Top K mg "_law_lowest" z4b ["_law_top","_law_bottom"])(B:Blt mg)(BS:mg "set"=none)(bh:Def P w K mg base "_law_divisor" 1 ["_law_one","_law_other"] (spG)):Def P w K mg base "_law_lowest" 2 ["_law_top","_law_bottom"] (zbb K):=by
 refine z1h (k:=1) T sc_Llowest (λvs H Q E h=>?_) (λf cdv A outer s H vs Q E hr h=>?_)
 ·obtain⟨a,b,rfl,_⟩:=h;rfl
 obtain⟨a,b,rfl,hb,hB,q⟩:=h;refine⟨_,(z02 (z0d 2 sc_Llowest.nd (z0e bh (hr.mono (by decide)) (z00 (cv 0) (z00 (cv 1) z03))))
   (z02 (z3d (z0w z84 (cv 1) z06 (z0p _))
   (z07 (z0d 2 sc_Llowest.nd (zcs z8i (cv 2))))
   z1d)
   (z07 (z0m (z2s (z00 (z0n z3q (cv 0) (cv 2)) (z00 (z0n z3q (cv 1) (cv 2)) z03))))))),?_⟩
 refine rd (σ':=[some (.int a),some (.int b),none]) rfl ?_;walk_at "r";have fin:∀j:Int,j=(if b<0 then -((y22 a b:Nat):Int) else (y22 a b:Nat))->j≠0/\j.natAbs.log2<9000/\j≠0/\j.natAbs.log2<9000/\2≤sizeLine/\∀p,H p=none->Q (.ref p) (upd H p (.tup [.int (a.fdiv j),.int (b.fdiv j)])):=λj hj=>by
  obtain⟨h1,h2,h3,h4,h5⟩:=z7t hb hj;exact⟨h1,zpy hB h2 h1,h1,zpy hB h2 h1,sz (by show 2≤1000;decide),(q _ _ h3 h4 h5).ints2⟩
 refine z4d (λc=>?_) (λc=>?_)
 ·exact fin _ (if_pos (of_decide_eq_true c)).symm
 ·exact fin _ (if_neg (λz=>c (decide_eq_true z))).symm
noncomputable abbrev z6r:Stmt:=top 33
theorem zkm:FnScope ["_law_one","_law_other"] ["_law_one","_law_other"] (z05 z6r):=⟨rfl,rfl,rfl,by decide +kernel,rfl,by decide +kernel,by decide +kernel⟩
theorem ziy (T:Top K mg "_law_plus" z6r ["_law_one","_law_other"])(B:Blt mg)(BS:mg "set"=none)(cf:Def P w K mg base "_law_lowest" 2 ["_law_top","_law_bottom"] (zbb K)):Def P w K mg base "_law_plus" 3 ["_law_one","_law_other"] (znn K (λa b c d=>a*d+c*b)):=by
 refine z1h (k:=2) T zkm (λvs H Q E h=>?_) (λf cdv A outer s H vs Q E hr h=>?_)
 ·obtain⟨x,y,a,b,c,d,rfl,_⟩:=h;rfl
 obtain⟨x,y,a,b,c,d,rfl,hx,hy,hb,hd,ba,bb,bc,bd,q⟩:=h;obtain⟨p,rfl,hp0⟩:=is_frac.mp hx;obtain⟨r,rfl,hr0⟩:=is_frac.mp hy;have hp:SqT K H p _:=SqT.of hp0;have hr':SqT K H r _:=SqT.of hr0
 refine⟨_,(z07 (z0m (z0e cf (hr.mono (by decide)) (z00 (z0n z3b (z0n z3c (z0k z0j (cv 0) z06 (λ_ _=>rfl)) (z0k z0j (cv 1) z06 (λ_ _=>rfl))) (z0n z3c (z0k z0j (cv 1) z06 (λ_ _=>rfl)) (z0k z0j (cv 0) z06 (λ_ _=>rfl)))) (z00 (z0n z3c (z0k z0j (cv 0) z06 (λ_ _=>rfl)) (z0k z0j (cv 1) z06 (λ_ _=>rfl))) z03))))),?_⟩
 refine rd (σ':=[some (.ref p),some (.ref r)]) rfl ?_;walk_at "r";exact⟨_,_,.inr hp,rfl,_,_,.inr hr',rfl,z9a ba bd (by decide),_,_,.inr hr',rfl,_,_,.inr hp,rfl,z9a bc bb (by decide),_,_,.inr hp,rfl,_,_,.inr hr',rfl,z9a bb bd (by decide),_,_,rfl,y65 hb hd,(bb.mul bd).le (by decide),q⟩
noncomputable abbrev z6x:Stmt:=top 35
theorem sc_Lbear:FnScope ["_law_doers","_law_many","_law_shares_here","_law_loads","_law_row_here","_law_some","_law_hand","_law_share"] ["_law_doers","_law_many","_law_shares_here"] (z05 z6x):=⟨rfl,rfl,rfl,by decide +kernel,rfl,by decide +kernel,by decide +kernel⟩
theorem zjp (T:Top K mg "_law_bear" z6x ["_law_doers","_law_many","_law_shares_here"])(B:Blt mg)(BS:mg "set"=none)(bR:Def P w K mg base "_law_plus" 3 ["_law_one","_law_other"] (znn K (λa b c d=>a*d+c*b))):Def P w K mg base "_law_bear" 4 ["_law_doers","_law_many","_law_shares_here"] (zh1 K):=by
 refine z1h (k:=3) T sc_Lbear (λvs H Q E h=>?_) (λf cdv A outer s H vs Q E hr h=>?_)
 ·obtain⟨ad,as,au,drs,shs,M,rfl,_⟩:=h;rfl
 obtain⟨ad,as,au,drs,shs,M,rfl,id,is,ok,hm,q⟩:=h;obtain⟨_,rs,e0,hda,hrs⟩:=is_list.mp id;cases e0;obtain⟨_,ss,e0,hsa,hss⟩:=is_list.mp is;cases e0;have rsl:rs.length=drs.length:=by rw[z0g hrs,y04]
 have ssl:ss.length=shs.length:=by rw[z0g hss,y04]
 refine⟨_,(z02 (z0d 3 sc_Lbear.nd (z0n z3c (z1b (z00 (z2s (z00 z06 (z00 z06 z03))) z03)) (cv 1)))
   (z02 (z1u (z5u B.zip (cv 0) (cv 2)) (z74 (z0b 4 sc_Lbear.nd) (z0b 5 sc_Lbear.nd))
   (z07 (z1u (z5u B.zip (cv 4) (cv 5)) (z74 (z0b 6 sc_Lbear.nd) (z0b 7 sc_Lbear.nd))
    (z07 (z9n (z0e bR (hr.mono (by decide)) (z00 (z0k z0j (cv 3) (cv 6) (λ_ _=>rfl)) (z00 (cv 7) z03))) (zbg (cv 3) (cv 6) z4t))))))
   (z07 (z0m (cv 3))))),?_⟩
 refine rd (σ':=[some (.ref ad),some (.int (au:Int)),some (.ref as),none,none,none,none,none]) rfl ?_;walk_at "r";refine⟨sz (by show 2≤1000;decide),λt0 ht0=>⟨sz (by show 1≤1000;decide),λl0 hl0=>?_⟩⟩
 have w1:=z04 ht0 (.tup [.int 0,.int 1]);have w2:=z04 hl0 (.lst [.ref t0])
 refine⟨_,z01,by lia,by lia,sz (by show 1*_≤1000;lia),λl hl=>?_⟩
 rw[z3y,show((au:Int)).toNat=au by lia]
 have g0:Grow K H (upd (upd (upd H t0 (.tup [.int 0,.int 1])) l0 (.lst [.ref t0])) l (.lst (y07 au (V.ref t0)))) l (y07 au (V.ref t0)) ((y07 au ((0,1):Int×Int)).map λp=>z3l p.1 p.2):=by
  refine⟨?_,z01,?_⟩
  ·rw[z2z];exact(w1.trans w2).trans (zao hl)
  ·rw[z2z,y38];have e:(del (upd (upd H t0 (.tup [.int 0,.int 1])) l0 (.lst [.ref t0])) l) t0=some (.tup [.int 0,.int 1]):=by
    have e1:=w2 _ _ (z01 (H:=H) (a:=t0) (o:=.tup [.int 0,.int 1]));rw[z8l (z08 e1 hl)];exact e1
   exact z6m (is_frac.mpr ⟨t0,rfl,e⟩) au
 generalize upd (upd (upd H t0 (.tup [.int 0,.int 1])) l0 (.lst [.ref t0])) l (.lst (y07 au (V.ref t0)))=H1 at g0 ⊢
 clear w1 w2 hl ht0 hl0;refine⟨false,false,⟨_,SqL.of (g0.same _ _ hda)⟩,⟨_,SqL.of (g0.same _ _ hsa)⟩,?_⟩;have len:=ok.len;have few:=ok.few
 refine z9g (xs:=rs) (ys:=ss) drs.length (by rw[rsl,ssl,len,y4i]) (λi σ' H'=>∃t4 t5 t6 t7 vs qs,σ' = [some (.ref ad),some (.int (au:Int)),some (.ref as),some (.ref l),t4,t5,t6,t7]/\Grow K H H' l vs (qs.map λp=>z3l p.1 p.2)/\qs.length=au/\LdB M (z4u (drs.take i) (shs.take i)) qs) ⟨_,_,_,_,_,y07 au (0,1),rfl,g0,y1k,?_⟩ ?_ ?_ ?_
 ·intro h z hz;rw[y1f] at hz
  split at hz
  ·cases hz;exact⟨⟨by decide,by decide⟩,by simp[z4u,bag]⟩
  ·cases hz
 ·rintro i σ' H' _ ⟨t4,t5,t6,t7,vs,qs,rfl,g,_⟩;exact⟨SqL.of (g.same _ _ hda),SqL.of (g.same _ _ hsa)⟩
 ·rintro i x y σ' H' pt hx hy ⟨t4,t5,t6,t7,vs,qs,rfl,g,ql,lb⟩ hpt;have hi:=(y00.mp hx).1;have hr1:drs[i]?=some (drs[i]'(by lia)):=y01 _
  have hs1:shs[i]?=some (shs[i]'(by lia)):=y01 _
  generalize drs[i]'(by lia)=r at hr1
  generalize shs[i]'(by lia)=s at hs1
  obtain⟨ra,hra1,hra⟩:=z41 hrs hr1;rw[hx] at hra1;cases hra1;obtain⟨y',hy1,iy⟩:=z1m hss (show(shs.map z5j)[i]?=some (z5j s) by rw[y06,hs1];rfl)
  rw[hy] at hy1;cases hy1;obtain⟨sa,sv,rfl,hsa1,hsv⟩:=is_list.mp iy;obtain⟨sr,rlen,rlt⟩:=ok.row i r s hr1 hs1;have svl:sv.length=r.length:=by rw[z0g hsv,y04,sr]
  have sok:=ok.ok s (y02 hs1);have sT:=z04 hpt (.tup [.ref ra,.ref sa])
  have g1:=g.more sT;have kT:=z01 (H:=H') (a:=pt) (o:=.tup [.ref ra,.ref sa])
  generalize upd H' pt (.tup [.ref ra,.ref sa])=H2 at g1 kT ⊢
  have fl:=zdj ok i (by lia)
  walk_at "r";refine⟨_,_,SqT.of kT,?_⟩;walk_at "r";refine⟨false,false,⟨_,SqL.of (g1.same _ _ hra)⟩,⟨_,SqL.of (g1.same _ _ hsa1)⟩,?_⟩;refine z9g (xs:=z09 r) (ys:=sv) r.length (by rw[z0l,svl,y4i]) (λj σ' H'=>∃t6 t7 vs qs,σ' = [some (.ref ad),some (.int (au:Int)),some (.ref as),some (.ref l),some (.ref ra),some (.ref sa),t6,t7]/\Grow K H H' l vs (qs.map λp=>z3l p.1 p.2)/\qs.length=au/\LdB M (z4u (drs.take i) (shs.take i)++(r.zip s).take j) qs) ⟨_,_,_,_,rfl,g1,ql,by rw[List.take_zero,y2s];exact lb⟩ ?_ ?_ ?_
  ·rintro j σ' H' _ ⟨t6,t7,vs,qs,rfl,g,_⟩;exact⟨SqL.of (g.same _ _ hra),SqL.of (g.same _ _ hsa1)⟩
  ·rintro j x y σ' H' pt hx hy ⟨t6,t7,vs,qs,rfl,g,ql,lb⟩ hpt;obtain⟨h,hh,rfl⟩:=z2q hx;obtain⟨p,pa,hp,rfl,hpa⟩:=zah hsv hy;have hlt:=rlt h (y02 hh);have jl:=(y00.mp hh).1
   obtain⟨pl,pd,pb⟩:=sok p (y02 hp);have hq:qs[h]?=some (qs[h]'(by lia)):=y01 _
   generalize qs[h]'(by lia)=u at hq
   have zt:(r.zip s)[j]?=some (h,p):=y0w.mpr ⟨hh,hp⟩;have okL:∀x∈z4u (drs.take i) (shs.take i)++(r.zip s).take j,1≤x.2.2/\x.2.2∣M/\Bd 600 x.2.1:=λx hx=>by
    rcases y0y.mp hx with z | z
    ·exact znk ok x (zjc len i x z)
    ·obtain⟨a1,a2,a3⟩:=sok x.2 (y1c (y3b z)).2;exact⟨a1.1,a2,a3⟩
   obtain⟨b1,b2⟩:=lb.bd ok.hM ok.bM okL (by rw[y0e,y0t,y45];lia) hq
   obtain⟨ul,_⟩:=lb h u hq;have sT:=z04 hpt (.tup [.int (h:Int),.ref pa]);have g1:=g.more sT
   have kT:=z01 (H:=H') (a:=pt) (o:=.tup [.int (h:Int),.ref pa]);generalize upd H' pt (.tup [.int (h:Int),.ref pa])=H3 at g1 kT ⊢
   obtain⟨uv,hu1,hu2⟩:=z1m g1.all (show(qs.map λp=>z3l p.1 p.2)[h]?=some (z3l u.1 u.2) by rw[y06,hq];rfl)
   have b3:Bd 600 p.2:=ok.bM.of_le (by
    have:=y6o ok.hM pd;have:=pl.1
    lia)
   walk_at "r";refine⟨_,_,SqT.of kT,?_⟩;walk_at "r";refine⟨_,_,.inl (SqL.of g1.here),z24 hu1,_,_,u.1,u.2,p.1,p.2,rfl,Is.same del_sub _ _ hu2,is_frac.mpr ⟨pa,rfl,g1.same _ _ hpa⟩,by have:=ul.1;lia,by have:=pl.1;lia,b1.le (by decide),b2.le (by decide),pb.le (by decide),b3.le (by decide),λn e e1 e2 e3 v4 H4 s4 is4=>?_⟩
   have g2:=g1.more s4;have vl4:vs.length=au:=by rw[z0g g1.all,y04,ql]
   obtain⟨va,rfl,hva⟩:=is_frac.mp is4;refine⟨_,h,g2.here,z3g (by lia),?_⟩
   refine⟨_,_,vs.set h (.ref va),qs.set h (n,e),rfl,?_,by rw[y2a];exact ql,?_⟩
   ·rw[y2l];exact g2.setAt h (ze6 is4 g2.here)
   ·rw[z0h zt,←y32];exact lb.add hq pl.1 pd ⟨e1,e2⟩ e3
  ·rintro σ' H' ⟨t6,t7,vs,qs,rfl,g,ql,lb⟩;rw[show(r.zip s).take r.length=r.zip s from y0c (by rw[y45];lia),←zc8 hr1 hs1] at lb
   exact⟨_,_,_,_,vs,qs,rfl,g,ql,lb⟩
 ·rintro σ' H' ⟨t4,t5,t6,t7,vs,qs,rfl,g,ql,lb⟩;rw[y0c (y0b _),y0c (by lia)] at lb
  walk_at "r";exact q qs ql lb _ _ g.same g.is
noncomputable abbrev z5g:Stmt:=top 26
theorem zgm:FnScope ["_law_found"] ["_law_found"] (z05 z5g):=⟨rfl,rfl,rfl,by decide +kernel,rfl,by decide +kernel,by decide +kernel⟩
theorem zit (T:Top K mg "_law_whole" z5g ["_law_found"])(B:Blt mg)(BS:mg "set"=none) :Def P w K mg base "_law_whole" 1 ["_law_found"] (z3z):=by
 refine z1h (k:=0) T zgm (λvs H Q E h=>?_) (λf cdv A outer s H vs Q E hr h=>?_)
 ·unfold z3z at h
  split at h
  ·rfl
  ·rfl
  ·exact h.elim
 refine⟨_,(z07 (z0m (z8x (z43 z1y B.isinstance z1w (z00 (cv 0) (z00 (zcj B.int zl9) z03))) (z7g (zl4 (z43 z1y B.isinstance z1w (z00 (cv 0) (z00 (zcj B.bool zhs) z03)))))))),?_⟩;unfold z3z at h
 split at h
 ·rename_i z;refine rd (σ':=[some (.int z)]) rfl ?_;walk_at "r";exact⟨by decide,z7r ⟨by decide,h⟩⟩
 ·rename_i z;refine rd (σ':=[some (.bl z)]) rfl ?_;walk_at "r";exact⟨by decide,z7r ⟨by decide,h⟩⟩
 ·exact h.elim
noncomputable abbrev z22:Stmt:=top 28
theorem z8q:FnScope ["_law_found"] ["_law_found"] (z05 z22):=⟨rfl,rfl,rfl,by decide +kernel,rfl,by decide +kernel,by decide +kernel⟩
theorem z87 (T:Top K mg "_law_is_fraction" z22 ["_law_found"])(B:Blt mg)(BS:mg "set"=none)(b8:Def P w K mg base "_law_whole" 1 ["_law_found"] (z3z))(bh:Def P w K mg base "_law_divisor" 1 ["_law_one","_law_other"] (spG)):Def P w K mg base "_law_is_fraction" 2 ["_law_found"] (ze5 K):=by
 refine z1h (k:=1) T z8q (λvs H Q E h=>?_) (λf cdv A outer s H vs Q E hr h=>?_)
 ·obtain⟨x,n,d,rfl,_⟩:=h;rfl
 obtain⟨x,n,d,rfl,hx,hd,hg,q⟩:=h;obtain⟨a,rfl,ha⟩:=is_frac.mp hx;have hT:SqT K H a [.int n,.int d]:=SqT.of ha;refine⟨_,(z02 (z3d (z9b (z3x (z2r (z43 z1y B.isinstance z1w (z00 (cv 0) (z00 (zcj B.tuple zju) z03))))) (z7h (z0w zne (z43 z25 B.len y19 (z00 (cv 0) z03)) z06 (z0p _)))).pt
   (z07 (z0m z79))
   z1d)
   (z02 (z3d (z9b (z3x (z2r (z0e b8 (hr.mono (by decide)) (z00 (z0k z0j (cv 0) z06 (λ_ _=>rfl)) z03)))) (z9b (z3x (z2r (z0e b8 (hr.mono (by decide)) (z00 (z0k z0j (cv 0) z06 (λ_ _=>rfl)) z03)))) (z7h (z0w z84 (z0k z0j (cv 0) z06 (λ_ _=>rfl)) z06 (z0p _))))).pt
   (z07 (z0m z79))
   z1d)
   (z07 (z0m (z33 z5q (z0e bh (hr.mono (by decide)) (z00 (z0k z0j (cv 0) z06 (λ_ _=>rfl)) (z00 (z0k z0j (cv 0) z06 (λ_ _=>rfl)) z03))) z06 (z0p _)))))),?_⟩
 refine rd (σ':=[some (.ref a)]) rfl ?_;walk_at "r";rw[ha];walk_at "r";refine⟨by decide,z91 ⟨_,.inr hT,zm6 rfl ⟨_,_,.inr hT,rfl,?_⟩⟩⟩
 walk_at "r";refine z91 ⟨_,_,.inr hT,rfl,?_⟩;walk_at "r";refine z91 ⟨_,_,.inr hT,rfl,?_⟩;walk_at "r";refine z4d (λc=>absurd (of_decide_eq_true c) (by lia)) (λ_=>⟨_,_,.inr hT,rfl,_,_,.inr hT,rfl,?_⟩)
 walk_at "r";rw[hg];exact q
noncomputable abbrev z4h:Stmt:=top 36
theorem sc_Lshares:FnScope ["_law_shares_here","_law_works","_law_doers","_law_work_here","_law_row_here","_law_some","_law_total","_law_share"] ["_law_shares_here","_law_works","_law_doers"] (z05 z4h):=⟨rfl,rfl,rfl,by decide +kernel,rfl,by decide +kernel,by decide +kernel⟩
theorem zfc (T:Top K mg "_law_shares" z4h ["_law_shares_here","_law_works","_law_doers"])(B:Blt mg)(BS:mg "set"=none)(bC:Def P w K mg base "_law_is_fraction" 2 ["_law_found"] (ze5 K))(bR:Def P w K mg base "_law_plus" 3 ["_law_one","_law_other"] (znn K (λa b c d=>a*d+c*b))):Def P w K mg base "_law_shares" 4 ["_law_shares_here","_law_works","_law_doers"] (z7w K):=by
 refine z1h (k:=3) T sc_Lshares (λvs H Q E h=>?_) (λf cdv A outer s H vs Q E hr h=>?_)
 ·obtain⟨l,aw,ad,au,ws,drs,R,qs,rfl,_⟩:=h;rfl
 obtain⟨l,aw,ad,au,ws,drs,R,qs,rfl,ip,ask,d,q⟩:=h;obtain⟨_,rs,e0,hda,hrs⟩:=is_list.mp ask.d;cases e0;obtain⟨_,pv,e0,hpa,hpv⟩:=is_list.mp ip;cases e0;have few:=ask.few;have dl:=ask.len
 have rl:=d.ev.len;have rsl:rs.length=drs.length:=by rw[z0g hrs,y04]
 have pvl:pv.length=drs.length:=by rw[z0g hpv,y04,rl]
 refine⟨_,(z02 (z3d (z9b (z3x (z2r (z43 z1y B.isinstance z1w (z00 (cv 0) (z00 (zcj B.list z4z) z03))))) (z7h (z0w zne (z43 z25 B.len y19 (z00 (cv 0) z03)) (z43 z25 B.len y19 (z00 (cv 1) z03)) (z0p _)))).pt
   (z07 (z0m z79))
   z1d)
   (z02 (z1u (znm B.zip (cv 1) (cv 2) (cv 0)) (zp8 (z0b 3 sc_Lshares.nd) (z0b 4 sc_Lshares.nd) (z0b 5 sc_Lshares.nd))
   (z02 (z3d (z9b (z3x (z2r (z43 z1y B.isinstance z1w (z00 (cv 5) (z00 (zcj B.list z4z) z03))))) (z7h (z0w zne (z43 z25 B.len y19 (z00 (cv 5) z03)) (z43 z25 B.len y19 (z00 (cv 4) z03)) (z0p _)))).pt
    (z07 (z0m z79))
    z1d)
    (z02 (z0d 6 sc_Lshares.nd (z2s (z00 z06 (z00 z06 z03))))
    (z02 (z1u (z1o (cv 5)) (z0b 7 sc_Lshares.nd)
    (z02 (z3d (z9b (z3x (z2r (z0e bC (hr.mono (by decide)) (z00 (cv 7) z03)))) (z7h (z0w z84 (z0k z0j (cv 7) z06 (λ_ _=>rfl)) z06 (z0p _)))).pt
     (z07 (z0m z79))
     z1d)
     (z07 (z0d 6 sc_Lshares.nd (z0e bR (hr.mono (by decide)) (z00 (cv 6) (z00 (cv 7) z03)))))))
    (z07 (z3d (z0w (zli hr) (cv 6) (z2s (z00 (cv 3) (z00 z06 z03))) (z0p _))
    (z07 (z0m z79))
    z1d))))))
   (z07 (z0m z79)))),?_⟩
 refine rd (σ':=[some (.ref l),some (.ref aw),some (.ref ad),none,none,none,none,none]) rfl ?_;walk_at "r";rw[hpa];walk_at "r";refine⟨by decide,z91 ⟨_,.inl (SqL.of hpa),_,.inl (SqL.of ask.w),?_⟩⟩
 rw[pvl,y04,dl];refine zm6 rfl ?_;walk_at "r";refine⟨false,false,false,⟨_,SqL.of ask.w⟩,⟨_,SqL.of hda⟩,⟨_,SqL.of hpa⟩,?_⟩;refine zn9 (xs:=ws.map V.int) (ys:=rs) (ws:=pv) ws.length (by rw[y04]) (by lia) (by lia) (λi σ' H'=>Same H H'/\∃t3 t4 t5 t6 t7,σ' = [some (.ref l),some (.ref aw),some (.ref ad),t3,t4,t5,t6,t7]) ⟨Same.refl _,_,_,_,_,_,rfl⟩ ?_ ?_ ?_
 ·rintro i σ' H' _ ⟨s1,_⟩;exact⟨SqL.of (s1 _ _ ask.w),SqL.of (s1 _ _ hda),SqL.of (s1 _ _ hpa)⟩
 ·rintro i x y z σ' H' pt hx hy hz ⟨s1,t3,t4,t5,t6,t7,rfl⟩ hpt;obtain⟨w,hw,rfl⟩:=zdg hx;have hi:=(y00.mp hw).1;have hr1:drs[i]?=some (drs[i]'(by lia)):=y01 _
  have hs1:R[i]?=some (R[i]'(by lia)):=y01 _
  generalize drs[i]'(by lia)=r at hr1
  generalize R[i]'(by lia)=s at hs1
  obtain⟨ra,hra1,hra⟩:=z41 hrs hr1;rw[hy] at hra1;cases hra1;obtain⟨z',hz1,iz⟩:=z1m hpv (show(R.map z5j)[i]?=some (z5j s) by rw[y06,hs1];rfl)
  rw[hz] at hz1;cases hz1;obtain⟨sa,sv,rfl,hsa,hsv⟩:=is_list.mp iz;have k1:=d.ev.row i r s hr1 hs1;have svl:sv.length=s.length:=by rw[z0g hsv,y04]
  obtain⟨_,b7,rlt⟩:=d.rows.2 r (y02 hr1);have r12:r.length≤12:=y17 (z1a b7 rlt) d.h12;have sok:=d.ev.ok s (y02 hs1)
  have sum:=d.ev.sum M0 z8d (Int.dvd_refl _) i s hs1;have sT:=z04 hpt (.tup [.int w,.ref ra,.ref sa])
  have s2:=s1.trans sT;have kT:=z01 (H:=H') (a:=pt) (o:=.tup [.int w,.ref ra,.ref sa])
  generalize upd H' pt (.tup [.int w,.ref ra,.ref sa])=H2 at s2 kT ⊢
  have hsa2:=s2 _ _ hsa;walk_at "r";refine⟨_,_,_,SqT.of kT,?_⟩;walk_at "r";rw[hsa2];walk_at "r";refine⟨by decide,z91 ⟨_,.inl (SqL.of hsa2),_,.inl (SqL.of (s2 _ _ hra)),?_⟩⟩
  rw[svl,z0l,k1];refine zm6 rfl ⟨sz (by show 2≤1000;decide),λp hp=>?_⟩
  have f3:=z04 hp (.tup [.int 0,.int 1]);have k3:=z01 (H:=H2) (a:=p) (o:=.tup [.int 0,.int 1])
  have s3:=s2.trans f3;generalize upd H2 p (.tup [.int 0,.int 1])=H3 at s3 k3 f3 ⊢
  refine .inl ⟨⟨_,SqL.of (f3 _ _ hsa2)⟩,?_⟩;refine z2t (xs:=sv) (λj σ' H'=>Same H3 H'/\∃(t7:Option V) (v:V) (u:Int×Int),σ' = [some (.ref l),some (.ref aw),some (.ref ad),some (.int w),some (.ref ra),some (.ref sa),some v,t7]/\Is K H' v (z3l u.1 u.2)/\FV M0 u ((s.map (vl M0)).take j).sum) ⟨Same.refl _,_,.ref p,(0,1),rfl,is_frac.mpr ⟨p,rfl,k3⟩,FV.zero⟩ ?_ ?_ ?_
  ·rintro j σ' H' _ ⟨e,_⟩;exact SqL.of ((f3.trans e) _ _ hsa2)
  ·rintro j x σ' H' hx ⟨e,t7,v,u,rfl,iv,fu⟩;obtain⟨b,ba,hb,rfl,hba⟩:=zah (IsAll.same (s3.trans e) _ _ hsv) hx;obtain⟨bl,b0,bd,bb⟩:=sok b (y02 hb);have fb:FV M0 b (vl M0 b):=⟨bl,by rw[←zgd (M:=M0) bd,y28]⟩
   have bM:Bd 28 M0:=by show _<_;decide
   have bv:∀b∈s,Bd 400 (vl M0 b):=λb hb=>by
    obtain⟨bl,b0,bd,bb⟩:=sok b hb;have b2:Bd 28 (M0 / b.2):=bM.of_le (Int.natAbs_ediv_le_natAbs M0 b.2);exact(bb.mul b2).le (by decide)
   have bs:Bd 1300 ((s.map (vl M0)).take j).sum:=(znt (k:=400) (λx hx=>by obtain⟨b,hb,rfl⟩:=y1i.mp hx;exact bv b hb) (by rw[y04];lia) j).le (by decide)
   obtain⟨c1,c2⟩:=fu.bd z8d zp6 bs;have bb2:Bd 28 b.2:=by
    have h1:=y6o (show(0:Int)<232792560 by decide) bd
    have h2:=bl.1;show b.2.natAbs<2^28;lia
   walk_at "r";refine⟨_,b.1,b.2,rfl,is_frac.mpr ⟨ba,rfl,hba⟩,bl.1,bl.2,?_⟩;walk_at "r";refine z91 ⟨_,_,.inr (SqT.of hba),rfl,?_⟩;walk_at "r";rw[decide_eq_false (show ¬b.1<0 by lia)]
   have u1:=fu.1.1;have bl1:=bl.1
   refine z91 ⟨_,_,u.1,u.2,b.1,b.2,rfl,iv,is_frac.mpr ⟨ba,rfl,hba⟩,by lia,by lia,c1.le (by decide),c2.le (by decide),bb.le (by decide),bb2.le (by decide),λn e' e1 eg ee v4 H4 s4 is4=>?_⟩
   refine⟨e.trans s4,_,v4,(n,e'),rfl,is4,?_⟩;rw[z0h (show(s.map (vl M0))[j]?=some (vl M0 b) by rw[y06,hb];rfl),zkt]
   exact fu.plus fb e1 eg ee
  rintro σ' H' ⟨e,t7,v,u,rfl,iv,fu⟩;rw[y0c (by rw[y04];lia),sum] at fu
  have ew:ws.getD i 0=w:=by rw[y05,hw];rfl
  rw[ew] at fu;cases fu.whole z8d;walk_at "r";refine⟨sz (by show 2≤1000;decide),λp2 hp2=>?_⟩
  have f4:=z04 hp2 (.tup [.int w,.int 1]);refine⟨_,_,Is.same f4 _ _ iv,is_frac.mpr ⟨p2,rfl,z01⟩,za5 _ _,za5 _ _,?_⟩;rw[z4p (za5 _ _)];exact z91 ⟨s3.trans (e.trans f4),_,_,_,_,_,rfl⟩
 ·rintro σ' H' ⟨s1,t3,t4,t5,t6,t7,rfl⟩;walk_at "r";exact q H' s1
noncomputable abbrev z21:Stmt:=top 38
theorem sc_Lmany_chores:FnScope ["_law_script","_law_works","_law_doers","_law_cell","_law_number","_law_some","_law_shares_here"] ["_law_script"] (z05 z21):=⟨rfl,rfl,rfl,by decide +kernel,rfl,by decide +kernel,by decide +kernel⟩
theorem z83 (T:Top K mg "_law_many_chores" z21 ["_law_script"])(B:Blt mg)(BS:mg "set"=none)(aL:Def P w K mg base "_law_mixed" 1 ["_law_cell","_law_k"] (z40))(bT:Def P w K mg base "_law_work" 2 ["_law_cell"] (zcy))(aM:Def P w K mg base "deal_evenly" 11 ["works","doers","many"] (za4 K))(bU:Def P w K mg base "_law_even" 2 ["_law_shares_here","_law_doers","_law_loads"] (zdb K))(bS:Def P w K mg base "_law_bear" 4 ["_law_doers","_law_many","_law_shares_here"] (zh1 K))(br:Def P w K mg base "_law_shares" 4 ["_law_shares_here","_law_works","_law_doers"] (z7w K)):Def P w K mg base "_law_many_chores" 12 ["_law_script"] (zi9 K):=by
 refine z1h (k:=11) T sc_Lmany_chores (λvs H Q E h=>?_) (λf cdv A outer s H vs Q E hr h=>?_)
 ·obtain⟨a,ns,rfl,_⟩:=h;rfl
 obtain⟨a,ns,rfl,hS,hlen,q⟩:=h;refine⟨_,(z02 (z0d 1 sc_Lmany_chores.nd (z1b z03))
   (z02 (z0d 2 sc_Lmany_chores.nd (z1b z03))
   (z02 (z1u (z1o (zfa (cv 0) (z2o z06) (z2o z06))) (z0b 3 sc_Lmany_chores.nd)
   (z02 (z0d 4 sc_Lmany_chores.nd (z0e aL (hr.mono (by decide)) (z00 (cv 3) (z00 z06 z03))))
    (z02 (z0d 5 sc_Lmany_chores.nd (zfa (z1b (z00 (z0n z20 (cv 4) z06) (z00 (z0n z20 (z0n z3q (cv 4) z06) z06) (z00 (z0n z20 (z0n z3q (cv 4) z06) z06) z03)))) z5x (z2o (z0n z3b z06 (z0n z20 (z0n z3q (cv 4) z06) z06)))))
    (z02 (z1z (z0z (cv 1) (z00 (z0e bT (hr.mono (by decide)) (z00 (cv 3) z03)) z03)))
    (z07 (z1z (z0z (cv 2) (z00 (zfb B.sorted BS (z00 (cv 5) z03)) z03))))))))
   (z02 (z0d 6 sc_Lmany_chores.nd (z0e aM (hr.mono (by decide)) (z00 (znv z8b B.list z4z (z00 (cv 1) z03)) (z00 (z3s (N:=["_law_row_here"]) (fr:=[]) 1 (z1o (cv 2)) (λC hN=>by exact pgC ((z0b 0 hN)) (by walk_at "c")) (λC hN=>by exact peC ((znv z8b B.list z4z (z00 (cv 0) z03))) (by walk_at "c"))) (z00 z06 z03)))))
   (z07 (z0m (z8x (z0e br (hr.mono (by decide)) (z00 (cv 6) (z00 (cv 1) (z00 (cv 2) z03)))) (z7g (z0e bU (hr.mono (by decide)) (z00 (cv 6) (z00 (cv 2) (z00 (z0e bS (hr.mono (by decide)) (z00 (cv 2) (z00 z06 (z00 (cv 6) z03)))) z03)))))))))))),?_⟩
 refine rd (σ':=[some (.ref a),none,none,none,none,none,none]) rfl ?_;walk_at "r";refine⟨sz (by show 0≤1000;decide),λlw hlw=>⟨sz (by show 0≤1000;decide),λld hld=>?_⟩⟩
 have sW:=(z04 hlw (.lst [])).trans (z04 hld (.lst []));refine⟨_,sW.seq hS,λu hu=>?_⟩;obtain⟨ms,hms,hml,hml2⟩:=zhu ns 2 20;rw[show((2:Nat):Int)=2 by rfl,show(2:Int)+((20:Nat):Int)=22 by rfl] at hms
 rw[hms];obtain⟨tw0,nu1,nu2,hu0⟩:=zc5 (K:=K) (O:=.lst (ms.map V.int)) hlw hld hu;have sB:=z04 hu0 (.lst (ms.map V.int));have kb:=z01 (H:=H) (a:=u) (o:=.lst (ms.map V.int))
 generalize upd H u (.lst (ms.map V.int))=Hb at tw0 sB kb;have ku0:=tw0.same _ _ kb;generalize upd (upd (upd H lw (.lst [])) ld (.lst [])) u (.lst (ms.map V.int))=H3 at tw0 ku0 ⊢
 refine .inl ⟨⟨_,SqL.of ku0⟩,?_⟩;refine z2t (xs:=ms.map V.int) (λj σ' H'=>∃t3 t4 t5 ws rs drs,σ' = [some (.ref a),some (.ref lw),some (.ref ld),t3,t4,t5,none]/\Two K Hb H' lw ld (ws.map V.int) rs (ws.map PyData.int) (drs.map z39)/\ws.length=j/\drs.length=j/\(∀x∈ws,1≤x/\x≤10^60)/\∀r∈drs,r ≠ []/\r.Pairwise (· < ·)/\∀h∈r,h<12) ⟨_,_,_,[],[],[],rfl,tw0,rfl,rfl,λ_ z=>(by cases z),λ_ z=>(by cases z)⟩ ?_ ?_ ?_
 ·rintro j σ' H' _ ⟨t3,t4,t5,ws,rs,drs,rfl,tw,_⟩;exact SqL.of (tw.same _ _ kb)
 ·rintro j x σ' H' hx ⟨t3,t4,t5,ws,rs,drs,rfl,tw,wl,dl,wb,db⟩;obtain⟨c,hc,rfl⟩:=zdg hx;have hj:=(y00.mp hc).1;walk_at "r";refine⟨by decide,by decide,λz z0=>?_⟩
  obtain⟨x1,e1⟩:=y1p (y1r z (show(12:Int)≠0 by decide))
  obtain⟨x2,e2⟩:=y1p (y1r (z.fdiv 12) (show(12:Int)≠0 by decide))
  obtain⟨x3,e3⟩:=y1p (y1r (z.fdiv 144) (show(12:Int)≠0 by decide))
  obtain⟨x4,e4⟩:=y1p (y1r (z.fdiv 1728) (show(3:Int)≠0 by decide))
  have y1:=y1u z (show(0:Int)<12 by decide)
  have y2:=y1u (z.fdiv 12) (show(0:Int)<12 by decide)
  have y3:=y1u (z.fdiv 144) (show(0:Int)<12 by decide)
  rw[e1] at y1 ⊢
  rw[e2] at y2 ⊢
  rw[e3] at y3 ⊢
  rw[e4];refine⟨by decide,by decide,by decide +kernel,by decide,by decide,by decide +kernel,by decide,sz (by show 3≤1000;decide),λl1 hl1=>⟨by decide,by decide +kernel,by decide,?_⟩⟩
  have f1:=z04 hl1 (.lst [.int (x1:Int),.int (x2:Int),.int (x3:Int)]);refine⟨_,SqL.of z01,λl2 hl2=>?_⟩;rw[show(1:Int)+(x4:Int)=((1+x4:Nat):Int) by lia,zcl]
  have et:([V.int (x1:Int),.int (x2:Int),.int (x3:Int)]).take (1+x4)=(([x1,x2,x3]).take (1+x4)).map λ(n:Nat)=>V.int (n:Int):=by rw[y6p];rfl
  rw[et];have hm1:x1∈([x1,x2,x3]).take (1+x4):=by rw[Nat.add_comm,List.take_succ_cons];exact y0d
  have hm12:∀n∈([x1,x2,x3]).take (1+x4),n<12:=λn hn=>by
   have:=y3b hn;simp only[y0k,y15,or_false] at this;lia
  have hm3:(([x1,x2,x3]).take (1+x4)).length≤3:=by rw[y0t];show min _ 3≤3;lia
  generalize ([x1,x2,x3]).take (1+x4)=xs at hm1 hm12 hm3 ⊢
  have f2:=z04 hl2 (.lst (xs.map λ(n:Nat)=>V.int (n:Int)));have k2:=z01 (H:=upd H' l1 (.lst [.int (x1:Int),.int (x2:Int),.int (x3:Int)])) (a:=l2) (o:=.lst (xs.map λ(n:Nat)=>V.int (n:Int)))
  have tw2:=tw.more (f1.trans f2);have n1:l2≠lw:=λz=>by rw[z,(tw.more f1).h1] at hl2;cases hl2
  generalize upd (upd H' l1 (.lst [.int (x1:Int),.int (x2:Int),.int (x3:Int)])) l2 (.lst (xs.map λ(n:Nat)=>V.int (n:Int)))=H5 at tw2 k2 ⊢
  clear f1 f2 hl1 hl2 tw et;dsimp only;refine⟨⟨_,tw2.h1⟩,c,rfl,λw w1 w2=>?_⟩;refine⟨_,tw2.h1,z0i (by rw[y04];lia),?_⟩
  have ai:IsAll K (z7c H5 lw ld) (ws.map V.int ++ [.int w]) (ws.map PyData.int ++ [.int w]):=z1j tw2.a1 (by simp only[Is])
  have tw5:=tw2.set1 ai;have k5:upd H5 lw (.lst (ws.map V.int ++ [.int w])) l2=some (.lst (xs.map λ(n:Nat)=>V.int (n:Int))):=by rw[z0a n1];exact k2
  generalize upd H5 lw (.lst (ws.map V.int ++ [.int w]))=H8 at tw5 k5 ⊢
  have rl:rs.length=j:=by rw[z0g tw2.a2,y04,dl]
  refine⟨⟨_,tw5.h2⟩,xs,SqL.of k5,hm3,hm12,λrow b7 mem r hr=>?_⟩;have f3:=z04 hr (.lst (row.map λ(n:Nat)=>V.int (n:Int)));have tw6:=tw5.more f3
  have m1:r≠lw:=λz=>by rw[z,tw5.h1] at hr;cases hr
  have m2:r≠ld:=λz=>by rw[z,tw5.h2] at hr;cases hr
  have k6:upd H8 r (.lst (row.map λ(n:Nat)=>V.int (n:Int))) r=some (.lst (z09 row)):=z01;generalize upd H8 r (.lst (row.map λ(n:Nat)=>V.int (n:Int)))=H9 at tw6 k6 ⊢
  refine⟨_,tw6.h2,z0i (by lia),?_⟩
  have tw7:=tw6.set2 (z1j tw6.a2 (is_list.mpr ⟨r,_,rfl,by rw[z3u m1 m2];exact k6,z28 row⟩))
  refine⟨_,_,_,ws ++ [w],rs ++ [.ref r],drs ++ [row],rfl,by rw[y0g,y0g,y0g];exact tw7,by rw[y0e];simp;lia,by rw[y0e];simp;lia,λx hx=>?_,λx hx=>?_⟩
  ·rcases y0y.mp hx with hx | hx
   ·exact wb x hx
   ·rw[y09.mp hx];exact⟨w1,w2⟩
  ·rcases y0y.mp hx with hx | hx
   ·exact db x hx
   ·rw[y09.mp hx];refine⟨λz=>?_,b7,λh hh=>hm12 h ((mem h).mp hh)⟩;have:=(mem x1).mpr hm1;rw[z] at this;cases this
 ·rintro σ' H' ⟨t3,t4,t5,ws,rs,drs,rfl,tw,wl,dl,wb,db⟩;rw[y04] at wl dl;have rok:RowsOk ws.length 12 drs:=⟨by rw[dl,wl],db⟩
  have ask:AsksC K H' lw ld ws drs:=⟨tw.h1,is_list.mpr ⟨ld,rs,rfl,tw.h2,IsAll.same z5d _ _ tw.a2⟩,by rw[dl,wl],by lia,rok.row (by lia),λx hx=>(wb x hx).1,λx hx=>by
   have:=wb x hx;show x.natAbs<2^300;have:(10:Nat)^60<2^300:=by decide +kernel
   lia⟩
  have sS:=sB.trans tw.same;clear tw;obtain⟨_,rs,e0,hda,hrs⟩:=is_list.mp ask.d;cases e0;walk_at "r";refine⟨_,.inl (SqL.of ask.w),λbw hbw=>?_⟩;have s2:=z04 hbw (.lst (ws.map V.int))
  have kw:=z01 (H:=H') (a:=bw) (o:=.lst (ws.map V.int));generalize upd H' bw (.lst (ws.map V.int))=H2 at s2 kw ⊢
  walk_at "r";refine .inl ⟨⟨_,SqL.of (s2 _ _ hda)⟩,?_⟩;refine cgo (σ':=[none]) rfl ?_;refine zek (s2 _ _ hda) (IsAll.same s2 _ _ hrs) (by lia) λbd ys H4 e4 kd ad4=>?_
  have ask4:AsksC K H4 bw bd ws drs:=⟨e4 _ _ kw,is_list.mpr ⟨bd,ys,rfl,kd,ad4⟩,ask.len,ask.few,ask.row,ask.pos,ask.bd⟩;have s4:=s2.trans e4
  have nr:∀r∈drs,r.Nodup:=λr hr=>(db r hr).2.1.imp λh=>y0p h;walk_at "r";refine⟨bw,bd,12,ws,drs,rfl,ask4,rok.doOk rfl (by lia),nr,λL sss l rv H5 C sl pk t=>?_⟩
  obtain⟨ps,qs,lo,lk,D⟩:=zft ask4 C (by decide) (by decide) rok sl pk
  have it:=t.is;have ask5:=ask.same (s4.trans t.same)
  have s5:=sS.trans (s4.trans t.same);generalize z2b drs L sss (0,1)=R at D it;walk_at "r";refine⟨l,lw,ld,12,ws,drs,R,qs,rfl,it,ask5,D,λH6 s6=>?_⟩;walk_at "r";refine z7r ⟨ld,l,12,drs,R,M0,rfl,Is.same s6 _ _ ask5.d,Is.same s6 _ _ it,D.rat.sh,by decide,λoq ol ob vo H7 s7 iso=>?_⟩
  cases LdB.uniq z8d ob D.ldb (ol.trans D.len.symm);obtain⟨lo',lv,rfl,_,_⟩:=is_list.mp iso;exact⟨l,ld,lo',12,ws,drs,R,_,rfl,Is.same (s6.trans s7) _ _ it,Is.same (s6.trans s7) _ _ ask5.d,iso,D,λH8 s8=>q _ (s5.trans (s6.trans (s7.trans s8)))⟩
noncomputable abbrev z9c:Stmt:=top 31
theorem sc_Lrow:FnScope ["_law_cell","_law_many","_law_thin","_law_number","_law_other","_law_row_here","_law_hand"] ["_law_cell","_law_many","_law_thin"] (z05 z9c):=⟨rfl,rfl,rfl,by decide +kernel,rfl,by decide +kernel,by decide +kernel⟩
theorem zmn (T:Top K mg "_law_row" z9c ["_law_cell","_law_many","_law_thin"])(B:Blt mg)(BS:mg "set"=none)(aL:Def P w K mg base "_law_mixed" 1 ["_law_cell","_law_k"] (z40)):Def P w K mg base "_law_row" 2 ["_law_cell","_law_many","_law_thin"] (zij):=by
 refine z1h (k:=1) T sc_Lrow (λvs H Q E h=>?_) (λf cdv A outer s H vs Q E hr h=>?_)
 ·obtain⟨c,au,th,rfl,_⟩:=h;rfl
 obtain⟨c,au,th,rfl,hm1,hm,q⟩:=h;refine⟨_,(z02 (z0d 3 sc_Lrow.nd (z0e aL (hr.mono (by decide)) (z00 (cv 0) (z00 z06 z03))))
   (z02 (z0d 4 sc_Lrow.nd (z0e aL (hr.mono (by decide)) (z00 (cv 0) (z00 z06 z03))))
   (z02 (z0d 5 sc_Lrow.nd (z1b z03))
   (z02 (z1u (zhp B.range (z00 (cv 1) z03)) (z0b 6 sc_Lrow.nd)
   (z02 (zeh (z3d (z9m (z0w z5q (z0n z20 (cv 3) z06) z06 (z0p _)) (z6u (z9b (z0w z5q (z0n z20 (cv 4) z06) z06 (z0p _)) (z7h (z3x (z2r (cv 2))))).pt)).pt
    (z07 (z1z (z0z (cv 5) (z00 (cv 6) z03))))
    z1d))
    (z02 (z0d 3 sc_Lrow.nd (z0n z3q (cv 3) z06))
    (z07 (z0d 4 sc_Lrow.nd (z0n z3q (cv 4) z06))))))
   (z02 (z3d (z0w (zec hr) (cv 5) (z1b z03) (z0p _))
   (z07 (z0d 5 sc_Lrow.nd (z1b (z00 (z0n z20 (z0e aL (hr.mono (by decide)) (z00 (cv 0) (z00 z06 z03))) (cv 1)) z03))))
   z1d)
   (z07 (z0m (cv 5)))))))),?_⟩
 refine rd (σ':=[some (.int c),some (.int (au:Int)),some (.bl th),none,none,none,none]) rfl ?_;walk_at "r";refine⟨by decide,by decide,λz z0=>?_⟩
 walk_at "r";refine⟨by decide,by decide,λz' z0'=>?_⟩
 walk_at "r";refine⟨sz (by show 0≤1000;decide),λr hr1=>⟨⟨by lia,by lia⟩,?_⟩⟩
 refine za0 (λj σ' H'=>∃y y' t6 row,σ' = [some (.int c),some (.int (au:Int)),some (.bl th),some (.int y),some (.int y'),some (.ref r),t6]/\Same H H'/\H' r=some (.lst (z09 row))/\row.Pairwise (· < ·)/\∀h∈row,h<j) ⟨_,_,_,[],rfl,z04 hr1 _,z01,y6u,λ_ z=>(by cases z)⟩ ?_ ?_
 ·rintro j σ' H' hj ⟨y,y',t6,row,rfl,s2,kr,rp,rb⟩;have rl:row.length≤j:=z1a rp rb;walk_at "r";refine⟨fun σ' H'=>∃row,σ' = [some (.int c),some (.int (au:Int)),some (.bl th),some (.int y),some (.int y'),some (.ref r),some (.int (j:Int))]/\Same H H'/\H' r=some (.lst (z09 row))/\row.Pairwise (· < ·)/\∀h∈row,h<j+1,?_,?_⟩
  ·have no:∃row,[some (V.int c),some (.int (au:Int)),some (.bl th),some (.int y),some (.int y'),some (.ref r),some (.int (0+(j:Int)))] = [some (V.int c),some (.int (au:Int)),some (.bl th),some (.int y),some (.int y'),some (.ref r),some (.int (j:Int))]/\Same H H'/\H' r=some (.lst (z09 row))/\row.Pairwise (· < ·)/\∀h∈row,h<j+1:=⟨row,by rw[y3f],s2,kr,rp,λh hh=>by have:=rb h hh;lia⟩
   have yes:(∃xs,H' r=some (.lst xs))/\∃xs,H' r=some (.lst xs)/\xs.length<sizeLine/\∃row,[some (V.int c),some (.int (au:Int)),some (.bl th),some (.int y),some (.int y'),some (.ref r),some (.int (0+(j:Int)))] = [some (V.int c),some (.int (au:Int)),some (.bl th),some (.int y),some (.int y'),some (.ref r),some (.int (j:Int))]/\Same H (upd H' r (.lst (xs ++ [.int (0+(j:Int))])))/\upd H' r (.lst (xs ++ [.int (0+(j:Int))])) r=some (.lst (z09 row))/\row.Pairwise (· < ·)/\∀h∈row,h<j+1:=by
    obtain⟨ra,rb'⟩:=RowOk.add (au:=au) ⟨rp,rb⟩;refine⟨⟨_,kr⟩,_,kr,z0i (by rw[z0l];lia),row ++ [j],by rw[y3f],λb o hb=>?_,?_,ra,rb'⟩
    ·rw[z0a (z08 hb hr1)];exact s2 _ _ hb
    ·rw[z01];unfold z09;rw[y0g,y3f];rfl
   walk_at "r";refine⟨by decide,z4d (λ_=>⟨by decide,z4d (λ_=>z7r yes) (λ_=>?_)⟩) (λ_=>z91 no)⟩
   cases th
   ·exact z7r yes
   ·exact z91 no
  ·rintro σ' H' ⟨row,rfl,s2,kr,rp,rb⟩;walk_at "r";exact⟨by decide,by decide +kernel,by decide,by decide +kernel,_,_,_,row,rfl,s2,kr,rp,rb⟩
 ·rintro σ' H' ⟨y,y',t6,row,rfl,s2,kr,rp,rb⟩;rw[show((au:Int)).toNat=au by lia] at rb
  walk_at "r";refine⟨sz (by show 0≤1000;decide),λu hu=>?_⟩
  have sU:=z04 hu (.lst []);refine⟨z39 row,.list [],is_list.mpr ⟨r,_,rfl,sU _ _ kr,z28 _⟩,is_list.mpr ⟨u,[],rfl,z01,z0r⟩,zdv _,zdv [],?_⟩;walk_at "r";unfold z39;rw[zlv];refine z4d (λ_=>?_) (λhne=>?_)
  ·have mpos:(0:Int)<(au:Int):=by lia
   refine⟨by decide,by decide,λw w0=>⟨mpos,sz (by show 1≤1000;decide),λr2 hr2=>?_⟩⟩
   obtain⟨m,hm'⟩:=y1p (y1r w (show(au:Int)≠0 by lia))
   have hml:=y1u w mpos;rw[hm'] at hml ⊢
   refine q r2 [m] _ (by simp) (y5o _ _) (λh hh=>by rw[y09.mp hh];lia) (z3r (s2.trans sU) hr2) (s2.trans (sU.trans (z04 hr2 _))) z01
  ·refine q r row _ (λz=>?_) rp rb hr1 (s2.trans sU) (sU _ _ kr);subst z;exact hne rfl
noncomputable abbrev z5i:Stmt:=top 32
theorem sc_Lcrowd:FnScope ["_law_script","_law_number","_law_many","_law_way","_law_works","_law_doers","_law_k","_law_cell","_law_row_here"] ["_law_script"] (z05 z5i):=⟨rfl,rfl,rfl,by decide +kernel,rfl,by decide +kernel,by decide +kernel⟩
theorem zhl (T:Top K mg "_law_crowd" z5i ["_law_script"])(B:Blt mg)(BS:mg "set"=none)(aL:Def P w K mg base "_law_mixed" 1 ["_law_cell","_law_k"] (z40))(bj:Def P w K mg base "_law_cell_at" 1 ["_law_script","_law_k"] (z82 K))(D_Lrow:Def P w K mg base "_law_row" 2 ["_law_cell","_law_many","_law_thin"] (zij))(bT:Def P w K mg base "_law_work" 2 ["_law_cell"] (zcy)):Def P w K mg base "_law_crowd" 3 ["_law_script"] (zhv K):=by
 refine z1h (k:=2) T sc_Lcrowd (λvs H Q E h=>?_) (λf cdv A outer s H vs Q E hr h=>?_)
 ·obtain⟨a,ns,rfl,_⟩:=h;rfl
 obtain⟨a,ns,rfl,hS,hlen,q⟩:=h;refine⟨_,(z02 (z0d 1 sc_Lcrowd.nd (z0e aL (hr.mono (by decide)) (z00 (z0e bj (hr.mono (by decide)) (z00 (cv 0) (z00 z06 z03))) (z00 z06 z03))))
   (z02 (z0d 2 sc_Lcrowd.nd (z0n z3b z06 (z0n z20 (cv 1) z06)))
   (z02 (z0d 3 sc_Lcrowd.nd (z0n z20 (z0n z3q (cv 1) z06) z06))
   (z02 (zeh (z3d (z0w z5q (cv 3) z06 (z0p _))
   (z07 (z0d 2 sc_Lcrowd.nd z06))
   z1d))
   (z02 (z0d 4 sc_Lcrowd.nd (z1b z03))
   (z02 (z0d 5 sc_Lcrowd.nd (z1b z03))
   (z02 (z1u (z8o B.enumerate (zfa (cv 0) (z2o z06) (z2o (z0n z3b z06 (z0n z20 (z0n z3q (cv 1) z06) z06))))) (z74 (z0b 6 sc_Lcrowd.nd) (z0b 7 sc_Lcrowd.nd))
   (z02 (z0d 8 sc_Lcrowd.nd (z0e D_Lrow (hr.mono (by decide)) (z00 (cv 7) (z00 (cv 2) (z00 (zo6 (z33 z84 (cv 3) z06 (z0p _)) (z7g (z33 z5q (cv 3) z06 (z0p _)))) z03)))))
    (z02 (zeh (z3d (z0w z5q (cv 3) z06 (z0p _))
    (z07 (z0d 8 sc_Lcrowd.nd (z43 zhw B.sorted zaz (z00 (zfa (z1b (z00 (z0n z20 (cv 6) (cv 2)) (z00 (z0n z20 (z0n z3b (cv 6) z06) (cv 2)) z03))) z5x (z2o (z43 zma B.min zl6 (z00 (cv 2) (z00 z06 z03))))) z03))))
    z1d))
    (z02 (zeh (z3d (z0w z5q (cv 3) z06 (z0p _))
    (z07 (zaj (N:=["_law_hand"]) (fr:=[]) 8 1 sc_Lcrowd.nd (zhp B.range (z00 (z0n z3b z06 (z0n z20 (cv 6) (cv 2))) z03)) (λC hN=>by exact pgC ((z0b 0 hN)) (by walk_at "c")) (λC hN=>by exact peC ((cv 0)) (by walk_at "c"))))
    z1d))
    (z02 (z1z (z0z (cv 4) (z00 (z0e bT (hr.mono (by decide)) (z00 (cv 7) z03)) z03)))
    (z07 (z1z (z0z (cv 5) (z00 (cv 8) z03)))))))))
   (z07 (z0m (z2s (z00 (cv 4) (z00 (cv 5) (z00 (cv 2) z03))))))))))))),?_⟩
 refine rd (σ':=[some (.ref a),none,none,none,none,none,none,none,none]) rfl ?_;walk_at "r";refine⟨ns,hS,by decide,by decide,by decide,λz z0=>⟨by decide,by decide,by decide +kernel,by decide,?_⟩⟩
 obtain⟨n,hn⟩:∃n:Nat,z.fdiv 48 % 9=(n:Int):=⟨(z.fdiv 48 % 9).toNat,by lia⟩
 have n8:n≤8:=by lia
 refine⟨fun σ' H'=>H'=H/\∃(au:Nat) (way:Int),σ' = [some (.ref a),some (.int z),some (.int (au:Int)),some (.int way),none,none,none,none,none]/\0<au/\au≤12,?_,?_⟩
 ·walk_at "r";refine z4d (λ_=>⟨rfl,12,_,rfl,by decide,by decide⟩) (λ_=>⟨rfl,(1+z % 6).toNat,z.fdiv 6 % 8,?_,by lia,by lia⟩)
  rw[show(((1+z % 6).toNat:Nat):Int)=1+z % 6 by lia]
 rintro σ' H' ⟨rfl,au,way,rfl,h0,h12⟩;walk_at "r";refine⟨sz (by show 0≤1000;decide),λlw hlw=>⟨sz (by show 0≤1000;decide),λld hld=>⟨by decide,by decide +kernel,by decide,?_⟩⟩⟩
 rw[hn];have mpos:(0:Int)<(au:Int):=by lia
 have sW:=(z04 hlw (.lst [])).trans (z04 hld (.lst []));refine⟨_,sW.seq hS,λu hu=>?_⟩;obtain⟨ms,hms,hml,hml2⟩:=zhu ns 2 n;rw[show((2:Nat):Int)=2 by rfl] at hms
 rw[hms];obtain⟨tw0,nu1,nu2,hu0⟩:=zc5 (K:=K) (O:=.lst (ms.map V.int)) hlw hld hu;have sB:=z04 hu0 (.lst (ms.map V.int));have kb:=z01 (H:=H') (a:=u) (o:=.lst (ms.map V.int))
 generalize upd H' u (.lst (ms.map V.int))=Hb at tw0 sB kb;have ku0:=tw0.same _ _ kb;generalize upd (upd (upd H' lw (.lst [])) ld (.lst [])) u (.lst (ms.map V.int))=H3 at tw0 ku0 ⊢
 refine⟨⟨_,SqL.of ku0⟩,?_⟩;refine zde (xs:=ms.map V.int) (λj σ' H'=>∃t6 t7 t8 ws rs drs,σ' = [some (.ref a),some (.int z),some (.int (au:Int)),some (.int way),some (.ref lw),some (.ref ld),t6,t7,t8]/\Two K Hb H' lw ld (ws.map V.int) rs (ws.map PyData.int) (drs.map z39)/\ws.length=j/\drs.length=j/\(∀x∈ws,1≤x/\x≤10^60)/\∀r∈drs,r ≠ []/\r.Pairwise (· < ·)/\∀h∈r,h<au) ⟨_,_,_,[],[],[],rfl,tw0,rfl,rfl,λ_ z=>(by cases z),λ_ z=>(by cases z)⟩ ?_ ?_ ?_
 ·rintro j σ' H' _ ⟨t6,t7,t8,ws,rs,drs,rfl,tw,_⟩;exact SqL.of (tw.same _ _ kb)
 ·rintro j x σ' H' Tp hx ⟨t6,t7,t8,ws,rs,drs,rfl,tw,wl,dl,wb,db⟩ hT;obtain⟨c,hc,rfl⟩:=zdg hx;have hj:=(y00.mp hc).1;have sT:=z04 hT (.tup [.int (j:Int),.int c])
  have tw1:=tw.more sT;have kT:=z01 (H:=H') (a:=Tp) (o:=.tup [.int (j:Int),.int c])
  generalize upd H' Tp (.tup [.int (j:Int),.int c])=H4 at tw1 kT ⊢
  walk_at "r";refine⟨_,_,SqT.of kT,?_⟩;walk_at "r";refine zmw (P:=λth=>zij [.int c,.int (au:Int),.bl th] H4 _ E0) λth=>?_;refine⟨c,au,th,rfl,h0,h12,λr row H5 rne b7 rlt nr s5 hr5=>?_⟩;have tw2:=tw1.more s5;have n1:r≠lw:=λz=>by rw[z,tw1.h1] at nr;cases nr
  have n2:r≠ld:=λz=>by rw[z,tw1.h2] at nr;cases nr
  clear tw tw1 sT kT s5 nr;refine⟨fun σ' H'=>∃r row,σ' = [some (.ref a),some (.int z),some (.int (au:Int)),some (.int way),some (.ref lw),some (.ref ld),some (.int (j:Int)),some (.int c),some (.ref r)]/\Two K Hb H' lw ld (ws.map V.int) rs (ws.map PyData.int) (drs.map z39)/\r≠lw/\r≠ld/\H' r=some (.lst (z09 row))/\row ≠ []/\row.Pairwise (· < ·)/\∀h∈row,h<au,?_,?_⟩
  ·walk_at "r";refine z4d (λ_=>?_) (λ_=>⟨r,row,rfl,tw2,n1,n2,hr5,rne,b7,rlt⟩);refine⟨mpos,mpos,sz (by show 2≤1000;decide),λl1 hl1=>?_⟩
   have f1:=z04 hl1 (.lst [.int ((j:Int) % (au:Int)),.int (((j:Int)+1) % (au:Int))]);refine⟨_,SqL.of z01,λl2 hl2=>?_⟩;rw[zj1 h0];have f2:=z04 hl2 (.lst (((zc7 j au).map λ(x:Nat)=>(x:Int)).map V.int))
   obtain⟨rk1,rk2,rk3⟩:=zjy (j:=j) h0;refine⟨_,SqL.of z01,by rw[y04];unfold zc7;split<;>simp,λss ps os l3 hl3=>?_⟩
   obtain⟨r',er,pr,sr⟩:=zi5 rk1 ps os;rw[er];have f3:=z04 hl3 (.lst (z09 r'));have tw3:=tw2.more (f1.trans (f2.trans f3))
   have h3:=z3r (f1.trans f2) hl3;refine⟨l3,r',rfl,tw3,λz=>?_,λz=>?_,z01,λz=>?_,sr,λh hh=>rk3 h (pr.mem_iff.mp hh)⟩
   ·rw[z,tw2.h1] at h3;cases h3
   ·rw[z,tw2.h2] at h3;cases h3
   ·subst z;exact rk2 (List.nil_perm.mp pr)
  rintro σ' H6 ⟨r,row,rfl,tw3,n1,n2,hr6,rne,b7,rlt⟩;clear tw2 hr5;refine⟨fun σ' H'=>∃r row,σ' = [some (.ref a),some (.int z),some (.int (au:Int)),some (.int way),some (.ref lw),some (.ref ld),some (.int (j:Int)),some (.int c),some (.ref r)]/\Two K Hb H' lw ld (ws.map V.int) rs (ws.map PyData.int) (drs.map z39)/\r≠lw/\r≠ld/\H' r=some (.lst (z09 row))/\row ≠ []/\row.Pairwise (· < ·)/\∀h∈row,h<au,?_,?_⟩
  ·walk_at "r";refine z4d (λ_=>?_) (λ_=>⟨r,row,rfl,tw3,n1,n2,hr6,rne,b7,rlt⟩);have jm:(j:Int) % (au:Int)=((j % au:Nat):Int):=by lia
   have jl:=y6y j h0;refine⟨mpos,⟨by lia,by lia⟩,?_⟩
   rw[jm,show((1:Int)+((j % au:Nat):Int)).toNat=1+j % au by lia]
   refine cgo (σ':=[none]) rfl ?_;refine zkv (by lia) λl1 hl1=>?_
   have f1:=z04 hl1 (.lst (z09 (y0f (1+j % au))));refine⟨l1,y0f (1+j % au),rfl,tw3.more f1,λz=>?_,λz=>?_,z01,λz=>?_,y48,λh hh=>?_⟩
   ·rw[z,tw3.h1] at hl1;cases hl1
   ·rw[z,tw3.h2] at hl1;cases hl1
   ·have:=congrArg y6a z;rw[y2q] at this;simp at this
   ·have:=y1d.mp hh;lia
  rintro σ' H7 ⟨r,row,rfl,tw4,n1,n2,hr7,rne,b7,rlt⟩;clear tw3 hr6;walk_at "r";refine⟨⟨_,tw4.h1⟩,c,rfl,λw w1 w2=>?_⟩;refine⟨_,tw4.h1,z0i (by rw[y04];lia),?_⟩
  have ai:IsAll K (z7c H7 lw ld) (ws.map V.int ++ [.int w]) (ws.map PyData.int ++ [.int w]):=z1j tw4.a1 (by simp only[Is])
  have tw5:=tw4.set1 ai;have hr8:upd H7 lw (.lst (ws.map V.int ++ [.int w])) r=some (.lst (z09 row)):=by rw[z0a n1];exact hr7
  generalize upd H7 lw (.lst (ws.map V.int ++ [.int w]))=H8 at tw5 hr8 ⊢
  have rl:rs.length=j:=by rw[z0g tw4.a2,y04,dl]
  refine⟨⟨_,tw5.h2⟩,_,tw5.h2,z0i (by lia),?_⟩
  have tw6:=tw5.set2 (z1j tw5.a2 (is_list.mpr ⟨r,_,rfl,by rw[z3u n1 n2];exact hr8,z28 row⟩))
  refine⟨_,_,_,ws ++ [w],rs ++ [.ref r],drs ++ [row],rfl,by rw[y0g,y0g,y0g];exact tw6,by rw[y0e];simp;lia,by rw[y0e];simp;lia,λx hx=>?_,λx hx=>?_⟩
  ·rcases y0y.mp hx with hx | hx
   ·exact wb x hx
   ·rw[y09.mp hx];exact⟨w1,w2⟩
  ·rcases y0y.mp hx with hx | hx
   ·exact db x hx
   ·rw[y09.mp hx];exact⟨rne,b7,rlt⟩
 ·rintro σ' H' ⟨t6,t7,t8,ws,rs,drs,rfl,tw,wl,dl,wb,db⟩;rw[y04] at wl dl;walk_at "r";refine⟨sz (by show 3≤1000;decide),λp hp=>?_⟩
  have s5:=z04 hp (.tup [.ref lw,.ref ld,.int (au:Int)]);have tw5:=tw.more s5
  have rok:RowsOk ws.length au drs:=⟨by rw[dl,wl],db⟩
  refine q p lw ld ws drs au _ ⟨⟨tw5.h1,is_list.mpr ⟨ld,rs,rfl,tw5.h2,IsAll.same z5d _ _ tw5.a2⟩,by rw[dl,wl],by lia,rok.row (by lia),λx hx=>(wb x hx).1,λx hx=>?_⟩,rok,λx hx=>(wb x hx).2,h0,h12,by lia⟩ (sB.trans tw5.same) z01
  have:=wb x hx;show x.natAbs<2^300;have:(10:Nat)^60<2^300:=by decide +kernel
  lia
noncomputable abbrev z2v:Stmt:=top 18
theorem sc_layers_by:FnScope ["works","doers","many","crowds"] ["works","doers","many"] (z05 z2v):=⟨rfl,rfl,rfl,by decide +kernel,rfl,by decide +kernel,by decide +kernel⟩
theorem zbu (T:Top K mg "layers_by" z2v ["works","doers","many"])(B:Blt mg)(BS:mg "set"=none)(aZ:Def P w K mg base "crowds_by" 10 ["works","doers","many"] (zab K))(bq:Def P w K mg base "part_of" 2 ["top","bottom"] (zbb K))(bx:Def P w K mg base "work_in" 1 ["works","crowd"] (zan K)):Def P w K mg base "layers_by" 11 ["works","doers","many"] (zdu K):=by
 refine z1h (k:=10) T sc_layers_by (λvs H Q E h=>?_) (λf cdv A outer s H vs Q E hr h=>?_)
 ·obtain⟨aw,ad,au,ws,drs,rfl,_⟩:=h;rfl
 obtain⟨aw,ad,au,ws,drs,rfl,ac,dk,q⟩:=h;have few:=ac.few;have mfew:=dk.few
 refine⟨_,(z02 (z0d 3 sc_layers_by.nd (z0e aZ (hr.mono (by decide)) (z00 (cv 0) (z00 (cv 1) (z00 (cv 2) z03)))))
   (z07 (z0m (z3s (N:=["crowd","works"]) (fr:=[0]) 1 (z1o (cv 3)) (λC hN=>by exact pgC ((z0b 0 hN)) (by walk_at "c")) (λC hN=>by exact peC ((z2s (z00 (z0e bq (hr.mono (by decide)) (z00 (z0e bx (hr.mono (by decide)) (z00 (cv 1) (z00 (cv 0) z03))) (z00 (z43 z25 B.len y19 (z00 (z0k z0j (cv 0) z06 (λ_ _=>rfl)) z03)) z03))) (z00 (z0k z0j (cv 0) z06 (λ_ _=>rfl)) (z00 (z0k z0j (cv 0) z06 (λ_ _=>rfl)) z03))))) (by walk_at "c")))))),?_⟩
 refine rd (σ':=[some (.ref aw),some (.ref ad),some (.int (au:Int)),none]) rfl ?_;walk_at "r";refine⟨aw,ad,au,ws,drs,rfl,ac,dk,λL h1 h2 h3 vl H1 s1 il=>?_⟩;have co:CrOk ws drs au L:=⟨h1,h2,h3⟩;have lf:=co.few mfew
 obtain⟨al,cv,rfl,hal,hall⟩:=is_list.mp il;have cvl:cv.length=L.length:=by simpa using z0g hall
 walk_at "r";refine .inl ⟨⟨_,SqL.of hal⟩,?_⟩;refine cgo (σ':=[none,some (.ref aw)]) rfl ?_;refine z1r (xs:=cv) (λi ys H2=>Same H1 H2/\ys.length≤i/\∃ps:List (Int×Int),LayOk ws (L.take i) ps/\IsAll K H2 ys (z37 ps (L.take i))) ⟨Same.refl _,y0b _,[],⟨rfl,λi c p h=>by simp at h⟩,z0r⟩ (z0i (by lia)) ?_ ?_ ?_
 ·rintro i ys H2 _ ⟨e2,yl,_⟩;exact⟨SqL.of (e2 _ _ hal),yl⟩
 ·rintro i x ys H2 hx ⟨e2,yl,ps,lo,al⟩;have hil:=(y00.mp hx).1;obtain⟨d,hd,isx⟩:=z4r hall hx;rw[y06] at hd;cases hc:L[i]? with
  | none=>rw[hc] at hd;cases hd
  | some c =>
   rw[hc] at hd;cases hd;have cm:=y02 hc;obtain⟨lt1,lt2,ne,r1,r2⟩:=co.lt cm;have cl2:=z1a r2 lt2
   have cl1:=z1a r1 lt1;have aO:=y0x.mpr ne
   replace isx:=Is.same e2 _ _ isx;obtain⟨tc,ch,cc,rfl,k1,k2,k3⟩:=is_crowd.mp isx;walk_at "r";refine z7r ⟨aw,.ref tc,ws,c.1,c.2,rfl,(s1.trans e2) _ _ ac.w,isx,by lia,lt2,λH3 s3=>?_⟩
   walk_at "r";refine⟨_,_,.inr (SqT.of (s3 _ _ k1)),rfl,_,.inl (SqL.of (s3 _ _ k2)),?_⟩;walk_at "r";rw[z0l];refine⟨_,_,rfl,by lia,by show _<_;exact y0r (show((c.1.length:Int)).natAbs<2^5 by lia) (y4o (by decide) (by decide)),λn d d1 gcd e=>?_⟩
   intro vf H4 s4 isf;obtain⟨fa,rfl,hfa⟩:=is_frac.mp isf;walk_at "r";have s34:=s3.trans s4;refine⟨_,_,.inr (SqT.of (s34 _ _ k1)),rfl,_,_,.inr (SqT.of (s34 _ _ k1)),rfl,sz (by show 3≤1000;decide),λt ht=>?_⟩
   have sT:=z04 ht (.tup [.ref fa,.ref ch,.ref cc]);have s35:=s34.trans sT
   have etot:z2l ws c.2=PM.tot (z2n ws) c:=by
    unfold z2l PM.tot;rw[y0m λx hx=>?_];unfold z2n;rw[if_pos (lt2 x hx)]
   have tk:=z0h hc;have pl:ps.length=i:=by rw[lo.len,y0t];lia
   refine CNx.mk ⟨e2.trans s35,by rw[y0e];simp;lia,ps ++ [(n,d)],⟨?_,λj c' p' hj hp=>?_⟩,?_⟩ hil
   ·rw[tk,y0e,y0e,lo.len];rfl
   ·rw[tk] at hj
    by_cases z:j<i
    ·rw[y0s (by rw[y0t];lia)] at hj
     rw[y0s (by lia)] at hp
     exact lo.at_ j c' p' hj hp
    ·rw[y10 (by lia)] at hp
     have ej:j=i:=by
      have:=(y00.mp hp).1;simp at this;lia
     subst ej;rw[y10 (by rw[y0t];lia)] at hj
     rw[show j - (L.take j).length=0 by rw[y0t];lia] at hj
     rw[pl,Nat.sub_self] at hp;cases hj;cases hp;refine⟨⟨d1,gcd⟩,?_⟩;show n*(c.1.length:Int)=_*d;rw[←etot];exact e
   ·rw[tk,z7d lo.len];refine z1j (IsAll.same s35 _ _ al) (is_layer.mpr ⟨t,fa,ch,cc,rfl,z01,sT _ _ hfa,s35 _ _ k2,s35 _ _ k3⟩)
 ·rintro ys H2 ⟨e2,_,ps,lo,al⟩ l hl;rw[cvl,y0c (y0b _)] at lo al;exact q L ps co lo _ _ (s1.trans (e2.trans (z04 hl _))) (is_list.mpr ⟨l,_,rfl,z01,IsAll.same (z04 hl _) _ _ al⟩)
noncomputable abbrev z3n:Stmt:=top 19
theorem sc_loads_by:FnScope ["works","doers","many","loads","layer","hand"] ["works","doers","many"] (z05 z3n):=⟨rfl,rfl,rfl,by decide +kernel,rfl,by decide +kernel,by decide +kernel⟩
theorem zce (T:Top K mg "loads_by" z3n ["works","doers","many"])(B:Blt mg)(BS:mg "set"=none)(bL:Def P w K mg base "layers_by" 11 ["works","doers","many"] (zdu K)):Def P w K mg base "loads_by" 12 ["works","doers","many"] (zgz K):=by
 refine z1h (k:=11) T sc_loads_by (λvs H Q E h=>?_) (λf cdv A outer s H vs Q E hr h=>?_)
 ·obtain⟨aw,ad,au,ws,drs,rfl,_⟩:=h;rfl
 obtain⟨aw,ad,au,ws,drs,rfl,ac,dk,q⟩:=h;have few:=ac.few;have mfew:=dk.few
 refine⟨_,(z02 (z0d 3 sc_loads_by.nd (z0n z3c (z1b (z00 (z2s (z00 z06 (z00 z06 z03))) z03)) (cv 2)))
   (z02 (z1u (z1o (z0e bL (hr.mono (by decide)) (z00 (cv 0) (z00 (cv 1) (z00 (cv 2) z03))))) (z0b 4 sc_loads_by.nd)
   (z07 (z1u (z1o (z0k z0j (cv 4) z06 (λ_ _=>rfl))) (z0b 5 sc_loads_by.nd)
    (z07 (z9n (z0k z0j (cv 4) z06 (λ_ _=>rfl)) (zbg (cv 3) (cv 5) z4t))))))
   (z07 (z0m (cv 3))))),?_⟩
 refine rd (σ':=[some (.ref aw),some (.ref ad),some (.int (au:Int)),none,none,none]) rfl ?_;walk_at "r";refine⟨sz (by show 2≤1000;decide),λt0 ht0=>⟨sz (by show 1≤1000;decide),λl0 hl0=>?_⟩⟩
 have w1:=z04 ht0 (.tup [.int 0,.int 1]);have w2:=z04 hl0 (.lst [.ref t0])
 refine⟨_,z01,by lia,by lia,sz (by show 1*_≤1000;lia),λl hl=>?_⟩
 rw[z3y,show((au:Int)).toNat=au by lia]
 have w3:=z04 hl (.lst (y07 au (V.ref t0)));have g0:Grow K H (upd (upd (upd H t0 (.tup [.int 0,.int 1])) l0 (.lst [.ref t0])) l (.lst (y07 au (V.ref t0)))) l (y07 au (V.ref t0)) ((y07 au ((0,1):Int×Int)).map λp=>z3l p.1 p.2):=by
  refine⟨?_,z01,?_⟩
  ·rw[z2z];exact(w1.trans w2).trans (zao hl)
  ·rw[z2z,y38];have e:(del (upd (upd H t0 (.tup [.int 0,.int 1])) l0 (.lst [.ref t0])) l) t0=some (.tup [.int 0,.int 1]):=by
    have e1:=w2 _ _ (z01 (H:=H) (a:=t0) (o:=.tup [.int 0,.int 1]));rw[z8l (z08 e1 hl)];exact e1
   exact z6m (is_frac.mpr ⟨t0,rfl,e⟩) au
 generalize upd (upd (upd H t0 (.tup [.int 0,.int 1])) l0 (.lst [.ref t0])) l (.lst (y07 au (V.ref t0)))=H1 at g0 ⊢
 clear w1 w2 w3 hl ht0 hl0;refine⟨aw,ad,au,ws,drs,rfl,ac.same g0.same,dk,λL ps co lo vl H2 s2 il=>?_⟩;have lf:=co.few mfew;obtain⟨al,lv,rfl,hal,hall⟩:=is_list.mp il;have lvl:lv.length=L.length:=by rw[z0g hall,z8y lo.len]
 have g2:=g0.more s2;walk_at "r";refine .inl ⟨⟨_,SqL.of hal⟩,?_⟩;have fin:∀(σ':St) (H':Hp) (vs:List V) (qs:List (Int×Int)),Grow K H H' l vs (qs.map λp=>z3l p.1 p.2)->LoadOk au L ps qs->Q (.ref l) H':=fun σ' H' vs qs g lok=>q L ps qs co lo lok _ _ g.same g.is
 by_cases hL:L = []
 ·subst hL;have hlv:lv = []:=y1j.mp lvl;subst hlv;refine z2t (xs:=[]) (λi σ' H'=>H'=H2/\∃t4 t5,σ' = [some (.ref aw),some (.ref ad),some (.int (au:Int)),some (.ref l),t4,t5]) ⟨rfl,_,_,rfl⟩ ?_ ?_ ?_
  ·rintro i σ' H' _ ⟨rfl,_⟩;exact SqL.of hal
  ·intro i x σ' H' hx;simp at hx
  ·rintro σ' H' ⟨rfl,t4,t5,rfl⟩;walk_at "r";exact fin [] _ _ _ g2 ⟨by simp,λi c p hc=>by simp at hc⟩
 ·have nal:al≠l:=λz=>by
   subst z;have e:=g2.here;rw[hal] at e;cases e;have hL0:=y0x.mpr hL
   have hv0:(y07 au (V.ref t0))[0]?=some ((y07 au (V.ref t0))[0]'(by lia)):=y01 (by lia)
   obtain⟨d,hd,isd⟩:=z4r hall hv0;obtain⟨p,c,_,_,rfl⟩:=z75 hd;obtain⟨a1,_,_,_,ea,ha1,_⟩:=is_layer.mp isd;obtain⟨d2,hd2,isd2⟩:=z4r g2.all hv0;rw[y06] at hd2;cases z2:(y07 au ((0,1):Int×Int))[0]? with
   | none=>rw[z2] at hd2;cases hd2
   | some p2 =>
    rw[z2] at hd2;cases hd2;obtain⟨a2,ea2,ha2⟩:=is_frac.mp (Is.same del_sub _ _ isd2);rw[ea] at ea2;cases ea2;rw[ha1] at ha2;cases ha2
  refine z2t (xs:=lv) (λi σ' H'=>∃t4 t5 vs qs,σ' = [some (.ref aw),some (.ref ad),some (.int (au:Int)),some (.ref l),t4,t5]/\Frz [l] H2 H'/\Grow K H H' l vs (qs.map λp=>z3l p.1 p.2)/\LoadOk au (L.take i) ps qs) ⟨_,_,_,_,rfl,Frz.of (Same.refl _),g2,by simp,λi c p hc=>by simp at hc⟩ ?_ ?_ ?_
  ·rintro i σ' H' _ ⟨_,_,_,_,_,fz,_⟩;exact SqL.of (fz _ _ (by simpa using nal) hal)
  ·rintro i x σ' H' hx ⟨t4,t5,vs,qs,rfl,fz,g,lok⟩;obtain⟨d,hd,isx⟩:=z4r hall hx;obtain⟨p,c,hp,hc,rfl⟩:=z75 hd;obtain⟨a1,fa,xa,ya,rfl,k1,k2,k3,k4⟩:=is_layer.mp isx;obtain⟨lt1,lt2,ne,r1,r2⟩:=co.lt (y02 hc);have na1:a1≠l:=λz=>by rw[z,g2.here] at k1;cases k1
   have nfa:fa≠l:=λz=>by rw[z,g2.here] at k2;cases k2
   have nxa:xa≠l:=λz=>by
    subst z;have e:=g2.here;rw[k3] at e;have e2:z09 c.1=y07 au (V.ref t0):=HO.lst.inj (y12 e)
    obtain⟨x0,r0,hx0⟩:=y2m ne;have hm:V.int (x0:Int)∈y07 au (V.ref t0):=by
     rw[←e2,hx0];exact y0d
    cases y3z hm
   have fzz:∀{H5:Hp} {b:Addr} {o:HO},Frz [l] H2 H5->b≠l->H2 b=some o->H5 b=some o:=λ{H5 b o} f hb h=>f b o (by simpa using hb) h
   have cl:=z1a r1 lt1;walk_at "r";refine⟨_,_,.inr (SqT.of (fzz fz na1 k1)),rfl,?_⟩;walk_at "r";refine .inl ⟨⟨_,SqL.of (fzz fz nxa k3)⟩,?_⟩;refine z2t (xs:=z09 c.1) (λj σ' H'=>∃t5 vs qs,σ' = [some (.ref aw),some (.ref ad),some (.int (au:Int)),some (.ref l),some (.ref a1),t5]/\Frz [l] H2 H'/\Grow K H H' l vs (qs.map λp=>z3l p.1 p.2)/\LoadOk au (L.take i) ps qs/\∀h∈c.1.take j,qs[h]?=some p) ⟨_,vs,qs,rfl,fz,g,lok,λh hh=>by simp at hh⟩ ?_ ?_ ?_
   ·rintro j σ' H' _ ⟨_,_,_,_,fz,_⟩;exact SqL.of (fzz fz nxa k3)
   ·rintro j y σ' H' hy ⟨t5,vs,qs,rfl,fz,g,lok,done⟩;obtain⟨hd',hhd,rfl⟩:=z2q hy;have hlt:=lt1 hd' (y02 hhd);have vl2:vs.length=au:=by
     have:=z0g g.all;rw[y04,lok.len] at this;exact this
    walk_at "r";refine⟨_,_,.inr (SqT.of (fzz fz na1 k1)),rfl,_,hd',g.here,z3g (by lia),?_⟩
    have isf:Is K (del H' l) (.ref fa) (z3l p.1 p.2):=is_frac.mpr ⟨fa,rfl,by rw[z8l nfa];exact fzz fz nfa k2⟩
    refine⟨_,vs.set hd' (.ref fa),qs.set hd' p,rfl,fz.trans (Frz.upd (by simp)),⟨by rw[z2z];exact g.old,z01,?_⟩,⟨by rw[y2a];exact lok.len,λi' c' p' hc' hp' h hh=>?_⟩,λh hh=>?_⟩
    ·rw[z2z,y2l];exact z67 g.all isf
    ·have ne':hd'≠h:=λz=>by
      subst z;exact co.apart mfew (i:=i') (j:=i) (by
       have:=(y00.mp hc').1;rw[y0t] at this;lia) (zjs hc') hc hh (y02 hhd)
     rw[y13 ne'];exact lok.at_ i' c' p' hc' hp' h hh
    ·rw[z0h hhd] at hh
     by_cases z:hd'=h
     ·subst z;rw[y0v (by rw[lok.len];exact hlt)]
     ·rw[y13 z];rcases y0y.mp hh with hh | hh
      ·exact done h hh
      ·exact absurd (y09.mp hh).symm z
   ·rintro σ' H' ⟨t5,vs,qs,rfl,fz,g,lok,done⟩;rw[z0l,y0c (y0b _)] at done;refine⟨_,_,vs,qs,rfl,fz,g,⟨lok.len,λi' c' p' hc' hp' h hh=>?_⟩⟩;rw[z0h hc] at hc'
    by_cases z:i'<i
    ·rw[y0s (by rw[y0t];have:=(y00.mp hc).1;lia)] at hc'
     exact lok.at_ i' c' p' hc' hp' h hh
    ·have hil:=(y00.mp hc).1;rw[y10 (by rw[y0t];lia)] at hc'
     have ei:i'=i:=by
      have:=(y00.mp hc').1;rw[y0t] at this;simp at this;lia
     subst ei;rw[show i' - (L.take i').length=0 by rw[y0t];lia] at hc'
     cases hc';rw[hp] at hp';cases hp';exact done h hh
  ·rintro σ' H' ⟨t4,t5,vs,qs,rfl,fz,g,lok⟩;rw[lvl,y0c (y0b _)] at lok;walk_at "r";exact fin [] _ _ _ g lok
noncomputable abbrev zis:Stmt:=top 39
theorem sc_law:FnScope ["_law_script","_law_works","_law_doers","_law_many","_law_handed","_law_time","_law_shares_here","_law_loads","_law_some"] ["_law_script"] (z05 zis):=⟨rfl,rfl,rfl,by decide +kernel,rfl,by decide +kernel,by decide +kernel⟩
theorem zoz {f:Addr}{fd:FuncData}(U:Fun K "law" "law" zis f fd)(B:Blt mg)(BS:mg "set"=none)(aL:Def P w K mg base "_law_mixed" 1 ["_law_cell","_law_k"] (z40))(bj:Def P w K mg base "_law_cell_at" 1 ["_law_script","_law_k"] (z82 K))(bB:Def P w K mg base "_law_many_chores" 12 ["_law_script"] (zi9 K))(cw:Def P w K mg base "_law_crowd" 3 ["_law_script"] (zhv K))(aM:Def P w K mg base "deal_evenly" 11 ["works","doers","many"] (za4 K))(br:Def P w K mg base "_law_shares" 4 ["_law_shares_here","_law_works","_law_doers"] (z7w K))(bS:Def P w K mg base "_law_bear" 4 ["_law_doers","_law_many","_law_shares_here"] (zh1 K))(bZ:Def P w K mg base "loads_by" 12 ["works","doers","many"] (zgz K))(bU:Def P w K mg base "_law_even" 2 ["_law_shares_here","_law_doers","_law_loads"] (zdb K)):FnOk P w K mg base CX0 13 f fd ["_law_script"] (zf3 K):=by
 refine U.ok sc_law (λvs H Q E h=>?_) (λcdv A outer s H vs Q E hr h=>?_)
 ·obtain⟨a,ns,rfl,_⟩:=h;rfl
 obtain⟨a,ns,rfl,hS,hlen,q⟩:=h;refine⟨_,(z02 (z3d (z0w z5q (z0n z20 (z0e aL (hr.mono (by decide)) (z00 (z0e bj (hr.mono (by decide)) (z00 (cv 0) (z00 z06 z03))) (z00 z06 z03))) z06) z06 (z0p _))
   (z07 (z0m (z0e bB (hr.mono (by decide)) (z00 (cv 0) z03))))
   z1d)
   (z02 (z9n (z0e cw (hr.mono (by decide)) (z00 (cv 0) z03)) (zp8 (z0b 1 sc_law.nd) (z0b 2 sc_law.nd) (z0b 3 sc_law.nd)))
   (z02 (z0d 4 sc_law.nd (z1b (z00 (znv z8b B.list z4z (z00 (cv 1) z03)) (z00 (z3s (N:=["_law_row_here"]) (fr:=[]) 1 (z1o (cv 2)) (λC hN=>by exact pgC ((z0b 0 hN)) (by walk_at "c")) (λC hN=>by exact peC ((znv z8b B.list z4z (z00 (cv 0) z03))) (by walk_at "c"))) z03))))
   (z02 (z1u (zhp B.range (z00 z06 z03)) (z0b 5 sc_law.nd)
   (z02 (z0d 6 sc_law.nd (z0e aM (hr.mono (by decide)) (z00 (z0k z0j (cv 4) z06 (λ_ _=>rfl)) (z00 (z0k z0j (cv 4) z06 (λ_ _=>rfl)) (z00 (cv 3) z03)))))
    (z02 (z3d (z3x (z2r (z0e br (hr.mono (by decide)) (z00 (cv 6) (z00 (cv 1) (z00 (cv 2) z03))))))
    (z07 (z0m z79))
    z1d)
    (z02 (z0d 7 sc_law.nd (z0e bS (hr.mono (by decide)) (z00 (cv 2) (z00 (cv 3) (z00 (cv 6) z03)))))
    (z02 (z3d (z9b (z3x (z2r (z0e bU (hr.mono (by decide)) (z00 (cv 6) (z00 (cv 2) (z00 (cv 7) z03)))))) (z7h (z0w (zli hr) (z0e bZ (hr.mono (by decide)) (z00 (z0k z0j (cv 4) z06 (λ_ _=>rfl)) (z00 (z0k z0j (cv 4) z06 (λ_ _=>rfl)) (z00 (cv 3) z03)))) (cv 7) (z0p _)))).pt
    (z07 (z0m z79))
    z1d)
    (z02 (z1u (z1o (cv 6)) (z0b 8 sc_law.nd)
    (z07 (z1z (z0z (cv 8) (z00 (z2s (z00 z06 (z00 z06 z03))) z03)))))
    (z07 (z1z (zck (cv 6))))))))))
   (z07 (z0m (z8x (z33 (zec hr) (cv 4) (z1b (z00 (cv 1) (z00 (cv 2) z03))) (z0p _)) (z8x (z33 (zec hr) (z0e aM (hr.mono (by decide)) (z00 (z1b z03) (z00 (z1b z03) (z00 (cv 3) z03)))) (z1b z03) (z0p _)) (z7g (z33 (zec hr) (z0e aM (hr.mono (by decide)) (z00 (z1b z03) (z00 (z1b z03) (z00 z06 z03)))) (z1b z03) (z0p _))))))))))),?_⟩
 refine rd (σ':=[some (.ref a),none,none,none,none,none,none,none,none]) rfl ?_;walk_at "r";refine⟨ns,hS,by decide,by decide,by decide,λz z0=>⟨by decide,z4d (λ_=>?_) (λ_=>?_)⟩⟩
 ·exact⟨a,ns,rfl,hS,hlen,λH' _=>q H'⟩
 refine⟨a,ns,rfl,hS,hlen,λp aw ad ws drs au H1 cr s1 kp=>?_⟩;walk_at "r";refine⟨_,_,_,SqT.of kp,?_⟩;have few:=cr.few;have h12:=cr.h12
 have h0:=cr.h0;have dl:=cr.ask.len
 have dk:DoOk ws drs au:=cr.rows.doOk rfl (by lia)
 have nr:∀r∈drs,r.Nodup:=λr hr=>(cr.rows.2 r hr).2.1.imp λh=>y0p h;obtain⟨_,rs,e0,hda,hrs⟩:=is_list.mp cr.ask.d;cases e0;walk_at "r";refine⟨_,.inl (SqL.of cr.ask.w),λbw hbw=>?_⟩;have s2:=z04 hbw (.lst (ws.map V.int))
 have kw:=z01 (H:=H1) (a:=bw) (o:=.lst (ws.map V.int));generalize upd H1 bw (.lst (ws.map V.int))=H2 at s2 kw ⊢
 walk_at "r";refine .inl ⟨⟨_,SqL.of (s2 _ _ hda)⟩,?_⟩;refine cgo (σ':=[none]) rfl ?_;refine zek (s2 _ _ hda) (IsAll.same s2 _ _ hrs) (by lia) λbd ys H4 e4 kd ad4=>?_
 have ask4:AsksC K H4 bw bd ws drs:=⟨e4 _ _ kw,is_list.mpr ⟨bd,ys,rfl,kd,ad4⟩,cr.ask.len,cr.ask.few,cr.ask.row,cr.ask.pos,cr.ask.bd⟩;have s4:=s2.trans e4
 clear kw hbw kd ad4 s2 e4 kp hda hrs;walk_at "r";refine⟨sz (by show 2≤1000;decide),λlh hlh=>?_⟩
 have f5:=z04 hlh (.lst [.ref bw,.ref bd]);have kh:=z01 (H:=H4) (a:=lh) (o:=.lst [.ref bw,.ref bd])
 replace ask4:=ask4.same f5;replace cr:=cr.same (s4.trans f5);generalize upd H4 lh (.lst [.ref bw,.ref bd])=H5 at kh ask4 cr ⊢
 clear f5 hlh s4;refine⟨⟨by decide,by decide⟩,?_⟩
 refine za0 (λi σ' H'=>Same H5 H'/\∃t5 t6 t7 t8,σ' = [some (.ref a),some (.ref aw),some (.ref ad),some (.int (au:Int)),some (.ref lh),t5,t6,t7,t8]) ⟨Same.refl _,_,_,_,_,rfl⟩ ?_ ?_
 ·rintro i σ' H' hi ⟨e1,t5,t6,t7,t8,rfl⟩;have kh1:=e1 _ _ kh;walk_at "r";refine⟨_,_,.inl (SqL.of kh1),rfl,_,_,.inl (SqL.of kh1),rfl,bw,bd,au,ws,drs,rfl,ask4.same e1,dk,nr,λL sss l rv H6 C sl pk t=>?_⟩;obtain⟨ps,qs,lo,lk,D⟩:=zft ask4 C h0 h12 cr.rows sl pk;have it:=t.is
  generalize z2b drs L sss (0,1)=R at D it t;have e6:=e1.trans t.same;have cr6:=cr.same e6
  walk_at "r";refine⟨l,aw,ad,au,ws,drs,R,qs,rfl,it,cr6.ask,D,λH7 s7=>?_⟩;walk_at "r";refine z91 ⟨ad,l,au,drs,R,M0,rfl,Is.same s7 _ _ cr6.ask.d,Is.same s7 _ _ it,D.rat.sh,by lia,λoq ol ob vo H8 s8 iso=>?_⟩
  cases LdB.uniq z8d ob D.ldb (ol.trans D.len.symm);obtain⟨lo',lv,rfl,_,_⟩:=is_list.mp iso;walk_at "r";have s78:=s7.trans s8;refine⟨l,ad,lo',au,ws,drs,R,_,rfl,Is.same s78 _ _ it,Is.same s78 _ _ cr6.ask.d,iso,D,λH9 s9=>?_⟩;walk_at "r";have s79:=s78.trans s9
  have e9:=e6.trans s79;have kh9:=e9 _ _ kh
  refine z91 ⟨_,_,.inl (SqL.of kh9),rfl,_,_,.inl (SqL.of kh9),rfl,bw,bd,au,ws,drs,rfl,ask4.same e9,dk,λL' ps' qs' co' lo2 lk' vf H10 s10 isf=>?_⟩;cases lk'.unique lo2 co' lk lo C h0 ask4.pos;refine⟨_,_,isf,Is.same s10 _ _ (Is.same s9 _ _ iso),za6 (n:=58) _,za6 (n:=58) _,?_⟩;rw[z4p (za6 (n:=58) _)];have e10:=s79.trans s10;have kl:=e10 _ _ t.out
  refine z91 (.inl ⟨⟨_,SqL.of kl⟩,?_⟩);have r12:∀r∈rv,∃xs,H10 r=some (.lst xs)/\xs.length≤12+0:=λr hr=>by
   obtain⟨k,hk⟩:=y08 hr;have kl:=(y00.mp hk).1;have tl:=t.len
   have hs:R[k]?=some (R[k]'(by lia)):=y01 _
   have hrw:drs[k]?=some (drs[k]'(by have:=D.ev.len;lia)):=y01 _
   obtain⟨v,hv,al⟩:=t.at_ k r _ hk hs;refine⟨v,e10 _ _ hv,?_⟩;rw[z0g al,y04,D.ev.row k _ _ hrw hs];obtain⟨_,b7,rlt⟩:=cr.rows.2 _ (y02 hrw);exact y17 (z1a b7 rlt) h12
  have rvl:rv.length≤8:=by rw[t.len,D.ev.len,dl];exact few
  refine z2t (xs:=rv.map V.ref) (λk σ' H2=>Same H' H2/\H2 l=some (.lst (rv.map V.ref))/\(∀r∈rv,∃xs,H2 r=some (.lst xs)/\xs.length≤12+k)/\∃t8,σ' = [some (.ref a),some (.ref aw),some (.ref ad),some (.int (au:Int)),some (.ref lh),some (.int (0+(i:Int))),some (.ref l),some (.ref lo'),t8]) ⟨t.same.trans e10,kl,r12,_,rfl⟩ ?_ ?_ ?_
  ·rintro k σ' H2 _ ⟨_,kl,_⟩;exact SqL.of kl
  ·rintro k x σ' H2 hx ⟨b1,kl,rr,t8,rfl⟩;have hk:=(y00.mp hx).1;rw[y04] at hk;rw[y06] at hx;obtain⟨r,hr,rfl⟩:=y46.mp hx;have mr:=y02 hr
   obtain⟨rn,rl⟩:=t.rows r mr;obtain⟨xs,hxs,xl⟩:=rr r mr;walk_at "r";refine⟨⟨_,hxs⟩,sz (by show 2≤1000;decide),λp hp=>?_⟩
   have f1:=z04 hp (.tup [.int 1,.int 1]);refine⟨xs,f1 _ _ hxs,z0i (by lia),λb o hb=>?_,?_,λr' mr'=>?_,_,rfl⟩
   ·rw[z0a (z08 hb rn)];exact(b1.trans f1) _ _ hb
   ·rw[z0a (λz=>rl z.symm)];exact f1 _ _ kl
   ·by_cases c:r'=r
    ·subst c;exact⟨_,z01,by rw[y0e];show xs.length+1≤_;lia⟩
    ·obtain⟨ys,hys,yl⟩:=rr r' mr';exact⟨ys,by rw[z0a c];exact f1 _ _ hys,by lia⟩
  ·rintro σ' H2 ⟨b1,kl,_,t8,rfl⟩;walk_at "r";refine⟨_,kl,λb o hb=>?_,_,_,_,_,rfl⟩;have hb':=e1 _ _ hb;rw[z0a (z08 hb' t.new)];exact b1 _ _ hb'
 ·rintro σ' H' ⟨e1,t5,t6,t7,t8,rfl⟩;walk_at "r";refine⟨sz (by show 2≤1000;decide),λl1 hl1=>?_⟩
  have f1:=z04 hl1 (.lst [.ref aw,.ref ad]);have k1:=z01 (H:=H') (a:=l1) (o:=.lst [.ref aw,.ref ad])
  have e2:=e1.trans f1;generalize upd H' l1 (.lst [.ref aw,.ref ad])=H6 at e2 k1 ⊢
  have shW:Sh 60 (.list [.list (ws.map PyData.int),z64 drs]):=z54 (n:=59) λd hd=>by
   rcases y0k.mp hd with rfl | hd
   ·exact zn2 (n:=58) _
   ·rw[y09.mp hd];exact zpm (n:=57) _
  have a4:=ask4.same e2;have c4:=(cr.same e2).ask
  refine⟨.list [.list (ws.map PyData.int),z64 drs],.list [.list (ws.map PyData.int),z64 drs],is_list.mpr ⟨lh,_,rfl,e2 _ _ kh,z1c (is_list.mpr ⟨bw,_,rfl,a4.w,z35 _⟩) (z46 a4.d)⟩,is_list.mpr ⟨l1,_,rfl,k1,z1c (is_list.mpr ⟨aw,_,rfl,c4.w,z35 _⟩) (z46 c4.d)⟩,shW,shW,?_⟩;rw[z4p shW];have none_:∀(H:Hp) (m:Nat),m≤20->∀(Qn:VK) (p1 p2:Addr),H p1=some (.lst [])->H p2=some (.lst [])->(∀l H',Same H H'->H' l=some (.lst [])->Qn (.ref l) H')->za4 K [.ref p1,.ref p2,.int (m:Int)] H Qn E0:=λH m hm Qn p1 p2 h1 h2 qn=>by
   refine⟨p1,p2,m,[],[],rfl,⟨h1,is_list.mpr ⟨p2,[],rfl,h2,z0r⟩,rfl,by decide,λr hr=>(by cases hr),λx hx=>(by cases hx),λx hx=>(by cases hx)⟩,⟨hm,λc hc=>absurd hc (y43 _),λc hc=>absurd hc (y43 _)⟩,λr hr=>(by cases hr),λL sss l rv H' C sl pk t=>qn l H' t.same ?_⟩
   have e:rv.length=0:=by rw[t.len];exact zfz ..
   rw[t.out,y1j.mp e];rfl
  have nilE:∀(H1:Hp) (l:Addr) (p:Addr),H1 l=some (.lst [])->H1 p=none->Is K (upd H1 p (.lst [])) (.ref l) (.list [])/\Is K (upd H1 p (.lst [])) (.ref p) (.list []):=λH1 l p h1 h2=>⟨is_list.mpr ⟨l,[],rfl,z04 h2 _ _ _ h1,z0r⟩,is_list.mpr ⟨p,[],rfl,z01,z0r⟩⟩;have sh0:Sh 60 (.list []):=z54 (n:=59) λd hd=>by cases hd
  refine z7r ⟨sz (by show 0≤1000;decide),λp1 hp1=>⟨sz (by show 0≤1000;decide),λp2 hp2=>?_⟩⟩
  refine none_ _ au (by lia) _ p1 p2 (z04 hp2 _ _ _ z01) z01 λl H7 s7 kl=>⟨sz (by show 0≤1000;decide),λp3 hp3=>?_⟩
  obtain⟨i1,i2⟩:=nilE H7 l p3 kl hp3;refine⟨_,_,i1,i2,sh0,sh0,?_⟩;rw[z4p sh0];refine z7r ⟨sz (by show 0≤1000;decide),λp4 hp4=>⟨sz (by show 0≤1000;decide),λp5 hp5=>?_⟩⟩
  refine none_ _ 0 (by decide) _ p4 p5 (z04 hp5 _ _ _ z01) z01 λl H8 s8 kl=>⟨sz (by show 0≤1000;decide),λp6 hp6=>?_⟩
  obtain⟨i1,i2⟩:=nilE H8 l p6 kl hp6;refine⟨_,_,i1,i2,sh0,sh0,?_⟩;rw[z4p sh0];exact q _
end
theorem ln1 {α:Type}:∀{us:List α},us.length=1->∃x0,us = [x0]
 | [x0],_=>⟨x0,rfl⟩
theorem ln2 {α:Type}:∀{us:List α},us.length=2->∃x0 x1,us = [x0,x1]
 | [x0,x1],_=>⟨x0,x1,rfl⟩
theorem ln3 {α:Type}:∀{us:List α},us.length=3->∃x0 x1 x2,us = [x0,x1,x2]
 | [x0,x1,x2],_=>⟨x0,x1,x2,rfl⟩
theorem ln4 {α:Type}:∀{us:List α},us.length=4->∃x0 x1 x2 x3,us = [x0,x1,x2,x3]
 | [x0,x1,x2,x3],_=>⟨x0,x1,x2,x3,rfl⟩
theorem ln5 {α:Type}:∀{us:List α},us.length=5->∃x0 x1 x2 x3 x4,us = [x0,x1,x2,x3,x4]
 | [x0,x1,x2,x3,x4],_=>⟨x0,x1,x2,x3,x4,rfl⟩
theorem all_mk {l:y4v}{w:World}{K:y03}{h:Heap}{mg:Str->Option Value}{fa f1 f2 f3 f4 f5 f6 f7 f8 f9 f10 f11 f12 f13 f14 f15 f16 f17 f18 f19 f20 f21 f22 f23 f24 f25 f26 f27 f28 f29 f30 f31 f32 f33 f34 f35 f36 f37 f38 f39 f40 f41 f42 f43 f44 ay:Addr}(X:K.In h)(G:h.Ns mainGlobals mg)(hfa:mg "law"=some (.ref fa))
  {od1 an1 od2 an2 od3 an3 od4 an4 od5 an5 od6 an6 od7 an7 od8 an8 od9 an9 od10 an10 od11 an11 od12 an12 od13 an13 od14 an14 od15 an15 od16 an16 od17 an17 od18 an18 od19 an19 od20 an20 od21 an21 od22 an22 od23 an23 od24 an24 od25 an25 od26 an26 od27 an27 od28 an28 od29 an29 od30 an30 od31 an31 od32 an32 od33 an33 od34 an34 od35 an35 od36 an36 od37 an37 od38 an38 od39 an39 od40 an40 od41 an41 od42 an42 od43 an43 od44 an44:Option Addr} {sl1 sl2 sl3 sl4 sl5 sl6 sl7 sl8 sl9 sl10 sl11 sl12 sl13 sl14 sl15 sl16 sl17 sl18 sl19 sl20 sl21 sl22 sl23 sl24 sl25 sl26 sl27 sl28 sl29 sl30 sl31 sl32 sl33 sl34 sl35 sl36 sl37 sl38 sl39 sl40 sl41 sl42 sl43 sl44:Array (Option Value)} {oc1 kV1 dc1 pm1 cd1 ct1 oc2 kV2 dc2 pm2 cd2 ct2 oc3 kV3 dc3 pm3 cd3 ct3 oc4 kV4 dc4 pm4 cd4 ct4 oc5 kV5 dc5 pm5 cd5 ct5 oc6 kV6 dc6 pm6 cd6 ct6 oc7 kV7 dc7 pm7 cd7 ct7 oc8 kV8 dc8 pm8 cd8 ct8 oc9 kV9 dc9 pm9 cd9 ct9 oc10 kV10 dc10 pm10 cd10 ct10 oc11 kV11 dc11 pm11 cd11 ct11 oc12 kV12 dc12 pm12 cd12 ct12 oc13 kV13 dc13 pm13 cd13 ct13 oc14 kV14 dc14 pm14 cd14 ct14 oc15 kV15 dc15 pm15 cd15 ct15 oc16 kV16 dc16 pm16 cd16 ct16 oc17 kV17 dc17 pm17 cd17 ct17 oc18 kV18 dc18 pm18 cd18 ct18 oc19 kV19 dc19 pm19 cd19 ct19 oc20 kV20 dc20 pm20 cd20 ct20 oc21 kV21 dc21 pm21 cd21 ct21 oc22 kV22 dc22 pm22 cd22 ct22 oc23 kV23 dc23 pm23 cd23 ct23 oc24 kV24 dc24 pm24 cd24 ct24 oc25 kV25 dc25 pm25 cd25 ct25 oc26 kV26 dc26 pm26 cd26 ct26 oc27 kV27 dc27 pm27 cd27 ct27 oc28 kV28 dc28 pm28 cd28 ct28 oc29 kV29 dc29 pm29 cd29 ct29 oc30 kV30 dc30 pm30 cd30 ct30 oc31 kV31 dc31 pm31 cd31 ct31 oc32 kV32 dc32 pm32 cd32 ct32 oc33 kV33 dc33 pm33 cd33 ct33 oc34 kV34 dc34 pm34 cd34 ct34 oc35 kV35 dc35 pm35 cd35 ct35 oc36 kV36 dc36 pm36 cd36 ct36 oc37 kV37 dc37 pm37 cd37 ct37 oc38 kV38 dc38 pm38 cd38 ct38 oc39 kV39 dc39 pm39 cd39 ct39 oc40 kV40 dc40 pm40 cd40 ct40 oc41 kV41 dc41 pm41 cd41 ct41 oc42 kV42 dc42 pm42 cd42 ct42 oc43 kV43 dc43 pm43 cd43 ct43 oc44 kV44 dc44 pm44 cd44 ct44:Value}
  (a1:y0o K mainGlobals "_law_mixed"=some (some (.ref f1))) (l1:K.lookup f1=some ⟨oc1,od1,.func (y0n "_law_mixed" "_law_mixed" (z0f z58) (z0c z58) (z05 z58) .none kV1 dc1 pm1 an1 cd1 ct1),sl1⟩) (c1:y0j K cd1 "_law_mixed"=true) (k1:y0i K (.ref f1)=true)
  (a2:y0o K mainGlobals "_law_cell_at"=some (some (.ref f2))) (l2:K.lookup f2=some ⟨oc2,od2,.func (y0n "_law_cell_at" "_law_cell_at" (z0f z3k) (z0c z3k) (z05 z3k) .none kV2 dc2 pm2 an2 cd2 ct2),sl2⟩) (c2:y0j K cd2 "_law_cell_at"=true) (k2:y0i K (.ref f2)=true)
  (a3:y0o K mainGlobals "_law_work"=some (some (.ref f3))) (l3:K.lookup f3=some ⟨oc3,od3,.func (y0n "_law_work" "_law_work" (z0f z77) (z0c z77) (z05 z77) .none kV3 dc3 pm3 an3 cd3 ct3),sl3⟩) (c3:y0j K cd3 "_law_work"=true) (k3:y0i K (.ref f3)=true)
  (a4:y0o K mainGlobals "pour_more"=some (some (.ref f4))) (l4:K.lookup f4=some ⟨oc4,od4,.func (y0n "pour_more" "pour_more" (z0f z32) (z0c z32) (z05 z32) .none kV4 dc4 pm4 an4 cd4 ct4),sl4⟩) (c4:y0j K cd4 "pour_more"=true) (k4:y0i K (.ref f4)=true)
  (a5:y0o K mainGlobals "pour_all"=some (some (.ref f5))) (l5:K.lookup f5=some ⟨oc5,od5,.func (y0n "pour_all" "pour_all" (z0f z3o) (z0c z3o) (z05 z3o) .none kV5 dc5 pm5 an5 cd5 ct5),sl5⟩) (c5:y0j K cd5 "pour_all"=true) (k5:y0i K (.ref f5)=true)
  (a6:y0o K mainGlobals "ties_in"=some (some (.ref f6))) (l6:K.lookup f6=some ⟨oc6,od6,.func (y0n "ties_in" "ties_in" (z0f z4m) (z0c z4m) (z05 z4m) .none kV6 dc6 pm6 an6 cd6 ct6),sl6⟩) (c6:y0j K cd6 "ties_in"=true) (k6:y0i K (.ref f6)=true)
  (a7:y0o K mainGlobals "work_in"=some (some (.ref f7))) (l7:K.lookup f7=some ⟨oc7,od7,.func (y0n "work_in" "work_in" (z0f z4l) (z0c z4l) (z05 z4l) .none kV7 dc7 pm7 an7 cd7 ct7),sl7⟩) (c7:y0j K cd7 "work_in"=true) (k7:y0i K (.ref f7)=true)
  (a8:y0o K mainGlobals "pour_in"=some (some (.ref f8))) (l8:K.lookup f8=some ⟨oc8,od8,.func (y0n "pour_in" "pour_in" (z0f z4g) (z0c z4g) (z05 z4g) .none kV8 dc8 pm8 an8 cd8 ct8),sl8⟩) (c8:y0j K cd8 "pour_in"=true) (k8:y0i K (.ref f8)=true)
  (a9:y0o K mainGlobals "chosen"=some (some (.ref f9))) (l9:K.lookup f9=some ⟨oc9,od9,.func (y0n "chosen" "chosen" (z0f z5a) (z0c z5a) (z05 z5a) .none kV9 dc9 pm9 an9 cd9 ct9),sl9⟩) (c9:y0j K cd9 "chosen"=true) (k9:y0i K (.ref f9)=true)
  (a10:y0o K mainGlobals "crowds_by"=some (some (.ref f10))) (l10:K.lookup f10=some ⟨oc10,od10,.func (y0n "crowds_by" "crowds_by" (z0f z30) (z0c z30) (z05 z30) .none kV10 dc10 pm10 an10 cd10 ct10),sl10⟩) (c10:y0j K cd10 "crowds_by"=true) (k10:y0i K (.ref f10)=true)
  (a11:y0o K mainGlobals "is_whole"=some (some (.ref f11))) (l11:K.lookup f11=some ⟨oc11,od11,.func (y0n "is_whole" "is_whole" (z0f z3m) (z0c z3m) (z05 z3m) .none kV11 dc11 pm11 an11 cd11 ct11),sl11⟩) (c11:y0j K cd11 "is_whole"=true) (k11:y0i K (.ref f11)=true)
  (a12:y0o K mainGlobals "divisor_of"=some (some (.ref f12))) (l12:K.lookup f12=some ⟨oc12,od12,.func (y0n "divisor_of" "divisor_of" (z0f z2g) (z0c z2g) (z05 z2g) .none kV12 dc12 pm12 an12 cd12 ct12),sl12⟩) (c12:y0j K cd12 "divisor_of"=true) (k12:y0i K (.ref f12)=true)
  (a13:y0o K mainGlobals "part_of"=some (some (.ref f13))) (l13:K.lookup f13=some ⟨oc13,od13,.func (y0n "part_of" "part_of" (z0f z4k) (z0c z4k) (z05 z4k) .none kV13 dc13 pm13 an13 cd13 ct13),sl13⟩) (c13:y0j K cd13 "part_of"=true) (k13:y0i K (.ref f13)=true)
  (a14:y0o K mainGlobals "shares_in"=some (some (.ref f14))) (l14:K.lookup f14=some ⟨oc14,od14,.func (y0n "shares_in" "shares_in" (z0f z2x) (z0c z2x) (z05 z2x) .none kV14 dc14 pm14 an14 cd14 ct14),sl14⟩) (c14:y0j K cd14 "shares_in"=true) (k14:y0i K (.ref f14)=true)
  (a15:y0o K mainGlobals "rows_from"=some (some (.ref f15))) (l15:K.lookup f15=some ⟨oc15,od15,.func (y0n "rows_from" "rows_from" (z0f z34) (z0c z34) (z05 z34) .none kV15 dc15 pm15 an15 cd15 ct15),sl15⟩) (c15:y0j K cd15 "rows_from"=true) (k15:y0i K (.ref f15)=true)
  (a16:y0o K mainGlobals "deal_evenly"=some (some (.ref f16))) (l16:K.lookup f16=some ⟨oc16,od16,.func (y0n "deal_evenly" "deal_evenly" (z0f z2a) (z0c z2a) (z05 z2a) .none kV16 dc16 pm16 an16 cd16 ct16),sl16⟩) (c16:y0j K cd16 "deal_evenly"=true) (k16:y0i K (.ref f16)=true)
  (a17:y0o K mainGlobals "_law_below"=some (some (.ref f17))) (l17:K.lookup f17=some ⟨oc17,od17,.func (y0n "_law_below" "_law_below" (z0f z5e) (z0c z5e) (z05 z5e) .none kV17 dc17 pm17 an17 cd17 ct17),sl17⟩) (c17:y0j K cd17 "_law_below"=true) (k17:y0i K (.ref f17)=true)
  (a18:y0o K mainGlobals "_law_even"=some (some (.ref f18))) (l18:K.lookup f18=some ⟨oc18,od18,.func (y0n "_law_even" "_law_even" (z0f z7a) (z0c z7a) (z05 z7a) .none kV18 dc18 pm18 an18 cd18 ct18),sl18⟩) (c18:y0j K cd18 "_law_even"=true) (k18:y0i K (.ref f18)=true)
  (a19:y0o K mainGlobals "_law_divisor"=some (some (.ref f19))) (l19:K.lookup f19=some ⟨oc19,od19,.func (y0n "_law_divisor" "_law_divisor" (z0f z3p) (z0c z3p) (z05 z3p) .none kV19 dc19 pm19 an19 cd19 ct19),sl19⟩) (c19:y0j K cd19 "_law_divisor"=true) (k19:y0i K (.ref f19)=true)
  (a20:y0o K mainGlobals "_law_lowest"=some (some (.ref f20))) (l20:K.lookup f20=some ⟨oc20,od20,.func (y0n "_law_lowest" "_law_lowest" (z0f z4b) (z0c z4b) (z05 z4b) .none kV20 dc20 pm20 an20 cd20 ct20),sl20⟩) (c20:y0j K cd20 "_law_lowest"=true) (k20:y0i K (.ref f20)=true)
  (a21:y0o K mainGlobals "_law_plus"=some (some (.ref f21))) (l21:K.lookup f21=some ⟨oc21,od21,.func (y0n "_law_plus" "_law_plus" (z0f z6r) (z0c z6r) (z05 z6r) .none kV21 dc21 pm21 an21 cd21 ct21),sl21⟩) (c21:y0j K cd21 "_law_plus"=true) (k21:y0i K (.ref f21)=true)
  (a22:y0o K mainGlobals "_law_bear"=some (some (.ref f22))) (l22:K.lookup f22=some ⟨oc22,od22,.func (y0n "_law_bear" "_law_bear" (z0f z6x) (z0c z6x) (z05 z6x) .none kV22 dc22 pm22 an22 cd22 ct22),sl22⟩) (c22:y0j K cd22 "_law_bear"=true) (k22:y0i K (.ref f22)=true)
  (a23:y0o K mainGlobals "_law_whole"=some (some (.ref f23))) (l23:K.lookup f23=some ⟨oc23,od23,.func (y0n "_law_whole" "_law_whole" (z0f z5g) (z0c z5g) (z05 z5g) .none kV23 dc23 pm23 an23 cd23 ct23),sl23⟩) (c23:y0j K cd23 "_law_whole"=true) (k23:y0i K (.ref f23)=true)
  (a24:y0o K mainGlobals "_law_is_fraction"=some (some (.ref f24))) (l24:K.lookup f24=some ⟨oc24,od24,.func (y0n "_law_is_fraction" "_law_is_fraction" (z0f z22) (z0c z22) (z05 z22) .none kV24 dc24 pm24 an24 cd24 ct24),sl24⟩) (c24:y0j K cd24 "_law_is_fraction"=true) (k24:y0i K (.ref f24)=true)
  (a25:y0o K mainGlobals "_law_shares"=some (some (.ref f25))) (l25:K.lookup f25=some ⟨oc25,od25,.func (y0n "_law_shares" "_law_shares" (z0f z4h) (z0c z4h) (z05 z4h) .none kV25 dc25 pm25 an25 cd25 ct25),sl25⟩) (c25:y0j K cd25 "_law_shares"=true) (k25:y0i K (.ref f25)=true)
  (a26:y0o K mainGlobals "_law_many_chores"=some (some (.ref f26))) (l26:K.lookup f26=some ⟨oc26,od26,.func (y0n "_law_many_chores" "_law_many_chores" (z0f z21) (z0c z21) (z05 z21) .none kV26 dc26 pm26 an26 cd26 ct26),sl26⟩) (c26:y0j K cd26 "_law_many_chores"=true) (k26:y0i K (.ref f26)=true)
  (a27:y0o K mainGlobals "_law_row"=some (some (.ref f27))) (l27:K.lookup f27=some ⟨oc27,od27,.func (y0n "_law_row" "_law_row" (z0f z9c) (z0c z9c) (z05 z9c) .none kV27 dc27 pm27 an27 cd27 ct27),sl27⟩) (c27:y0j K cd27 "_law_row"=true) (k27:y0i K (.ref f27)=true)
  (a28:y0o K mainGlobals "_law_crowd"=some (some (.ref f28))) (l28:K.lookup f28=some ⟨oc28,od28,.func (y0n "_law_crowd" "_law_crowd" (z0f z5i) (z0c z5i) (z05 z5i) .none kV28 dc28 pm28 an28 cd28 ct28),sl28⟩) (c28:y0j K cd28 "_law_crowd"=true) (k28:y0i K (.ref f28)=true)
  (a29:y0o K mainGlobals "layers_by"=some (some (.ref f29))) (l29:K.lookup f29=some ⟨oc29,od29,.func (y0n "layers_by" "layers_by" (z0f z2v) (z0c z2v) (z05 z2v) .none kV29 dc29 pm29 an29 cd29 ct29),sl29⟩) (c29:y0j K cd29 "layers_by"=true) (k29:y0i K (.ref f29)=true)
  (a30:y0o K mainGlobals "loads_by"=some (some (.ref f30))) (l30:K.lookup f30=some ⟨oc30,od30,.func (y0n "loads_by" "loads_by" (z0f z3n) (z0c z3n) (z05 z3n) .none kV30 dc30 pm30 an30 cd30 ct30),sl30⟩) (c30:y0j K cd30 "loads_by"=true) (k30:y0i K (.ref f30)=true)
  (a31:y0o K mainGlobals "law"=some (some (.ref f31))) (l31:K.lookup f31=some ⟨oc31,od31,.func (y0n "law" "law" (z0f zis) (z0c zis) (z05 zis) .none kV31 dc31 pm31 an31 cd31 ct31),sl31⟩) (c31:y0j K cd31 "law"=true) (k31:y0i K (.ref f31)=true)
  (uPour:y0o K mainGlobals "Pour"=some (some (.ref ay))) (p1Pour:y3v K ay Str.empty=true) (p2Pour:y49 K ay=true) (p3Pour:y5b K ay=true) (p4Pour:y11 K (.ref ay) "__setattr__"=some (some (.builtin "object.__setattr__"))) (p5Pour:y4u K ay=true) (p6Pour:y0i K (.ref ay)=true)
  (bF:y11 K (.ref ay) "many_gives"=some none)
  (n_sent:y11 K (.ref ay) "sent"=some none)
  (n_spare:y11 K (.ref ay) "spare"=some none)
  (bW:y11 K (.ref ay) "tie_ends"=some none)
  (cj:y11 K (.ref ay) "ties_at"=some none)
  (a32:y11 K (.ref ay) "__init__"=some (some (.ref f32))) (l32:K.lookup f32=some ⟨oc32,od32,.func (y0n "__init__" "Pour.__init__" (z0f z2w) (z0c z2w) (z05 z2w) .none kV32 dc32 pm32 an32 cd32 ct32),sl32⟩) (c32:y0j K cd32 "Pour.__init__"=true) (k32:y0i K (.ref f32)=true) (i32:y23 K (.ref f32)=true)
  (a33:y11 K (.ref ay) "gives_with_rest"=some (some (.ref f33))) (l33:K.lookup f33=some ⟨oc33,od33,.func (y0n "gives_with_rest" "Pour.gives_with_rest" (z0f z0t) (z0c z0t) (z05 z0t) .none kV33 dc33 pm33 an33 cd33 ct33),sl33⟩) (c33:y0j K cd33 "Pour.gives_with_rest"=true) (k33:y0i K (.ref f33)=true) (i33:y23 K (.ref f33)=true)
  (a34:y11 K (.ref ay) "has_room"=some (some (.ref f34))) (l34:K.lookup f34=some ⟨oc34,od34,.func (y0n "has_room" "Pour.has_room" (z0f z1q) (z0c z1q) (z05 z1q) .none kV34 dc34 pm34 an34 cd34 ct34),sl34⟩) (c34:y0j K cd34 "Pour.has_room"=true) (k34:y0i K (.ref f34)=true) (i34:y23 K (.ref f34)=true)
  (a35:y11 K (.ref ay) "far_end"=some (some (.ref f35))) (l35:K.lookup f35=some ⟨oc35,od35,.func (y0n "far_end" "Pour.far_end" (z0f z23) (z0c z23) (z05 z23) .none kV35 dc35 pm35 an35 cd35 ct35),sl35⟩) (c35:y0j K cd35 "Pour.far_end"=true) (k35:y0i K (.ref f35)=true) (i35:y23 K (.ref f35)=true)
  (a36:y11 K (.ref ay) "may_go"=some (some (.ref f36))) (l36:K.lookup f36=some ⟨oc36,od36,.func (y0n "may_go" "Pour.may_go" (z0f z29) (z0c z29) (z05 z29) .none kV36 dc36 pm36 an36 cd36 ct36),sl36⟩) (c36:y0j K cd36 "Pour.may_go"=true) (k36:y0i K (.ref f36)=true) (i36:y23 K (.ref f36)=true)
  (a37:y11 K (.ref ay) "row_behind"=some (some (.ref f37))) (l37:K.lookup f37=some ⟨oc37,od37,.func (y0n "row_behind" "Pour.row_behind" (z0f z1f) (z0c z1f) (z05 z1f) .none kV37 dc37 pm37 an37 cd37 ct37),sl37⟩) (c37:y0j K cd37 "Pour.row_behind"=true) (k37:y0i K (.ref f37)=true) (i37:y23 K (.ref f37)=true)
  (a38:y11 K (.ref ay) "steps_to_room"=some (some (.ref f38))) (l38:K.lookup f38=some ⟨oc38,od38,.func (y0n "steps_to_room" "Pour.steps_to_room" (z0f z0x) (z0c z0x) (z05 z0x) .none kV38 dc38 pm38 an38 cd38 ct38),sl38⟩) (c38:y0j K cd38 "Pour.steps_to_room"=true) (k38:y0i K (.ref f38)=true) (i38:y23 K (.ref f38)=true)
  (a39:y11 K (.ref ay) "leads_on"=some (some (.ref f39))) (l39:K.lookup f39=some ⟨oc39,od39,.func (y0n "leads_on" "Pour.leads_on" (z0f z1s) (z0c z1s) (z05 z1s) .none kV39 dc39 pm39 an39 cd39 ct39),sl39⟩) (c39:y0j K cd39 "Pour.leads_on"=true) (k39:y0i K (.ref f39)=true) (i39:y23 K (.ref f39)=true)
  (a40:y11 K (.ref ay) "skip_dead_ties"=some (some (.ref f40))) (l40:K.lookup f40=some ⟨oc40,od40,.func (y0n "skip_dead_ties" "Pour.skip_dead_ties" (z0f z0v) (z0c z0v) (z05 z0v) .none kV40 dc40 pm40 an40 cd40 ct40),sl40⟩) (c40:y0j K cd40 "Pour.skip_dead_ties"=true) (k40:y0i K (.ref f40)=true) (i40:y23 K (.ref f40)=true)
  (a41:y11 K (.ref ay) "way_from"=some (some (.ref f41))) (l41:K.lookup f41=some ⟨oc41,od41,.func (y0n "way_from" "Pour.way_from" (z0f z1t) (z0c z1t) (z05 z1t) .none kV41 dc41 pm41 an41 cd41 ct41),sl41⟩) (c41:y0j K cd41 "Pour.way_from"=true) (k41:y0i K (.ref f41)=true) (i41:y23 K (.ref f41)=true)
  (a42:y11 K (.ref ay) "send_along"=some (some (.ref f42))) (l42:K.lookup f42=some ⟨oc42,od42,.func (y0n "send_along" "Pour.send_along" (z0f z1e) (z0c z1e) (z05 z1e) .none kV42 dc42 pm42 an42 cd42 ct42),sl42⟩) (c42:y0j K cd42 "Pour.send_along"=true) (k42:y0i K (.ref f42)=true) (i42:y23 K (.ref f42)=true)
  (a43:y11 K (.ref ay) "send_by_steps"=some (some (.ref f43))) (l43:K.lookup f43=some ⟨oc43,od43,.func (y0n "send_by_steps" "Pour.send_by_steps" (z0f z0y) (z0c z0y) (z05 z0y) .none kV43 dc43 pm43 an43 cd43 ct43),sl43⟩) (c43:y0j K cd43 "Pour.send_by_steps"=true) (k43:y0i K (.ref f43)=true) (i43:y23 K (.ref f43)=true)
  (a44:y11 K (.ref ay) "fill"=some (some (.ref f44))) (l44:K.lookup f44=some ⟨oc44,od44,.func (y0n "fill" "Pour.fill" (z0f z2u) (z0c z2u) (z05 z2u) .none kV44 dc44 pm44 an44 cd44 ct44),sl44⟩) (c44:y0j K cd44 "Pour.fill"=true) (k44:y0i K (.ref f44)=true) (i44:y23 K (.ref f44)=true)
  (z1:y0o K mainGlobals "abs"=some none) (z2:y0o K mainGlobals "any"=some none) (z3:y0o K mainGlobals "bool"=some none) (z4:y0o K mainGlobals "dict"=some none) (z5:y0o K mainGlobals "enumerate"=some none) (z6:y0o K mainGlobals "int"=some none) (z7:y0o K mainGlobals "isinstance"=some none) (z8:y0o K mainGlobals "len"=some none) (z9:y0o K mainGlobals "list"=some none) (z10:y0o K mainGlobals "max"=some none) (z11:y0o K mainGlobals "min"=some none) (z12:y0o K mainGlobals "range"=some none) (z13:y0o K mainGlobals "reversed"=some none) (z14:y0o K mainGlobals "sorted"=some none) (z15:y0o K mainGlobals "str"=some none) (z16:y0o K mainGlobals "sum"=some none) (z17:y0o K mainGlobals "tuple"=some none) (z18:y0o K mainGlobals "zip"=some none) (zS:y0o K mainGlobals "set"=some none) :
  ∃fd:FuncData,(∀(s:Shared) (v:Value),BindsTo s fd ⟨[v],[]⟩ [("_law_script",v)])/\∀base:Heap,K.In base->base.Ns mainGlobals mg->FnOk l.prog w K mg base CX0 13 fa fd ["_law_script"] (zf3 K):=by
 have T_Lmixed:=z1g (st:=z58) (ps:=["_law_cell","_law_k"]) X G a1 l1 c1 k1 λ_ _ _ _ _ _ us hl=>by obtain⟨_,_,rfl⟩:=ln2 hl;rfl
 have T_Lcell_at:=z1g (st:=z3k) (ps:=["_law_script","_law_k"]) X G a2 l2 c2 k2 λ_ _ _ _ _ _ us hl=>by obtain⟨_,_,rfl⟩:=ln2 hl;rfl
 have T_Lwork:=z1g (st:=z77) (ps:=["_law_cell"]) X G a3 l3 c3 k3 λ_ _ _ _ _ _ us hl=>by obtain⟨_,rfl⟩:=ln1 hl;rfl
 have T_pour_more:=z1g (st:=z32) (ps:=["gives","takes","ties","sent"]) X G a4 l4 c4 k4 λ_ _ _ _ _ _ us hl=>by obtain⟨_,_,_,_,rfl⟩:=ln4 hl;rfl
 have T_pour_all:=z1g (st:=z3o) (ps:=["gives","takes","ties"]) X G a5 l5 c5 k5 λ_ _ _ _ _ _ us hl=>by obtain⟨_,_,_,rfl⟩:=ln3 hl;rfl
 have T_ties_in:=z1g (st:=z4m) (ps:=["doers","crowd"]) X G a6 l6 c6 k6 λ_ _ _ _ _ _ us hl=>by obtain⟨_,_,rfl⟩:=ln2 hl;rfl
 have T_work_in:=z1g (st:=z4l) (ps:=["works","crowd"]) X G a7 l7 c7 k7 λ_ _ _ _ _ _ us hl=>by obtain⟨_,_,rfl⟩:=ln2 hl;rfl
 have T_pour_in:=z1g (st:=z4g) (ps:=["works","doers","crowd"]) X G a8 l8 c8 k8 λ_ _ _ _ _ _ us hl=>by obtain⟨_,_,_,rfl⟩:=ln3 hl;rfl
 have T_chosen:=z1g (st:=z5a) (ps:=["things","marks","wanted"]) X G a9 l9 c9 k9 λ_ _ _ _ _ _ us hl=>by obtain⟨_,_,_,rfl⟩:=ln3 hl;rfl
 have T_crowds_by:=z1g (st:=z30) (ps:=["works","doers","many"]) X G a10 l10 c10 k10 λ_ _ _ _ _ _ us hl=>by obtain⟨_,_,_,rfl⟩:=ln3 hl;rfl
 have T_is_whole:=z1g (st:=z3m) (ps:=["thing"]) X G a11 l11 c11 k11 λ_ _ _ _ _ _ us hl=>by obtain⟨_,rfl⟩:=ln1 hl;rfl
 have T_divisor_of:=z1g (st:=z2g) (ps:=["one","other"]) X G a12 l12 c12 k12 λ_ _ _ _ _ _ us hl=>by obtain⟨_,_,rfl⟩:=ln2 hl;rfl
 have T_part_of:=z1g (st:=z4k) (ps:=["top","bottom"]) X G a13 l13 c13 k13 λ_ _ _ _ _ _ us hl=>by obtain⟨_,_,rfl⟩:=ln2 hl;rfl
 have T_shares_in:=z1g (st:=z2x) (ps:=["works","doers","crowd"]) X G a14 l14 c14 k14 λ_ _ _ _ _ _ us hl=>by obtain⟨_,_,_,rfl⟩:=ln3 hl;rfl
 have T_rows_from:=z1g (st:=z34) (ps:=["doers","crowds","sents","nothing"]) X G a15 l15 c15 k15 λ_ _ _ _ _ _ us hl=>by obtain⟨_,_,_,_,rfl⟩:=ln4 hl;rfl
 have T_deal_evenly:=z1g (st:=z2a) (ps:=["works","doers","many"]) X G a16 l16 c16 k16 λ_ _ _ _ _ _ us hl=>by obtain⟨_,_,_,rfl⟩:=ln3 hl;rfl
 have T_Lbelow:=z1g (st:=z5e) (ps:=["_law_one","_law_other"]) X G a17 l17 c17 k17 λ_ _ _ _ _ _ us hl=>by obtain⟨_,_,rfl⟩:=ln2 hl;rfl
 have T_Leven:=z1g (st:=z7a) (ps:=["_law_shares_here","_law_doers","_law_loads"]) X G a18 l18 c18 k18 λ_ _ _ _ _ _ us hl=>by obtain⟨_,_,_,rfl⟩:=ln3 hl;rfl
 have T_Ldivisor:=z1g (st:=z3p) (ps:=["_law_one","_law_other"]) X G a19 l19 c19 k19 λ_ _ _ _ _ _ us hl=>by obtain⟨_,_,rfl⟩:=ln2 hl;rfl
 have T_Llowest:=z1g (st:=z4b) (ps:=["_law_top","_law_bottom"]) X G a20 l20 c20 k20 λ_ _ _ _ _ _ us hl=>by obtain⟨_,_,rfl⟩:=ln2 hl;rfl
 have T_Lplus:=z1g (st:=z6r) (ps:=["_law_one","_law_other"]) X G a21 l21 c21 k21 λ_ _ _ _ _ _ us hl=>by obtain⟨_,_,rfl⟩:=ln2 hl;rfl
 have T_Lbear:=z1g (st:=z6x) (ps:=["_law_doers","_law_many","_law_shares_here"]) X G a22 l22 c22 k22 λ_ _ _ _ _ _ us hl=>by obtain⟨_,_,_,rfl⟩:=ln3 hl;rfl
 have T_Lwhole:=z1g (st:=z5g) (ps:=["_law_found"]) X G a23 l23 c23 k23 λ_ _ _ _ _ _ us hl=>by obtain⟨_,rfl⟩:=ln1 hl;rfl
 have T_Lis_fraction:=z1g (st:=z22) (ps:=["_law_found"]) X G a24 l24 c24 k24 λ_ _ _ _ _ _ us hl=>by obtain⟨_,rfl⟩:=ln1 hl;rfl
 have T_Lshares:=z1g (st:=z4h) (ps:=["_law_shares_here","_law_works","_law_doers"]) X G a25 l25 c25 k25 λ_ _ _ _ _ _ us hl=>by obtain⟨_,_,_,rfl⟩:=ln3 hl;rfl
 have T_Lmany_chores:=z1g (st:=z21) (ps:=["_law_script"]) X G a26 l26 c26 k26 λ_ _ _ _ _ _ us hl=>by obtain⟨_,rfl⟩:=ln1 hl;rfl
 have T_Lrow:=z1g (st:=z9c) (ps:=["_law_cell","_law_many","_law_thin"]) X G a27 l27 c27 k27 λ_ _ _ _ _ _ us hl=>by obtain⟨_,_,_,rfl⟩:=ln3 hl;rfl
 have T_Lcrowd:=z1g (st:=z5i) (ps:=["_law_script"]) X G a28 l28 c28 k28 λ_ _ _ _ _ _ us hl=>by obtain⟨_,rfl⟩:=ln1 hl;rfl
 have T_layers_by:=z1g (st:=z2v) (ps:=["works","doers","many"]) X G a29 l29 c29 k29 λ_ _ _ _ _ _ us hl=>by obtain⟨_,_,_,rfl⟩:=ln3 hl;rfl
 have T_loads_by:=z1g (st:=z3n) (ps:=["works","doers","many"]) X G a30 l30 c30 k30 λ_ _ _ _ _ _ us hl=>by obtain⟨_,_,_,rfl⟩:=ln3 hl;rfl
 have clPour:Cls K ay:=⟨p1Pour,p2Pour,p3Pour,p4Pour⟩;have F:FldsPour K ay:=⟨⟨clPour,bF⟩,⟨clPour,n_sent⟩,⟨clPour,n_spare⟩,⟨clPour,bW⟩,⟨clPour,cj⟩⟩
 have T_Pour_init:MTop K ay "__init__" "Pour.__init__" z2w ["self","gives","takes","ties","sent"]:=⟨⟨f32,_,z1n l32 c32 k32,(z1n l32 c32 k32).binds λ_ _ _ _ _ _ us hl=>(by obtain⟨_,_,_,_,_,rfl⟩:=ln5 hl;rfl),⟨a32,i32,k32⟩⟩,clPour⟩
 have T_Pour_gives_with_rest:MTop K ay "gives_with_rest" "Pour.gives_with_rest" z0t ["self"]:=⟨⟨f33,_,z1n l33 c33 k33,(z1n l33 c33 k33).binds λ_ _ _ _ _ _ us hl=>(by obtain⟨_,rfl⟩:=ln1 hl;rfl),⟨a33,i33,k33⟩⟩,clPour⟩
 have T_Pour_has_room:MTop K ay "has_room" "Pour.has_room" z1q ["self","ends"]:=⟨⟨f34,_,z1n l34 c34 k34,(z1n l34 c34 k34).binds λ_ _ _ _ _ _ us hl=>(by obtain⟨_,_,rfl⟩:=ln2 hl;rfl),⟨a34,i34,k34⟩⟩,clPour⟩
 have T_Pour_far_end:MTop K ay "far_end" "Pour.far_end" z23 ["self","end","tie"]:=⟨⟨f35,_,z1n l35 c35 k35,(z1n l35 c35 k35).binds λ_ _ _ _ _ _ us hl=>(by obtain⟨_,_,_,rfl⟩:=ln3 hl;rfl),⟨a35,i35,k35⟩⟩,clPour⟩
 have T_Pour_may_go:MTop K ay "may_go" "Pour.may_go" z29 ["self","end","tie"]:=⟨⟨f36,_,z1n l36 c36 k36,(z1n l36 c36 k36).binds λ_ _ _ _ _ _ us hl=>(by obtain⟨_,_,_,rfl⟩:=ln3 hl;rfl),⟨a36,i36,k36⟩⟩,clPour⟩
 have T_Pour_row_behind:MTop K ay "row_behind" "Pour.row_behind" z1f ["self","row","steps"]:=⟨⟨f37,_,z1n l37 c37 k37,(z1n l37 c37 k37).binds λ_ _ _ _ _ _ us hl=>(by obtain⟨_,_,_,rfl⟩:=ln3 hl;rfl),⟨a37,i37,k37⟩⟩,clPour⟩
 have T_Pour_steps_to_room:MTop K ay "steps_to_room" "Pour.steps_to_room" z0x ["self"]:=⟨⟨f38,_,z1n l38 c38 k38,(z1n l38 c38 k38).binds λ_ _ _ _ _ _ us hl=>(by obtain⟨_,rfl⟩:=ln1 hl;rfl),⟨a38,i38,k38⟩⟩,clPour⟩
 have T_Pour_leads_on:MTop K ay "leads_on" "Pour.leads_on" z1s ["self","end","tie","steps"]:=⟨⟨f39,_,z1n l39 c39 k39,(z1n l39 c39 k39).binds λ_ _ _ _ _ _ us hl=>(by obtain⟨_,_,_,_,rfl⟩:=ln4 hl;rfl),⟨a39,i39,k39⟩⟩,clPour⟩
 have T_Pour_skip_dead_ties:MTop K ay "skip_dead_ties" "Pour.skip_dead_ties" z0v ["self","end","steps","tried"]:=⟨⟨f40,_,z1n l40 c40 k40,(z1n l40 c40 k40).binds λ_ _ _ _ _ _ us hl=>(by obtain⟨_,_,_,_,rfl⟩:=ln4 hl;rfl),⟨a40,i40,k40⟩⟩,clPour⟩
 have T_Pour_way_from:MTop K ay "way_from" "Pour.way_from" z1t ["self","give","steps","tried"]:=⟨⟨f41,_,z1n l41 c41 k41,(z1n l41 c41 k41).binds λ_ _ _ _ _ _ us hl=>(by obtain⟨_,_,_,_,rfl⟩:=ln4 hl;rfl),⟨a41,i41,k41⟩⟩,clPour⟩
 have T_Pour_send_along:MTop K ay "send_along" "Pour.send_along" z1e ["self","give","way"]:=⟨⟨f42,_,z1n l42 c42 k42,(z1n l42 c42 k42).binds λ_ _ _ _ _ _ us hl=>(by obtain⟨_,_,_,rfl⟩:=ln3 hl;rfl),⟨a42,i42,k42⟩⟩,clPour⟩
 have T_Pour_send_by_steps:MTop K ay "send_by_steps" "Pour.send_by_steps" z0y ["self","steps"]:=⟨⟨f43,_,z1n l43 c43 k43,(z1n l43 c43 k43).binds λ_ _ _ _ _ _ us hl=>(by obtain⟨_,_,rfl⟩:=ln2 hl;rfl),⟨a43,i43,k43⟩⟩,clPour⟩
 have T_Pour_fill:MTop K ay "fill" "Pour.fill" z2u ["self"]:=⟨⟨f44,_,z1n l44 c44 k44,(z1n l44 c44 k44).binds λ_ _ _ _ _ _ us hl=>(by obtain⟨_,rfl⟩:=ln1 hl;rfl),⟨a44,i44,k44⟩⟩,clPour⟩
 have B:Blt mg:=⟨y16 X G z1,y16 X G z2,y16 X G z3,y16 X G z4,y16 X G z5,y16 X G z6,y16 X G z7,y16 X G z8,y16 X G z9,y16 X G z10,y16 X G z11,y16 X G z12,y16 X G z13,y16 X G z14,y16 X G z15,y16 X G z16,y16 X G z17,y16 X G z18⟩;have BS:=y16 X G zS
 refine zot X G hfa a31 l31 c31 k31 (λs v=>.of_eq rfl) λf fd U base=>?_;have aL:=zia (P:=l.prog) (w:=w) (base:=base) T_Lmixed B BS;have bj:=zci (P:=l.prog) (w:=w) (base:=base) T_Lcell_at B BS
 have bT:=zkp (P:=l.prog) (w:=w) (base:=base) T_Lwork B BS aL;have bn:=zau (P:=l.prog) (w:=w) (base:=base) (mg:=mg) T_Pour_init B BS F
 have bn:CDef l.prog w K mg base "Pour" ay 1 ["self","gives","takes","ties","sent"] (zh7 K ay):=znj bn p5Pour p6Pour (y6g X G uPour);have aI:=z4n (P:=l.prog) (w:=w) (base:=base) (mg:=mg) T_Pour_gives_with_rest B BS F
 have aJ:=z7o (P:=l.prog) (w:=w) (base:=base) (mg:=mg) T_Pour_has_room B BS F;have aK:=z8a (P:=l.prog) (w:=w) (base:=base) (mg:=mg) T_Pour_far_end B BS F
 have aV:=z98 (P:=l.prog) (w:=w) (base:=base) (mg:=mg) T_Pour_may_go B BS F;have be:=z6h (P:=l.prog) (w:=w) (base:=base) (mg:=mg) T_Pour_row_behind B BS F aK aV
 have aQ:=z50 (P:=l.prog) (w:=w) (base:=base) (mg:=mg) T_Pour_steps_to_room B BS F aI aJ be;have bp:=z7n (P:=l.prog) (w:=w) (base:=base) (mg:=mg) T_Pour_leads_on B BS aV aK
 have aW:=z4w (P:=l.prog) (w:=w) (base:=base) (mg:=mg) T_Pour_skip_dead_ties B BS F bp;have aY:=z7m (P:=l.prog) (w:=w) (base:=base) (mg:=mg) T_Pour_way_from B BS F aJ aW aK
 have bf:=z65 (P:=l.prog) (w:=w) (base:=base) (mg:=mg) T_Pour_send_along B BS F;have aX:=z4y (P:=l.prog) (w:=w) (base:=base) (mg:=mg) T_Pour_send_by_steps B BS F aI aY bf
 have bO:=zbc (P:=l.prog) (w:=w) (base:=base) (mg:=mg) T_Pour_fill B BS aQ aJ aX;have bQ:=zb0 (P:=l.prog) (w:=w) (base:=base) T_pour_more B BS F bn bO
 have bV:=zch (P:=l.prog) (w:=w) (base:=base) T_pour_all B BS bQ;have bu:=zff (P:=l.prog) (w:=w) (base:=base) T_ties_in B BS
 have bx:=zf0 (P:=l.prog) (w:=w) (base:=base) T_work_in B BS;have bz:=zer (P:=l.prog) (w:=w) (base:=base) T_pour_in B BS bV bu bx
 have b6:=zgj (P:=l.prog) (w:=w) (base:=base) T_chosen B BS;have aZ:=zca (P:=l.prog) (w:=w) (base:=base) T_crowds_by B BS bz b6
 have bH:=zdf (P:=l.prog) (w:=w) (base:=base) T_is_whole B BS;have bG:=zad (P:=l.prog) (w:=w) (base:=base) T_divisor_of B BS
 have bq:=zfi (P:=l.prog) (w:=w) (base:=base) T_part_of B BS bH bG;have bN:=zar (P:=l.prog) (w:=w) (base:=base) T_shares_in B BS bz bq
 have bP:=zbm (P:=l.prog) (w:=w) (base:=base) T_rows_from B BS bu;have aM:=z99 (P:=l.prog) (w:=w) (base:=base) T_deal_evenly B BS aZ bN bP
 have cx:=zh4 (P:=l.prog) (w:=w) (base:=base) T_Lbelow B BS;have bU:=zjv (P:=l.prog) (w:=w) (base:=base) T_Leven B BS cx
 have bh:=zd3 (P:=l.prog) (w:=w) (base:=base) T_Ldivisor B BS;have cf:=zfe (P:=l.prog) (w:=w) (base:=base) T_Llowest B BS bh
 have bR:=ziy (P:=l.prog) (w:=w) (base:=base) T_Lplus B BS cf;have bS:=zjp (P:=l.prog) (w:=w) (base:=base) T_Lbear B BS bR
 have b8:=zit (P:=l.prog) (w:=w) (base:=base) T_Lwhole B BS;have bC:=z87 (P:=l.prog) (w:=w) (base:=base) T_Lis_fraction B BS b8 bh
 have br:=zfc (P:=l.prog) (w:=w) (base:=base) T_Lshares B BS bC bR;have bB:=z83 (P:=l.prog) (w:=w) (base:=base) T_Lmany_chores B BS aL bT aM bU bS br
 have D_Lrow:=zmn (P:=l.prog) (w:=w) (base:=base) T_Lrow B BS aL;have cw:=zhl (P:=l.prog) (w:=w) (base:=base) T_Lcrowd B BS aL bj D_Lrow bT
 have bL:=zbu (P:=l.prog) (w:=w) (base:=base) T_layers_by B BS aZ bq bx;have bZ:=zce (P:=l.prog) (w:=w) (base:=base) T_loads_by B BS bL
 exact zoz U B BS aL bj bB cw aM br bS bZ bU
end My
namespace PySem.W.Fast
def tw6562090580686103097:=0
def tw16243149949516376891:=0
def tw17015413441107151252:=0
def tw9489609769406329588:=0
def tw16952143383619203476:=0
def tw4758838010015272637:=0
def tw2286819681629555566:=0
def tw9415154420079739901:=0
def tw16590277479957149736:=0
def tw15045926768676253545:=0
def tw7108853986053066891:=0
def tw7115218240596019922:=0
def tw13797641127676403683:=0
def tw10880763699246660388:=0
def tw15719949707323371883:=0
def tw8842328396468369484:=0
def tw13425705608899269264:=0
def tw9305949489468126611:=0
def tw3724813054101713724:=0
def tw12860176809100493087:=0
def tw982476689836819476:=0
def tw13244273058165606165:=0
def tw8420936290890693093:=0
def tw14000414629850167087:=0
def tw2968173785859927599:=0
def tw7645702325359745541:=0
def tw6007212673782483529:=0
def tw14806715710368284100:=0
def tw7412585768226798771:=0
def tw4923856545821905390:=0
def tw6575354293533535918:=0
def tw13132463732935960239:=0
def tw8265816434189310264:=0
def tw2371450634245524331:=0
def tw9532744266004685439:=0
def tw3970951074614128565:=0
def tw1349684700954551293:=0
def tw8994948473961057956:=0
def tw18102374217785990864:=0
def tw14168753214677985443:=0
def tw18280976552018830331:=0
def tw13283507717219115250:=0
def tw7591346974776515002:=0
def tw887091458450388876:=0
def tw12793335623860658971:=0
def tw17753006754460825332:=0
def tw7182675310448514367:=0
def tw520788272261077889:=0
def tw16811698890355594694:=0
def tw5876641741207958677:=0
def tw16609225099579224081:=0
def tw4036479794920423805:=0
def tw14123040025304506449:=0
def tw11786688511957252711:=0
def tw7552426239344567964:=0
def tw15593988769767043409:=0
def tw9218936971363154217:=0
def tw18405214587139196570:=0
def tw18269424026347976838:=0
def tw15707869777580311375:=0
def tw5333541437259094267:=0
def tw4285321679543510172:=0
def tw13144701685285329158:=0
def tw15544209153787485787:=0
def tw9081565310101697680:=0
def tw15426067721482637396:=0
def tw3428584719494847579:=0
def tw8285295452313874358:=0
def tw5324625494050285328:=0
def tw6054712429820552845:=0
def tw3823312499091738771:=0
def tw9118899037485660855:=0
def tw1080375008126691108:=0
def tw6270189306288292833:=0
def tw3357864516845425609:=0
def tw12802752969100527941:=0
def tw12492378688741402032:=0
def tw7122669384673000845:=0
def tw11755789770575040881:=0
def tw6434615281264743415:=0
def tw3859678820596955483:=0
def tw7144500997557260648:=0
def tw2463427499688807228:=0
def tw10126746153194641487:=0
def tw8903526246708744510:=0
def tw9228300653318586090:=0
def tw1893731629847303506:=0
def tw16551633465771353984:=0
def tw13361442148929196872:=0
def tw13640336980730407442:=0
def tw11659250895674709936:=0
def tw11475336045621892080:=0
def tw7645105506574317193:=0
def tw12882000324084642287:=0
def tw16379760330798051518:=0
def tw2817641870798992873:=0
def tw6323012590259456870:=0
def tw3850801260523120239:=0
def tw10784749898862404742:=0
def tw6803371504503206544:=0
def tw15052348126701361161:=0
def tw1096745616105163501:=0
def tw4350881670335676560:=0
def tw12349114471238569732:=0
def tw13626075022149736336:=0
def tw17570039897421851640:=0
def tw3039677939635471793:=0
def tw4828219063376966677:=0
def tw688699712481469219:=0
def tw10565348400262415437:=0
def tw3238784413339597196:=0
def tw4908773954915828243:=0
def tw4307018452015139085:=0
def tw10619313901014787958:=0
def tw13687457088048561758:=0
def tw12013613843577905171:=0
def tw12806979917180756860:=0
def tw8283999800164963394:=0
def tw4897305945302628641:=0
def tw8155064842653483866:=0
def tw2881161382225901711:=0
def tw4961358513462018546:=0
def tw3681350618451663411:=0
def tw4417445453843922353:=0
def tw10105525436254500608:=0
def tw963752784717559509:=0
def tw3561411136671299446:=0
def tw760300029191757490:=0
def tw20577173664238356:=0
def tw2471992918702996366:=0
def tw1050388554069812335:=0
def tw11212002743266401567:=0
def tw11907366072317151447:=0
def tw3925390271264108875:=0
def tw17020373897177424740:=0
def tw12978978228312773383:=0
def tw11342623360452623884:=0
def tw7778776782888271717:=0
def tw6983880518542429863:=0
def tw12901042068771236098:=0
def tw5930404042901480315:=0
def tw17820474281791938044:=0
def tw13408203368871324144:=0
def tw9885956421471459149:=0
def tw11232302871835064426:=0
def tw7887445535425481905:=0
def tw7012637696613379574:=0
def tw13820057153223069524:=0
def tw5030662502154717696:=0
def tw7360352785383214010:=0
def tw14258948254659665733:=0
def tw11391894772437960857:=0
def tw16278996020128039886:=0
def tw187069197126599674:=0
def tw1226742311433500422:=0
def tw10826423235573555704:=0
def tw11209457053321080638:=0
def tw16662612104508024015:=0
def tw3702610703618850134:=0
def tw14649377103058655725:=0
def tw5301854177840019076:=0
def tw11921188243058053456:=0
def tw10748283276473444326:=0
def tw12986340440792183794:=0
def tw13527686150559189124:=0
def tw17374694566807461086:=0
def tw15031017469051484235:=0
def tw7086099267973163015:=0
def tw14183666808712484588:=0
def tw6843102110116851771:=0
def tw13812655265570188472:=0
def tw11394803882238864975:=0
def tw6399188380343585184:=0
def tw5651728060060073348:=0
def tw13079215937831782933:=0
def tw17942414569556697828:=0
def tw6004803081125112194:=0
def tw11192328446751047394:=0
def tw14005711085172767916:=0
def tw15046633930377803114:=0
def tw9847985536217311656:=0
def tw8543520533231761235:=0
def tw13753629635846740269:=0
def tw16336529240096363937:=0
def tw9467097079327141031:=0
def tw12137672351309700140:=0
def tw10076145460867603947:=0
def tw10099473994355809776:=0
def tw3290311452903705165:=0
def tw7211444363448305642:=0
def tw18133434491541082529:=0
def tw17899106097003822060:=0
def tw2030209885046974300:=0
def tw16044785121675110656:=0
def tw9416951906572299050:=0
def tw5696902858132345053:=0
def tw9846957781772777374:=0
def tw18058543386375353874:=0
def tw13106564852087550802:=0
def tw1493771491261911481:=0
def tw18282842177592020725:=0
def tw10030216339304800426:=0
def tw4029567182084244677:=0
def tw10604706125188186980:=0
def tw15289337958719639396:=0
def tw1127356673774230742:=0
def tw17420113905795019337:=0
def tw9283662694974047868:=0
def tw12105909924312955861:=0
def tw3376990590996839946:=0
def tw9148779258897048285:=0
def tw5263813615913663771:=0
def tw18064253670057820135:=0
def tw6698981015085062162:=0
def tw2692800827766750278:=0
def tw12394132558748290653:=0
def tw12182400330396596652:=0
def tw4626973546491855119:=0
def tw17650181946720456774:=0
def tw6020243646613685977:=0
def tw20453874820156298:=0
def tw6477086946024202454:=0
def tw8155851470521935705:=0
def tw17977748711364848262:=0
def tw1690713288390550568:=0
def tw13714553928393626286:=0
def tw14928567512431003229:=0
def tw4869707435418102991:=0
def tw5172266695043966920:=0
end PySem.W.Fast
open PySem PySem.W PyProof.Rows
set_option maxRecDepth 100000 in
set_option maxHeartbeats 0 in
theorem PySem.Challenge.cw_evenyoke_k31_dealt_evenly_holds : PySem.Challenge.rw_evenyoke_k31_dealt_evenly.Holds := by
 w_on; o_law; k_head; (case hw=>w_witness2)
 k_fill
 refine L2.EX.walk (l:=PySem.Challenge.rw_evenyoke_k31_dealt_evenly) 13 rfl rfl ⟨rfl,by decide,by decide⟩ (fun w h Y=>PySem.W.kIn_of Y) ?F
 case F =>
  intro w mg fa h KX G hmg
  refine' My.all_mk KX G hmg ?a1 ?l1 ?c1 ?k1 ?a2 ?l2 ?c2 ?k2 ?a3 ?l3 ?c3 ?k3 ?a4 ?l4 ?c4 ?k4 ?a5 ?l5 ?c5 ?k5 ?a6 ?l6 ?c6 ?k6 ?a7 ?l7 ?c7 ?k7 ?a8 ?l8 ?c8 ?k8 ?a9 ?l9 ?c9 ?k9 ?a10 ?l10 ?c10 ?k10 ?a11 ?l11 ?c11 ?k11 ?a12 ?l12 ?c12 ?k12 ?a13 ?l13 ?c13 ?k13 ?a14 ?l14 ?c14 ?k14 ?a15 ?l15 ?c15 ?k15 ?a16 ?l16 ?c16 ?k16 ?a17 ?l17 ?c17 ?k17 ?a18 ?l18 ?c18 ?k18 ?a19 ?l19 ?c19 ?k19 ?a20 ?l20 ?c20 ?k20 ?a21 ?l21 ?c21 ?k21 ?a22 ?l22 ?c22 ?k22 ?a23 ?l23 ?c23 ?k23 ?a24 ?l24 ?c24 ?k24 ?a25 ?l25 ?c25 ?k25 ?a26 ?l26 ?c26 ?k26 ?a27 ?l27 ?c27 ?k27 ?a28 ?l28 ?c28 ?k28 ?a29 ?l29 ?c29 ?k29 ?a30 ?l30 ?c30 ?k30 ?a31 ?l31 ?c31 ?k31 ?uPour ?p1Pour ?p2Pour ?p3Pour ?p4Pour ?p5Pour ?p6Pour ?n_many_gives ?n_sent ?n_spare ?n_tie_ends ?n_ties_at ?a32 ?l32 ?c32 ?k32 ?i32 ?a33 ?l33 ?c33 ?k33 ?i33 ?a34 ?l34 ?c34 ?k34 ?i34 ?a35 ?l35 ?c35 ?k35 ?i35 ?a36 ?l36 ?c36 ?k36 ?i36 ?a37 ?l37 ?c37 ?k37 ?i37 ?a38 ?l38 ?c38 ?k38 ?i38 ?a39 ?l39 ?c39 ?k39 ?i39 ?a40 ?l40 ?c40 ?k40 ?i40 ?a41 ?l41 ?c41 ?k41 ?i41 ?a42 ?l42 ?c42 ?k42 ?i42 ?a43 ?l43 ?c43 ?k43 ?i43 ?a44 ?l44 ?c44 ?k44 ?i44 ?z1 ?z2 ?z3 ?z4 ?z5 ?z6 ?z7 ?z8 ?z9 ?z10 ?z11 ?z12 ?z13 ?z14 ?z15 ?z16 ?z17 ?z18 ?zS
  (case a1=>k_is)
  (case l1=>k_is)
  (case c1=>k_is)
  (case k1=>k_is)
  (case a2=>k_is)
  (case l2=>k_is)
  (case c2=>k_is)
  (case k2=>k_is)
  (case a3=>k_is)
  (case l3=>k_is)
  (case c3=>k_is)
  (case k3=>k_is)
  (case a4=>k_is)
  (case l4=>k_is)
  (case c4=>k_is)
  (case k4=>k_is)
  (case a5=>k_is)
  (case l5=>k_is)
  (case c5=>k_is)
  (case k5=>k_is)
  (case a6=>k_is)
  (case l6=>k_is)
  (case c6=>k_is)
  (case k6=>k_is)
  (case a7=>k_is)
  (case l7=>k_is)
  (case c7=>k_is)
  (case k7=>k_is)
  (case a8=>k_is)
  (case l8=>k_is)
  (case c8=>k_is)
  (case k8=>k_is)
  (case a9=>k_is)
  (case l9=>k_is)
  (case c9=>k_is)
  (case k9=>k_is)
  (case a10=>k_is)
  (case l10=>k_is)
  (case c10=>k_is)
  (case k10=>k_is)
  (case a11=>k_is)
  (case l11=>k_is)
  (case c11=>k_is)
  (case k11=>k_is)
  (case a12=>k_is)
  (case l12=>k_is)
  (case c12=>k_is)
  (case k12=>k_is)
  (case a13=>k_is)
  (case l13=>k_is)
  (case c13=>k_is)
  (case k13=>k_is)
  (case a14=>k_is)
  (case l14=>k_is)
  (case c14=>k_is)
  (case k14=>k_is)
  (case a15=>k_is)
  (case l15=>k_is)
  (case c15=>k_is)
  (case k15=>k_is)
  (case a16=>k_is)
  (case l16=>k_is)
  (case c16=>k_is)
  (case k16=>k_is)
  (case a17=>k_is)
  (case l17=>k_is)
  (case c17=>k_is)
  (case k17=>k_is)
  (case a18=>k_is)
  (case l18=>k_is)
  (case c18=>k_is)
  (case k18=>k_is)
  (case a19=>k_is)
  (case l19=>k_is)
  (case c19=>k_is)
  (case k19=>k_is)
  (case a20=>k_is)
  (case l20=>k_is)
  (case c20=>k_is)
  (case k20=>k_is)
  (case a21=>k_is)
  (case l21=>k_is)
  (case c21=>k_is)
  (case k21=>k_is)
  (case a22=>k_is)
  (case l22=>k_is)
  (case c22=>k_is)
  (case k22=>k_is)
  (case a23=>k_is)
  (case l23=>k_is)
  (case c23=>k_is)
  (case k23=>k_is)
  (case a24=>k_is)
  (case l24=>k_is)
  (case c24=>k_is)
  (case k24=>k_is)
  (case a25=>k_is)
  (case l25=>k_is)
  (case c25=>k_is)
  (case k25=>k_is)
  (case a26=>k_is)
  (case l26=>k_is)
  (case c26=>k_is)
  (case k26=>k_is)
  (case a27=>k_is)
  (case l27=>k_is)
  (case c27=>k_is)
  (case k27=>k_is)
  (case a28=>k_is)
  (case l28=>k_is)
  (case c28=>k_is)
  (case k28=>k_is)
  (case a29=>k_is)
  (case l29=>k_is)
  (case c29=>k_is)
  (case k29=>k_is)
  (case a30=>k_is)
  (case l30=>k_is)
  (case c30=>k_is)
  (case k30=>k_is)
  (case a31=>k_is)
  (case l31=>k_is)
  (case c31=>k_is)
  (case k31=>k_is)
  (case uPour=>k_is)
  (case p1Pour=>k_is)
  (case p2Pour=>k_is)
  (case p3Pour=>k_is)
  (case p4Pour=>k_is)
  (case p5Pour=>k_is)
  (case p6Pour=>k_is)
  (case n_many_gives=>k_is)
  (case n_sent=>k_is)
  (case n_spare=>k_is)
  (case n_tie_ends=>k_is)
  (case n_ties_at=>k_is)
  (case a32=>k_is)
  (case l32=>k_is)
  (case c32=>k_is)
  (case k32=>k_is)
  (case i32=>k_is)
  (case a33=>k_is)
  (case l33=>k_is)
  (case c33=>k_is)
  (case k33=>k_is)
  (case i33=>k_is)
  (case a34=>k_is)
  (case l34=>k_is)
  (case c34=>k_is)
  (case k34=>k_is)
  (case i34=>k_is)
  (case a35=>k_is)
  (case l35=>k_is)
  (case c35=>k_is)
  (case k35=>k_is)
  (case i35=>k_is)
  (case a36=>k_is)
  (case l36=>k_is)
  (case c36=>k_is)
  (case k36=>k_is)
  (case i36=>k_is)
  (case a37=>k_is)
  (case l37=>k_is)
  (case c37=>k_is)
  (case k37=>k_is)
  (case i37=>k_is)
  (case a38=>k_is)
  (case l38=>k_is)
  (case c38=>k_is)
  (case k38=>k_is)
  (case i38=>k_is)
  (case a39=>k_is)
  (case l39=>k_is)
  (case c39=>k_is)
  (case k39=>k_is)
  (case i39=>k_is)
  (case a40=>k_is)
  (case l40=>k_is)
  (case c40=>k_is)
  (case k40=>k_is)
  (case i40=>k_is)
  (case a41=>k_is)
  (case l41=>k_is)
  (case c41=>k_is)
  (case k41=>k_is)
  (case i41=>k_is)
  (case a42=>k_is)
  (case l42=>k_is)
  (case c42=>k_is)
  (case k42=>k_is)
  (case i42=>k_is)
  (case a43=>k_is)
  (case l43=>k_is)
  (case c43=>k_is)
  (case k43=>k_is)
  (case i43=>k_is)
  (case a44=>k_is)
  (case l44=>k_is)
  (case c44=>k_is)
  (case k44=>k_is)
  (case i44=>k_is)
  (case z1=>k_is)
  (case z2=>k_is)
  (case z3=>k_is)
  (case z4=>k_is)
  (case z5=>k_is)
  (case z6=>k_is)
  (case z7=>k_is)
  (case z8=>k_is)
  (case z9=>k_is)
  (case z10=>k_is)
  (case z11=>k_is)
  (case z12=>k_is)
  (case z13=>k_is)
  (case z14=>k_is)
  (case z15=>k_is)
  (case z16=>k_is)
  (case z17=>k_is)
  (case z18=>k_is)
  (case zS=>k_is)
