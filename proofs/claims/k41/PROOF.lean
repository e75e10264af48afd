import PyProof.Rows.All
import Wide.All
import OpenK.AllK
import Wide.FinOn
import Lean
import PyProof.EqAt
import PyProof.EqKinds
import PyProof.TupleCall
import KE.KRevIter
import PyProof.AutoListH
import KE.KDictOf
import PyProof.AttrMissHeap
import PyProof.ListRange
import PyProof.Rows.SortWalk
import PySem.Challenge.RW_evenyoke_k41_whole_pieces
open And renaming intro→y5j
open Array renaming getElem?_toList→y41,length_toList→y5v
open Bool renaming false_ne_true→y15,and_eq_true→y1d,eq_false_or_eq_true→y1n,eq_iff_iff→y27,false_eq_true→y4j,not_eq_true'→y4x,or_eq_true→y5h,false_and→y5u,eq_false_iff→y6f,true_and→y76
open Int renaming mul_le_mul_of_nonneg_right→y1g,mul_right_comm→y1o,le_refl→y1u,mul_le_mul_of_nonneg_left→y1v,le_of_lt→y25,mul_lt_mul_of_pos_right→y28,emod_nonneg→y29,emod_lt_of_pos→y2a,lt_of_mul_lt_mul_right→y2d,gcd→y2h,mul_nonneg→y2j,lt_or_le→y2k,mul_comm→y2l,eq_of_mul_eq_mul_right→y2w,le_trans→y2x,mul_assoc→y2y,mul_fdiv_cancel_left→y31,zero_add→y33,eq_ofNat_of_zero_le→y34,le_of_eq→y3d,natAbs_dvd_natAbs→y3e,fdiv_eq_ediv_of_nonneg→y3i,lt_of_lt_of_le→y3p,dvd_trans→y3r,mul_one→y3u,toNat_natCast→y3x,natAbs_mul→y3z,toNat→y42,le_of_mul_le_mul_right→y4g,le_of_mul_le_mul_left→y4r,dvd_mul_right→y50,mul_add→y54,neg_mul→y55,mul_pos→y56,add_mul→y58,dvd_mul_left→y5a,add_zero→y5k,one_mul→y5z,natCast_nonneg→y64,mul_left_comm→y6g,ediv_nonneg→y6t,neg_mul_neg→y6v,fdiv_nonneg→y6y
open List renaming getElem?_eq_some_iff→y00,getElem?_eq_getElem→y01,mem_of_getElem?→y02,length_map→y04,replicate→y05,getElem?_map→y06,getD_eq_getElem?_getD→y07,take_of_length_le→y08,getElem?_of_mem→y09,range→y0b,mem_cons_of_mem→y0c,mem_cons_self→y0d,mem_singleton→y0e,length_append→y0f,map_append→y0g,map_cons→y0h,map_congr_left→y0j,size_toArray→y0l,mem_cons→y0m,sum_cons→y0n,getElem?_append_left→y0q,length_pos_iff→y0s,getElem?_set_self→y0t,getElem?_zip_eq_some→y0u,length_take→y0v,getElem?_append_right→y0w,length_replicate→y0x,getElem?_eq_none→y0z,getElem?_set_ne→y11,mem_append→y13,mem_append_right→y14,mem_filter→y17,getLast?_eq_getElem?→y19,length_cons→y1b,not_mem_nil→y1c,mem_range→y1e,getElem?_replicate→y1f,mem_map→y1h,of_mem_zip→y1i,length_eq_zero_iff→y1j,getD→y1k,lookup_cons→y1l,idxOf_lt_length_of_mem→y1m,replicate_succ→y1p,getElem?_range→y1q,any_eq_true→y1r,contains_iff_mem→y1t,getLast?_eq_some_getLast→y1w,sum_append→y20,length_set→y22,pairwise_iff_getElem→y23,map_map→y26,map_set→y2b,exists_cons_of_ne_nil→y2c,getElem?_dropLast→y2e,filterMap_cons→y2f,length_range→y2i,count_pos_iff→y2n,map_replicate→y2o,all_eq_true→y2p,append_nil→y2u,find?_cons→y2v,append_assoc→y2z,ext_getElem?→y30,eq_of_mem_replicate→y32,getElem_mem→y36,filter_cons→y37,mem_flatMap→y38,filter_append→y39,nodup_cons→y3b,map_nil→y3c,length_filter_le→y3f,range_succ→y3g,flatten_cons→y3h,getElem?_eq_none_iff→y3j,foldl_cons→y3m,set_cons_zero→y3n,set_cons_succ→y3o,pairwise_cons→y3q,drop_of_length_le→y3s,pairwise_lt_range→y3t,lookup→y3w,foldl_append→y3y,length_singleton→y40,pairwise_flatMap→y43,length_drop→y44,countP_cons→y46,nodup_range→y47,count_range→y48,mem_append_left→y49,nodup_iff_count→y4a,countP_eq_length_filter→y4b,range'→y4f,mem_filterMap→y4h,getElem?_drop→y4k,zip_cons_cons→y4l,count_flatMap→y4m,getElem_idxOf→y4n,mem_or_eq_of_mem_set→y4q,getElem?_take_of_lt→y4u,take_append_getElem→y4w,filter_congr→y4y,flatMap_cons→y4z,nodup_append→y51,pairwise_singleton→y59,range_succ_eq_map→y5d,forIn_cons→y5i,count_cons→y5l,zip_append→y5o,length_zip→y5p,length_dropLast→y5q,mem_of_mem_take→y5t,length→y5w,filter_eq_self→y5x,perm_iff_count→y5y,flatMap_append→y60,reverse_append→y61,count_eq_zero→y65,filterMap_map→y66,any_cons→y67,getElem?_take→y68,any_eq_false→y69,pairwise_map→y6h,zip_map_left→y6i,cons_append→y6q,filter_nil→y6x,foldl→y70,map_take→y77,map_drop→y78,set→y79
open List.Pairwise renaming imp_of_mem→y52,nil→y6d
open Nat renaming le_refl→y0a,lt_of_lt_of_le→y0p,ne_of_lt→y10,le_trans→y1a,eq_zero_or_pos→y1x,zero_le→y2g,lt_of_le_of_lt→y2m,lt_irrefl→y2q,lt_trichotomy→y2s,lt_succ_self→y35,ne_of_gt→y3a,lt_or_ge→y3l,le_add_right→y45,min_self→y4o,lt_succ_of_lt→y4v,le_succ→y53,le_mul_of_pos_right→y57,le_of_lt→y5e,not_lt_zero→y5m,lt_trans→y5n,pow_le_pow_right→y5r,mul_le_mul_right→y5s,lt_succ_of_le→y6e,le_of_eq→y6k,gcd_comm→y6l,lt_of_not_ge→y6o,min_eq_right→y6p,mod_eq_of_lt→y6r,min_eq_left→y6w,not_lt→y73,mod_lt→y74
open Option renaming map_eq_some_iff→y5c,getD_none→y6n,map_some→y6u
open Option.some renaming inj→y12
open Or renaming inr→y6s,inl→y72
open PyProof.Rows renaming callWith_type1→y1s
open PySem renaming boot_len→y18,mem_of_lookup→y1z,Within→y6j,call→y71
open PySem.F renaming plainAttrs_list→y2r
open PySem.SeqAt renaming shaped→y63
open PySem.W renaming Frag→y03,keepIn→y0i,codeIn→y0k,fnOf→y0o,nsIn→y0r,findIn→y0y,mg_none_of→y16,isFn→y1y,kia_one→y21,emptyDict→y24,instObj→y2t,plainGet→y3k,hasDictIn→y3v,plainGet_of→y4c,makesIn→y4d,OpenLaw→y4e,callWith_K→y4i,lookIn→y4p,methodObj→y4s,plainOver→y4t,cellsFrom_some→y5b,takerIn→y5f,methodCall_KW→y5g,mg_of→y62,specialIn→y6a,kitx_list→y6b,kitx_dict→y6c,handedIn→y6m,kitOne→y6z,WalkO→y75
set_option Elab.async false
set_option linter.all false
set_option maxRecDepth 100000
namespace L2
open PySem PySem.Spec PyProof.Rows
abbrev Key:=Sum Int Str
def zbh:Key→Value→Bool
 | .inl k,v=>Value.isInt k v
 | .inr x,v=>Value.isStrOf x v
def zpp (w:World):Key→Int
 | .inl k=>hashInt k
 | .inr x=>hashStr w x
theorem z1s:∀{k:Key} {v:Value},zbh k v=true→(∃i t,k=Sum.inl i∧v=Value.int i t)∨(∃x t,k=Sum.inr x∧v=Value.str x t)
 | .inl i,v,h=>by
  obtain⟨t,e⟩:=Value.isInt_shape (k:=i) (v:=v) h
  exact .inl ⟨i,t,rfl,e⟩
 | .inr x,v,h=>by
  obtain⟨t,e⟩:=Value.isStrOf_shape (x:=x) (v:=v) h
  exact .inr ⟨x,t,rfl,e⟩
theorem zgg (i:Int)(t:Tok):zbh (.inl i) (.int i t)=true:=by simp [zbh,Value.isInt]
theorem zet (x:Str)(t:Tok):zbh (.inr x) (.str x t)=true:=by simp [zbh,Value.isStrOf]
theorem zn2 (a b:Int):decide ((Sum.inl a:Key)=Sum.inl b)=(a==b):=by
 by_cases e:a=b
 ·subst e; simp
 ·have h:¬(Sum.inl a:Key)=Sum.inl b:=fun q=>e (Sum.inl.inj q)
  rw [decide_eq_false h]
  exact(beq_eq_false_iff_ne.mpr e).symm
theorem zn1 (a b:Str):decide ((Sum.inr a:Key)=Sum.inr b)=decide (a=b):=by
 by_cases e:a=b
 ·subst e; simp
 ·have h:¬(Sum.inr a:Key)=Sum.inr b:=fun q=>e (Sum.inr.inj q)
  rw [decide_eq_false h,decide_eq_false e]
theorem zmq (a:Int)(b:Str):decide ((Sum.inl a:Key)=Sum.inr b)=false:=decide_eq_false (fun q=>nomatch q)
theorem zms (a:Str)(b:Int):decide ((Sum.inr a:Key)=Sum.inl b)=false:=decide_eq_false (fun q=>nomatch q)
def z34 (prog:Program)(w:World):PySem.KeyKind prog w Key where
 is:=zbh
 hash:=zpp w
 inj:=fun v a b ha hb=>by
  rcases z1s ha with ⟨i,t,rfl,rfl⟩ | ⟨x,t,rfl,rfl⟩
  ·rcases z1s hb with ⟨j,u,rfl,e⟩ | ⟨y,u,rfl,e⟩
   ·injection e with e1 _; rw [e1]
   ·exact nomatch e
  ·rcases z1s hb with ⟨j,u,rfl,e⟩ | ⟨y,u,rfl,e⟩
   ·exact nomatch e
   ·injection e with e1 _; rw [e1]
 byValue:=fun k v h=>by
  rcases z1s h with ⟨i,t,rfl,rfl⟩ | ⟨x,t,rfl,rfl⟩<;>rfl
 pyHash:=fun hv h=>by
  rcases z1s hv with ⟨i,t,rfl,rfl⟩ | ⟨x,t,rfl,rfl⟩
  ·exact wpAny_pyHash_int h
  ·exact wpAny_pyHash_str h
 eqBool:=fun hu hv h=>by
  rcases z1s hu with ⟨i,t,rfl,rfl⟩ | ⟨x,t,rfl,rfl⟩
  ·rcases z1s hv with ⟨j,u,rfl,rfl⟩ | ⟨y,u,rfl,rfl⟩
   ·rw [zn2] at h; exact wpAny_eqBool_int h
   ·rw [zmq] at h; exact SeqAt.EqAt.int_str i t y u _ _ _ _ h
  ·rcases z1s hv with ⟨j,u,rfl,rfl⟩ | ⟨y,u,rfl,rfl⟩
   ·rw [zms] at h; exact SeqAt.EqAt.str_int x t j u _ _ _ _ h
   ·rw [zn1] at h; exact wpAny_eqBool_str h
 «strs»:=fun k x t v h=>by
  rcases z1s h with ⟨i,u,rfl,e⟩ | ⟨y,u,rfl,e⟩
  ·exact nomatch e
  ·injection e with e1 _
   subst e1
   cases v<;>rfl
theorem zbq (prog:Program)(w:World)(i:Int)(t:Tok):(z34 prog w).is (.inl i) (.int i t)=true:=zgg i t
theorem zbt (prog:Program)(w:World)(x:Str)(t:Tok):(z34 prog w).is (.inr x) (.str x t)=true:=zet x t
end L2
namespace L2
open PySem PySem.Spec PyProof.Rows
inductive V where
 | non | bl (b:Bool) | int (i:Int) | str (x:Str) | byt (b:Array UInt8) | flt (b:UInt64) | ref (a:Addr) | ty (n:String)
 deriving DecidableEq
def RelV:V→Value→Prop
 | .non,u=>u=Value.none
 | .bl b,u=>u=Value.bool b
 | .int i,u=>∃t,u=Value.int i t
 | .str x,u=>∃t,u=Value.str x t
 | .byt b,u=>∃t,u=Value.bytes b t
 | .flt b,u=>∃t,u=Value.float b t
 | .ref a,u=>u=Value.ref a
 | .ty n,u=>u=Value.type n
abbrev Vals:List V→List Value→Prop:=Paired RelV
theorem Vals.length {xs:List V}{us:List Value}(r:Vals xs us):xs.length=us.length:=Paired.length r
theorem Vals.get:∀{xs:List V} {us:List Value} {i:Nat} {x:V},Vals xs us→xs[i]?=some x→∃u,us[i]?=some u∧RelV x u
 | _,_,_,_,.nil,e=>by simp at e
 | _,_,0,_,.cons r _,e=>by simp at e; subst e; exact⟨_,rfl,r⟩
 | _,_,i+1,x,.cons _ t,e=>by
  obtain⟨u,h1,h2⟩:=Vals.get (i:=i) (x:=x) t (by simpa using e)
  exact⟨u,by simpa using h1,h2⟩
theorem Vals.set {x:V}{u:Value}(r:RelV x u):∀{xs:List V} {us:List Value} (i:Nat),Vals xs us→Vals (xs.set i x) (us.set i u)
 | _,_,_,.nil=>.nil
 | _,_,0,.cons _ t=>.cons r t
 | _,_,i+1,.cons q t=>.cons q (Vals.set r i t)
theorem Vals.append:∀{xs ys:List V} {us ws:List Value},Vals xs us→Vals ys ws→Vals (xs++ys) (us++ws)
 | _,_,_,_,.nil,s=>s
 | _,_,_,_,.cons r t,s=>.cons r (Vals.append t s)
theorem Vals.take:∀{xs:List V} {us:List Value} (n:Nat),Vals xs us→Vals (xs.take n) (us.take n)
 | _,_,0,_=>.nil
 | _,_,_+1,.nil=>.nil
 | _,_,n+1,.cons r t=>.cons r (Vals.take n t)
theorem Vals.drop:∀{xs:List V} {us:List Value} (n:Nat),Vals xs us→Vals (xs.drop n) (us.drop n)
 | _,_,0,r=>r
 | _,_,_+1,.nil=>.nil
 | _,_,n+1,.cons _ t=>Vals.drop n t
theorem Vals.none_of:∀{xs:List V} {us:List Value} {i:Nat},Vals xs us→xs[i]?=none→us[i]?=none:=fun {xs us i} r e=>by
 have h1:=r.length
 have h2:xs.length≤i:=y3j.mp e
 exact y3j.mpr (by omega)
def RelO:Option V→Option Value→Prop
 | some v,some u=>RelV v u
 | none,none=>True
 | _,_=>False
def KV {κ:Type}:List (κ×V)→List (κ×Value)→Prop:=Paired fun (p:κ×V) (q:κ×Value)=>p.1=q.1∧RelV p.2 q.2
def kV:Key→V
 | .inl i=>.int i
 | .inr x=>.str x
inductive HO where
 /-- a list -/
 | lst (xs:List V)
 /-- a tuple (never changes) -/
 | tup (xs:List V)
 /-- a dict whose keys are ints and texts; one whose keys are tuples of ints and texts (the empty one is both) -/
 | dK (kvs:List (Key×V)) | dT (kvs:List (List Key×V))
 /-- a set of ints: its members,its size -/
 | set (S:Int→Bool) (n:Nat)
 /-- an instance of the class at C,its dict at dx,its attributes -/
 | ins (C dx:Addr) (fs:List (Str×V))
 /-- the dict of the instance at x -/
 | own (x:Addr)
 /-- the dict of an exception -/
 | xd (fs:List (Str×V))
 /-- a bound method,f of x -/
 | met (f x:Addr)
 /-- a range object lo,lo+1,.. below hi -/
 | rng (lo hi:Int)
 /-- a thing that is known to the object (the script; a dict while a loop walks it): read,never written while it is so -/
 | frz (o:Obj) (u:HO)
 /-- a code object's table -/
 | tbl (ps:Array Value)
 /-- any other thing,by what is true of its one object (a def of one's own: SetO a S n:=HO.ext fun h=>..) -/
 | ext (φ:Heap→Prop)
abbrev Hp:=Addr→Option HO
def upd (H:Hp)(a:Addr)(o:HO):Hp:=fun b=>if b=a then some o else H b
theorem z01 {H:Hp}{a:Addr}{o:HO}:upd H a o a=some o:=by unfold upd; rw [if_pos rfl]
theorem z09 {H:Hp}{a b:Addr}{o:HO}(h:b≠a):upd H a o b=H b:=by unfold upd; rw [if_neg h]
theorem z61 {H:Hp}{a b:Addr}{o u:HO}(h:H a=some o)(h':H b=some u)(d:o≠u):a≠b:=by
 intro e; subst e; rw [h] at h'; exact d (y12 h')
theorem z06 {H:Hp}{a b:Addr}{o:HO}(h:H a=some o)(h':H b=none):a≠b:=by
 intro e; subst e; rw [h] at h'; cases h'
section
variable (P:Program)(w:World)
def ObjOk (H:Hp)(h:Heap)(a:Addr):HO→Prop
 | .lst xs=>xs.length≤sizeLine∧∃(its:List Value) (n:Nat),Vals xs its∧h.get? a=some { cls:=.type "list",data:=.seq its.toArray n }
 | .tup xs=>xs.length≤sizeLine∧∃its:List Value,Vals xs its∧IsTup h a its.toArray
 | .dK kvs=>kvs.length≤sizeLine∧(a==sysModules)=false∧∃vs,KV kvs vs∧h.DictOf (z34 P w) a vs
 | .dT kvs=>kvs.length≤sizeLine∧(a==sysModules)=false∧∃xs:List (List Key×Addr×Value),
   Paired (fun (p:List Key×V) (q:List Key×Addr×Value)=>p.1=q.1∧H q.2.1=some (.tup (p.1.map kV))∧RelV p.2 q.2.2) kvs xs ∧
   ∃o es ep,h.get? a=some o∧o.ExactDict∧o.data = .dict es ep∧es.toList=xs.map (entryOfKey (tupleKind (z34 P w)))∧(xs.map (·.1)).Nodup
 | .set S n=>h.SetOf (intKind P w) a S n
 | .ins C dx fs=>H dx=some (.own a)∧fs.length≤1000∧dx≠a∧h.get? a=some (y2t C dx) ∧
   ∃mA,h.Ns1 dx mA∧(∀f,RelO (fs.lookup f) (mA f))∧y6j mA (fs.map (·.1))
 | .own _=>∃o,h.get? a=some o
 | .xd fs=>∃mA,h.Ns1 a mA∧∀f,RelO (fs.lookup f) (mA f)
 | .rng lo hi=>∃t u v,h.get? a=some { cls:=.type "range",data:=.fields #[.int lo t,.int hi u,.int 1 v] }
 | .frz o u=>h.get? a=some o∧ObjOk H h a u
 | .tbl ps=>h.get? a=some { cls:=.none,data:=.fields ps }
 | .met f x=>h.get? a=some (y4s (.ref f) (.ref x))
 | .ext φ=>φ h∧(∃o,h.get? a=some o)∧∀h1 h2:Heap,φ h1→(∀o,h1.get? a=some o→h2.get? a=some o)→φ h2
def HOk (H:Hp)(h:Heap):Prop:=∀a o,H a=some o→ObjOk P w H h a o
end
section
variable {P:Program}{w:World}{H H':Hp}{h h':Heap}{a:Addr}{o:HO}
theorem ObjOk.lt (x:ObjOk P w H h a o):a<h.objs.size:=by
 cases o with
 | lst xs=>obtain⟨_,_,_,_,e⟩:=x; exact Heap.lt_size e
 | tup xs=>obtain⟨_,_,_,p⟩:=x; exact p.lt
 | dK kvs=>obtain⟨_,_,_,_,o,_,_,e,_⟩:=x; exact Heap.lt_size e
 | dT kvs=>obtain⟨_,_,_,_,o,_,_,e,_⟩:=x; exact Heap.lt_size e
 | set S n=>obtain⟨o,_,_,_,e,_⟩:=x; exact Heap.lt_size e
 | ins C dx fs=>obtain⟨_,_,_,e,_⟩:=x; exact Heap.lt_size e
 | own y=>obtain⟨_,e⟩:=x; exact Heap.lt_size e
 | xd fs=>obtain⟨_,⟨_,_,_,e,_⟩,_⟩:=x; exact Heap.lt_size e
 | rng lo hi=>obtain⟨_,_,_,e⟩:=x; exact Heap.lt_size e
 | frz ob u=>obtain⟨e,_⟩:=x; exact Heap.lt_size e
 | tbl ps=>exact Heap.lt_size (show h.get? a=some _ from x)
 | met f y=>exact Heap.lt_size (show h.get? a=some _ from x)
 | ext φ=>obtain⟨_,⟨_,e⟩,_⟩:=x; exact Heap.lt_size e
theorem Paired.mapP {α β:Type}{F G:α→β→Prop}:∀{l₁:List α} {l₂:List β},Paired F l₁ l₂→(∀a b,F a b→G a b)→Paired G l₁ l₂
 | _,_,.nil,_=>.nil
 | _,_,.cons r t,f=>.cons (f _ _ r) (Paired.mapP t f)
theorem ObjOk.stay (x:ObjOk P w H h a o)(k:∀b u,(b=a∨H b=some (.own a))→h.get? b=some u→h'.get? b=some u)
  (ho:∀b,H b=some (.own a)→H' b=some (.own a)) (ht:∀b xs,H b=some (.tup xs)→H' b=some (.tup xs)):ObjOk P w H' h' a o:=by
 induction o with
 | lst xs=>obtain⟨z,its,n,r,e⟩:=x; exact⟨z,its,n,r,k _ _ (.inl rfl) e⟩
 | tup xs=>obtain⟨z,its,r,ob,e,c⟩:=x; exact⟨z,its,r,ob,k _ _ (.inl rfl) e,c⟩
 | dK kvs=>obtain⟨z,y,vs,r,ob,es,ep,e,c⟩:=x; exact⟨z,y,vs,r,ob,es,ep,k _ _ (.inl rfl) e,c⟩
 | dT kvs =>
  obtain⟨z,y,xs,r,ob,es,ep,e,c⟩:=x
  exact⟨z,y,xs,Paired.mapP r fun p q z=>⟨z.1,ht _ _ z.2.1,z.2.2⟩,ob,es,ep,k _ _ (.inl rfl) e,c⟩
 | set S n=>obtain⟨ob,es,ep,t,e,c⟩:=x; exact⟨ob,es,ep,t,k _ _ (.inl rfl) e,c⟩
 | ins C dx fs =>
  obtain⟨d,z,ne,e,mA,⟨od,es,ep,e2,c⟩,r⟩:=x
  exact⟨ho _ d,z,ne,k _ _ (.inl rfl) e,mA,⟨od,es,ep,k _ _ (.inr d) e2,c⟩,r⟩
 | own y=>obtain⟨ob,e⟩:=x; exact⟨ob,k _ _ (.inl rfl) e⟩
 | xd fs=>obtain⟨mA,⟨od,es,ep,e,c⟩,r⟩:=x; exact⟨mA,⟨od,es,ep,k _ _ (.inl rfl) e,c⟩,r⟩
 | rng lo hi=>obtain⟨t,u,v,e⟩:=x; exact⟨t,u,v,k _ _ (.inl rfl) e⟩
 | frz ob u ih=>obtain⟨e,q⟩:=x; exact⟨k _ _ (.inl rfl) e,ih q⟩
 | tbl ps =>
  have e:h.get? a=some { cls:=.none,data:=.fields ps }:=x
  show h'.get? a=some { cls:=.none,data:=.fields ps }
  exact k a _ (.inl rfl) e
 | met f y =>
  have e:h.get? a=some (y4s (.ref f) (.ref y)):=x
  show h'.get? a=some (y4s (.ref f) (.ref y))
  exact k a _ (.inl rfl) e
 | ext φ=>obtain⟨p,⟨o,e⟩,st⟩:=x; exact⟨st _ _ p fun o q=>k _ _ (.inl rfl) q,⟨o,k _ _ (.inl rfl) e⟩,st⟩
theorem HOk.lt (x:HOk P w H h)(e:H a=some o):a<h.objs.size:=(x a o e).lt
theorem HOk.fresh (x:HOk P w H h)(e:h.objs.size≤a):H a=none:=by
 cases q:H a with
 | none=>rfl
 | some u=>exact absurd (y0p (x.lt q) e) (y2q _)
theorem HOk.kept (x:HOk P w H h)(k:∀b u,h.get? b=some u→h'.get? b=some u):HOk P w H h':=fun a o e =>
 (x a o e).stay (fun b u _ q=>k b u q) (fun _ q=>q) fun _ _ q=>q
theorem HOk.laid (x:HOk P w H h)(k:∀b u,h.get? b=some u→h'.get? b=some u)(hp:h.objs.size≤a)(new:ObjOk P w (upd H a o) h' a o):HOk P w (upd H a o) h':=fun b u e=>by
 have hn:=x.fresh hp
 by_cases hb:b=a
 ·subst hb; rw [z01] at e; cases e; exact new
 ·rw [z09 hb] at e
  exact(x b u e).stay (fun c v _ q=>k c v q) (fun c q=>by rw [z09 (z06 q hn)]; exact q) fun c xs q=>by rw [z09 (z06 q hn)]; exact q
end
def Rd (H:Hp)(a:Addr)(u:HO):Prop:=H a=some u∨∃o,H a=some (.frz o u)
theorem Rd.ok {P:Program}{w:World}{H:Hp}{h:Heap}{a:Addr}{u:HO}(r:Rd H a u)(x:HOk P w H h):ObjOk P w H h a u:=by
 rcases r with r | ⟨o,r⟩
 ·exact x a u r
 ·obtain⟨_,q⟩:=x a _ r
  exact q
def Mut:Option HO→Prop
 | some (.lst _)=>True
 | some (.dK _)=>True
 | some (.dT _)=>True
 | some (.set _ _)=>True
 | some (.ins _ _ _)=>True
 | some (.ext _)=>True
 | _=>False
section
variable {P:Program}{w:World}{H:Hp}{h h':Heap}{x e:Addr}{o':HO}
theorem HOk.write (ok:HOk P w H h)(mu:Mut (H x))(he:e=x∨H e=some (.own x))(k:∀b u,b≠e→h.get? b=some u→h'.get? b=some u)(heo:∃u,h'.get? e=some u)
  (new:ObjOk P w (upd H x o') h' x o'):HOk P w (upd H x o') h':=fun b u q=>by
 have nown:∀c y,H c=some (.own y)→c≠x:=fun c y r z=>by subst z; rw [r] at mu; exact mu
 have ntup:∀c xs,H c=some (.tup xs)→c≠x:=fun c xs r z=>by subst z; rw [r] at mu; exact mu
 by_cases hb:b=x
 ·subst hb; rw [z01] at q; cases q; exact new
 ·rw [z09 hb] at q
  by_cases hbe:b=e
  ·have q':H b=some (.own x):=by
    rcases he with z | z
    ·exact absurd (hbe.trans z) hb
    ·rw [hbe]; exact z
   rw [q] at q'; cases q'
   obtain⟨v,hv⟩:=heo
   exact⟨v,by rw [hbe]; exact hv⟩
  ·refine(ok b u q).stay (fun c v hc r=>k c v ?_ r) (fun c r=>by rw [z09 (nown c b r)]; exact r) fun c xs r=>by rw [z09 (ntup c xs r)]; exact r
   rcases hc with rfl | hc
   ·exact hbe
   ·rintro rfl
    rcases he with z | z
    ·exact nown c b hc z
    ·rw [hc] at z; cases z; exact hb rfl
end
structure Un (fs ex:List Addr)(H H':Hp)(h h':Heap):Prop where
 keep:∀b o,h.get? b=some o→H b=none→b ∉ fs→b ∉ ex→h'.get? b=some o
 slot:∀b o,h.get? b=some o→H b=none→b∈fs→b ∉ ex→∃sl,h'.get? b=some { o with slots:=sl }
 free:∀b o,h.get? b=some o→H b=none→b ∉ ex→H' b=none
 there:∀b o,h.get? b=some o→b ∉ ex→∃o',h'.get? b=some o'
 tups:∀b xs,H b=some (.tup xs)→H' b=some (.tup xs)
 frzs:∀b o u,H b=some (.frz o u)→H' b=some (.frz o u)
 tbls:∀b ps,H b=some (.tbl ps)→∃more,H' b=some (.tbl (ps++more))
section
variable {fs fs' ex ex':List Addr}{H H1 H2:Hp}{h h1 h2 h':Heap}{a x e:Addr}{o:HO}
theorem Un.any (u:Un fs ex H H1 h h1){b:Addr}{ob:Obj}(q:h.get? b=some ob)(n:H b=none)(hx:b ∉ ex):∃sl,h1.get? b=some { ob with slots:=sl }:=by
 by_cases hb:b∈fs
 ·exact u.slot b ob q n hb hx
 ·exact⟨ob.slots,u.keep b ob q n hb hx⟩
theorem Un.kept (k:∀b u,h.get? b=some u→h'.get? b=some u):Un fs ex H H h h' :=
 ⟨fun b ob q _ _ _=>k b ob q,fun b ob q _ _ _=>⟨ob.slots,k b ob q⟩,fun _ _ _ n _=>n,fun b ob q _=>⟨ob,k b ob q⟩,fun _ _ q=>q,fun _ _ _ q=>q,fun _ ps q=>⟨#[],by rw [q]; simp⟩⟩
theorem Un.refl:Un fs ex H H h h:=Un.kept fun _ _ q=>q
theorem Un.laid (k:∀b u,h.get? b=some u→h'.get? b=some u)(hp:h.objs.size≤a)(hn:H a=none):Un fs ex H (upd H a o) h h' where
 keep:=fun b u q _ _ _=>k b u q
 slot:=fun b u q _ _ _=>⟨u.slots,k b u q⟩
 free:=fun b u q n _=>by rw [z09 (y10 (y0p (Heap.lt_size q) hp))]; exact n
 there:=fun b u q _=>⟨u,k b u q⟩
 tups:=fun b xs q=>by rw [z09 (z06 q hn)]; exact q
 frzs:=fun b u xs q=>by rw [z09 (z06 q hn)]; exact q
 tbls:=fun b ps q=>⟨#[],by rw [z09 (z06 q hn),q]; simp⟩
theorem Un.write (mu:Mut (H x))(he:e=x∨H e=some (.own x))(k:∀b u,b≠e→h.get? b=some u→h'.get? b=some u)(heo:∃u,h'.get? e=some u):Un fs ex H (upd H x o) h h':=by
 have hx:∀b,H b=none→b≠x:=fun b n z=>by subst z; rw [n] at mu; exact mu
 have hb:∀b,H b=none→b≠e:=fun b n z=>by
  subst z
  rcases he with r | r
  ·exact hx b n r
  ·rw [n] at r; cases r
 have hm:∀b u,H b=some u→¬Mut (some u)→b≠x:=fun b u q nm z=>by subst z; rw [q] at mu; exact nm mu
 refine⟨fun b u q n _ _=>k b u (hb b n) q,fun b u q n _ _=>⟨u.slots,k b u (hb b n) q⟩,fun b u q n _=>by rw [z09 (hx b n)]; exact n,fun b u q _=>?_,
  fun b xs q=>by rw [z09 (hm b _ q fun z=>z)]; exact q,fun b u xs q=>by rw [z09 (hm b _ q fun z=>z)]; exact q,fun b ps q=>⟨#[],by rw [z09 (hm b _ q fun z=>z),q]; simp⟩⟩
 by_cases hbe:b=e
 ·subst hbe; exact heo
 ·exact⟨u,k b u hbe q⟩
end
def trk (h:Heap)(H:Hp):List Addr:=(y0b h.objs.size).filter fun a=>(H a).isSome
def zi2 (h:Heap)(H:Hp):Heap:=PySem.W.hideAll h (trk h H)
theorem zge (h:Heap)(H:Hp):(zi2 h H).objs.size=h.objs.size:=PySem.W.hideAll_size _ _
theorem zhx {h:Heap}{H:Hp}{b:Addr}{o:Obj}(e:h.get? b=some o)(n:H b=none):(zi2 h H).get? b=some o :=
 PySem.W.hideAll_get _ e fun hm=>by
  have q:(H b).isSome=true:=(y17.mp hm).2
  rw [n] at q; simp at q
theorem zjy {h:Heap}{H:Hp}{b:Addr}{o:Obj}(e:(zi2 h H).get? b=some o):h.get? b=some o∧H b=none:=by
 have e':h.get? b=some o:=PySem.W.of_hideAll (trk h H) e
 refine⟨e',?_⟩
 cases q:H b with
 | none=>rfl
 | some x =>
  have hm:b∈trk h H:=y17.mpr ⟨y1e.mpr (Heap.lt_size e'),by simp [q]⟩
  have z:(zi2 h H).get? b=none:=PySem.W.hideAll_none (trk h H) hm
  rw [z] at e; cases e
def zlv (g h:Heap)(L:Addr):List (Addr×Obj):=(y0b h.objs.size).filterMap fun a=>if a=L∨(g.get? a).isSome=true then none else (h.get? a).map fun o=>(a,o)
def rest (g h:Heap)(L d:Addr):List (Addr×Obj):=(zlv g h L).filter fun p=>decide (p.1≠d)
end L2
namespace L2
open PySem PySem.Spec PyProof.Rows
structure Mod (K:y03)(mg:Str→Option Value)(base:Heap):Prop where
 kin:K.In base
 glob:base.Ns mainGlobals mg
 blt:∃mb,base.Ns builtinsNs mb∧∀x:Str,x ≠ "__name__"→mb x=bootBuiltins x
 nolimit:base.NoLimit
structure Cx where
 prog:Program
 w:World
 K:y03
 mg:Str→Option Value
 base:Heap
 A:Around
 N:List Str
 s₀:Shared
 H₀:Hp
 env:Env
 outer:List Env
 stack:List Env
 ex:List Addr
 fn:Str→Bool
 calm:Bool
 pn:List (Addr×Obj)
 xe:Value→Shared→Prop
def frs (l:List Env):List Addr:=l.filterMap (·.frame)
abbrev Cx.fs (X:Cx):List Addr:=frs X.outer
def Vis (sc:Scope)(x:Str):Prop:=sc.names.lookup x=some .local∨sc.names.lookup x=some .cell∨sc.names.lookup x=some .free
def Loc (sc:Scope)(x:Str):Prop:=sc.names.lookup x=some .local∨sc.names.lookup x=some .cell
def zpt (env:Env)(h:Heap)(m:Str→Option Value)(x:Str)(u:Value):Prop :=
 (env.kindOf x=some .local∧m x=some u)∨((env.kindOf x=some .cell∨env.kindOf x=some .free)∧∃c,env.cells.lookup x=some c∧h.IsCell c (some u))
structure Cx.Ok (X:Cx):Prop where
 mod:Mod X.K X.mg X.base
 kind:X.env.scope.kind = .function
 glob:X.env.globals=mainGlobals
 blt:X.env.builtins=builtinsNs
 above:X.s₀.heap.objs.size≤X.env.locals
 inj:∀x y c,X.env.cells.lookup x=some c→X.env.cells.lookup y=some c→x=y
 has:∀x,(X.env.kindOf x=some .cell∨X.env.kindOf x=some .free)→∃c,X.env.cells.lookup x=some c
 cab:∀x c,X.fn x=true→X.env.cells.lookup x=some c→X.s₀.heap.objs.size≤c
 hd:X.calm=true→X.A.handled=none
 frames:X.A.frames=some X.stack
 stk:X.stack=X.outer∨(X.stack=X.env::X.outer∧X.env.frame=some X.env.locals)
 exf:∀b∈X.ex,b≠X.env.locals∧∀x c,X.env.cells.lookup x=some c→c≠b
 bs:∀b o,X.base.get? b=some o→X.s₀.heap.get? b=some o∧X.H₀ b=none
 bsz:X.base.objs.size≤X.s₀.heap.objs.size
 noex:∀b o,X.base.get? b=some o→b ∉ X.ex
 exfs:∀b∈X.ex,b ∉ X.fs
 funs:X.s₀.heap.FunFrames X.base X.outer
 frf:∀b∈X.fs,X.H₀ b=none
structure Inv (X:Cx)(pins:List (Addr×Obj))(σ:List (Option V))(H:Hp)(s:Shared):Prop where
 ok:X.Ok
 os:s.os=X.s₀.os
 bare:AllBare s.gens
 base:Un X.fs X.ex X.H₀ H X.s₀.heap s.heap
 loc:∃m,s.heap.Ns X.env.locals m∧∀(i:Nat) (x:Str) (v:V),X.N[i]?=some x→σ[i]?=some (some v)→Vis X.env.scope x→∃u,RelV v u∧zpt X.env s.heap m x u
 cell:∀x c,X.env.cells.lookup x=some c→∃v,s.heap.IsCell c v
 free:H X.env.locals=none
 freeC:∀x c,X.env.cells.lookup x=some c→H c=none
 pin:∀p∈X.pn++pins,s.heap.get? p.1=some p.2∧H p.1=none∧p.1≠X.env.locals∧p.1 ∉ X.fs∧∀v,p.2.data ≠ .cell v
 hok:HOk X.prog X.w H s.heap
 len:σ.length=X.N.length
section
variable {X:Cx}{pins:List (Addr×Obj)}{σ:List (Option V)}{H H':Hp}{s:Shared}{h':Heap}
theorem Cx.Ok.nofr (ok:X.Ok){b:Addr}{o:Obj}(e:X.base.get? b=some o):b ∉ X.fs:=fun hb=>by
 have:=(ok.funs.mem hb).1
 rw [e] at this; cases this
theorem Inv.bs (I:Inv X pins σ H s):∀b o,X.base.get? b=some o→s.heap.get? b=some o∧H b=none:=fun b o e =>
 ⟨I.base.keep b o (I.ok.bs b o e).1 (I.ok.bs b o e).2 (I.ok.nofr e) (I.ok.noex b o e),I.base.free b o (I.ok.bs b o e).1 (I.ok.bs b o e).2 (I.ok.noex b o e)⟩
theorem Inv.bk (I:Inv X pins σ H s):∀b o,X.base.get? b=some o→s.heap.get? b=some o:=fun b o e=>(I.bs b o e).1
theorem Inv.mod (I:Inv X pins σ H s):Mod X.K X.mg X.base:=I.ok.mod
theorem Inv.kIn (I:Inv X pins σ H s):X.K.In s.heap:=I.ok.mod.kin.keeps I.bk
theorem Inv.lt (I:Inv X pins σ H s):X.env.locals<s.heap.objs.size:=let ⟨_,hn,_⟩:=I.loc; hn.lt
theorem Inv.sz (I:Inv X pins σ H s):X.s₀.heap.objs.size≤s.heap.objs.size:=y1a I.ok.above (y5e I.lt)
theorem Inv.nofs (I:Inv X pins σ H s){a:Addr}(h:s.heap.objs.size≤a):a ∉ X.fs:=fun hb=>by
 obtain⟨_,o,ho,_⟩:=I.ok.funs.mem hb
 exact absurd (y0p (Heap.lt_size ho) (y1a I.sz h)) (y2q _)
theorem Inv.cne (I:Inv X pins σ H s):∀x c,X.env.cells.lookup x=some c→c≠X.env.locals:=fun x c e z=>by
 obtain⟨v,o,ho,hd⟩:=I.cell x c e
 obtain⟨m,⟨o',es,ep,ho',hd',_⟩,_⟩:=I.loc
 rw [z,ho'] at ho; cases ho; rw [hd'] at hd; cases hd
theorem Inv.funs (I:Inv X pins σ H s):s.heap.FunFrames X.base X.outer:=by
 have all:∀(l:List Env),(∀b∈frs l,b∈X.fs)→X.s₀.heap.FunFrames X.base l→s.heap.FunFrames X.base l:=by
  intro l
  induction l with
  | nil=>intro _ _; trivial
  | cons env r ih =>
   intro hs hl
   obtain⟨hk,⟨L,o,hf,hn,ho,hd⟩,hr⟩:=hl
   have hL:L∈X.fs:=hs L (by unfold frs; rw [y2f,hf]; exact y0d)
   obtain⟨sl,e⟩:=I.base.slot L o ho (I.ok.frf L hL) hL fun z=>I.ok.exfs L z hL
   exact⟨hk,⟨L,_,hf,hn,e,hd⟩,ih (fun b hb=>hs b (by unfold frs; rw [y2f,hf]; exact y0c _ hb)) hr⟩
 exact all X.outer (fun _ hb=>hb) I.ok.funs
theorem Inv.stack (I:Inv X pins σ H s):s.heap.FunFrames X.base X.stack:=by
 rcases I.ok.stk with e | ⟨e,hf⟩
 ·rw [e]; exact I.funs
 ·rw [e]
  obtain⟨m,hn,_⟩:=I.loc
  refine .cons (by rw [I.ok.kind]; decide) hf hn ?_ I.funs
  exact Heap.get?_none_of_le (y1a I.ok.bsz I.ok.above)
theorem Inv.stkSub (I:Inv X pins σ H s):∀b∈frs X.stack,b∈X.env.locals::X.fs:=fun b hb=>by
 rcases I.ok.stk with e | ⟨e,hf⟩
 ·rw [e] at hb; exact y0c _ hb
 ·rw [e] at hb
  unfold frs at hb
  rw [y2f,hf] at hb
  exact hb
theorem Inv.stkFree (I:Inv X pins σ H s):∀b∈frs X.stack,H b=none:=fun b hb=>by
 rcases y0m.mp (I.stkSub b hb) with e | hb
 ·rw [e]; exact I.free
 ·obtain⟨_,o,ho,_⟩:=I.ok.funs.mem hb
  exact I.base.free b o ho (I.ok.frf b hb) fun z=>I.ok.exfs b z hb
theorem Inv.step {g':Array GenState}{t':Nat}{d':Drawn}{ch:List Addr}(I:Inv X pins σ H s)
  (hch:∀b∈ch,(b∈X.ex∨X.s₀.heap.objs.size≤b)∧b≠X.env.locals∧(∀x c,X.env.cells.lookup x=some c→c≠b)∧∀p∈X.pn++pins,p.1≠b)
  (keep:∀b o,b≠X.env.locals→b ∉ X.fs→b ∉ ch→s.heap.get? b=some o→H b=none→h'.get? b=some o)
  (slot:∀b o,b≠X.env.locals→b∈X.fs→b ∉ ch→s.heap.get? b=some o→H b=none→∃sl,h'.get? b=some { o with slots:=sl }) (free:∀b o,b ∉ ch→s.heap.get? b=some o→H b=none→H' b=none)
  (there:∀b o,b ∉ ch→s.heap.get? b=some o→∃o',h'.get? b=some o')
  (tups:∀b xs,H b=some (.tup xs)→H' b=some (.tup xs)) (frzs:∀b o u,H b=some (.frz o u)→H' b=some (.frz o u)) (tbls:∀b ps,H b=some (.tbl ps)→∃more,H' b=some (.tbl (ps++more)))
  (ns:∀m,s.heap.Ns X.env.locals m→h'.Ns X.env.locals m) (hok:HOk X.prog X.w H' h') (hg:AllBare g') :
  Inv X pins σ H' { s with heap:=h',gens:=g',drawn:=d',toks:=t' }:=by
 have neL:∀b o,X.s₀.heap.get? b=some o→b≠X.env.locals:=fun b o e=>y10 (y0p (Heap.lt_size e) I.ok.above)
 have neC:∀b o,X.s₀.heap.get? b=some o→b ∉ X.ex→b ∉ ch:=fun b o e hx hb=>by
  rcases (hch b hb).1 with z | z
  ·exact hx z
  ·exact absurd (y0p (Heap.lt_size e) z) (y2q _)
 have cellK:∀x c,X.env.cells.lookup x=some c→∀v,s.heap.IsCell c v→h'.IsCell c v:=fun x c e v ⟨o,ho,hd⟩=>by
  have nch:c ∉ ch:=fun z=>(hch c z).2.2.1 x c e rfl
  by_cases hc:c∈X.fs
  ·obtain⟨sl,q⟩:=slot c o (I.cne x c e) hc nch ho (I.freeC x c e)
   exact⟨_,q,hd⟩
  ·exact⟨o,keep c o (I.cne x c e) hc nch ho (I.freeC x c e),hd⟩
 refine⟨I.ok,I.os,hg,⟨fun b o e n hb hx=>?_,fun b o e n hb hx=>?_,fun b o e n hx=>?_,fun b o e hx=>?_,fun b xs e=>tups b xs (I.base.tups b xs e),fun b o xs e=>frzs b o xs (I.base.frzs b o xs e),fun b ps e=>?_⟩,?_,fun x c e=>?_,?_,fun x c e=>?_,fun p hp=>?_,hok,I.len⟩
 ·exact keep b o (neL b o e) hb (neC b o e hx) (I.base.keep b o e n hb hx) (I.base.free b o e n hx)
 ·obtain⟨sl,e1⟩:=I.base.slot b o e n hb hx
  obtain⟨sl',e2⟩:=slot b _ (neL b o e) hb (neC b o e hx) e1 (I.base.free b o e n hx)
  exact⟨sl',e2⟩
 ·obtain⟨o',e1⟩:=I.base.there b o e hx
  exact free b o' (neC b o e hx) e1 (I.base.free b o e n hx)
 ·obtain⟨o',e1⟩:=I.base.there b o e hx
  exact there b o' (neC b o e hx) e1
 ·obtain⟨m1,e1⟩:=I.base.tbls b ps e
  obtain⟨m2,e2⟩:=tbls b _ e1
  exact⟨m1++m2,by rw [e2,Array.append_assoc]⟩
 ·obtain⟨m,hn,hl⟩:=I.loc
  refine⟨m,ns m hn,fun i x v e1 e2 e3=>?_⟩
  obtain⟨u,r,l⟩:=hl i x v e1 e2 e3
  refine⟨u,r,?_⟩
  rcases l with l | ⟨k,c,e,z⟩
  ·exact .inl l
  ·exact .inr ⟨k,c,e,cellK x c e _ z⟩
 ·obtain⟨v,z⟩:=I.cell x c e
  exact⟨v,cellK x c e v z⟩
 ·obtain⟨m,⟨o,_,_,ho,_⟩,_⟩:=I.loc
  exact free _ o (fun z=>(hch _ z).2.1 rfl) ho I.free
 ·obtain⟨v,o,ho,hd⟩:=I.cell x c e
  exact free c o (fun z=>(hch c z).2.2.1 x c e rfl) ho (I.freeC x c e)
 ·obtain⟨e,n,ne,nf,d⟩:=I.pin p hp
  have nch:p.1 ∉ ch:=fun z=>(hch p.1 z).2.2.2 p hp rfl
  exact⟨keep p.1 p.2 ne nf nch e n,free p.1 p.2 nch e n,ne,nf,d⟩
theorem Inv.un {t':Nat}(I:Inv X pins σ H s)(u:Un X.fs [] H H' s.heap h')(hok:HOk X.prog X.w H' h'):Inv X pins σ H' { s with heap:=h',toks:=t' }:=by
 obtain⟨m,⟨o,es,ep,ho,r⟩,_⟩:=id I.loc
 obtain⟨sl,hL⟩:=u.any ho I.free (by simp)
 exact I.step (g':=s.gens) (d':=s.drawn) (ch:=[]) (fun _ z=>nomatch z) (fun b o _ hb _ e n=>u.keep b o e n hb (by simp)) (fun b o _ hb _ e n=>u.slot b o e n hb (by simp)) (fun b o _ e n=>u.free b o e n (by simp)) (fun b o _ e=>u.there b o e (by simp)) u.tups u.frzs u.tbls (fun m' hm=>by
  obtain⟨o',es',ep',ho',r'⟩:=hm
  rw [ho] at ho'; cases ho'
  exact⟨_,es',ep',hL,r'⟩) hok I.bare
theorem Inv.call {g':Array GenState}{t':Nat}{d':Drawn}{ch:List Addr}(I:Inv X pins σ H s)(u:Un (frs X.stack) ch H H' s.heap h')(hok:HOk X.prog X.w H' h')(hg:AllBare g')
  (hch:∀b∈ch,(b∈X.ex∨X.s₀.heap.objs.size≤b)∧b≠X.env.locals∧(∀x c,X.env.cells.lookup x=some c→c≠b)∧∀p∈X.pn++pins,p.1≠b) :
  Inv X pins σ H' { s with heap:=h',gens:=g',drawn:=d',toks:=t' }:=by
 obtain⟨m,⟨o,es,ep,ho,r⟩,_⟩:=id I.loc
 obtain⟨sl,hL⟩:=u.any ho I.free fun z=>(hch _ z).2.1 rfl
 exact I.step (ch:=ch) hch (fun b o hL hb hc e n=>u.keep b o e n (fun z=>(y0m.mp (I.stkSub b z)).elim hL hb) hc) (fun b o _ _ hc e n=>u.any e n hc) (fun b o hc e n=>u.free b o e n hc) (fun b o hc e=>u.there b o e hc) u.tups u.frzs u.tbls (fun m' hm=>by
  obtain⟨o',es',ep',ho',r'⟩:=hm
  rw [ho] at ho'; cases ho'
  exact⟨_,es',ep',hL,r'⟩) hok hg
theorem Inv.turned {t':Nat}{it:Addr}(I:Inv X pins σ H s)(k:∀b o,b≠it→s.heap.get? b=some o→h'.get? b=some o)(hn:H it=none)(hL:it≠X.env.locals)
  (h1:it∈X.ex∨X.s₀.heap.objs.size≤it) (h2:∀x c,X.env.cells.lookup x=some c→c≠it) (h3:∀p∈X.pn++pins,p.1≠it):Inv X pins σ H { s with heap:=h',toks:=t' }:=by
 have nit:∀b u,H b=some u→b≠it:=fun b u e z=>by rw [z,hn] at e; cases e
 refine I.step (g':=s.gens) (d':=s.drawn) (ch:=[it]) (fun b hb=>?_) (fun b o _ _ hc e _=>k b o (fun z=>hc (by simp [z])) e) (fun b o _ _ hc e _=>⟨o.slots,k b o (fun z=>hc (by simp [z])) e⟩) (fun _ _ _ _ n=>n)
  (fun b o hc e=>⟨o,k b o (fun z=>hc (by simp [z])) e⟩) (fun _ _ e=>e) (fun _ _ _ e=>e) (fun b ps e=>⟨#[],by rw [e]; simp⟩) (fun m hm=>?_) (fun b u e=>?_) I.bare
 ·have e:b=it:=by simpa using hb
  subst e
  exact⟨h1,hL,h2,h3⟩
 ·obtain⟨o,es,ep,ho,r⟩:=hm
  exact⟨o,es,ep,k _ o (Ne.symm hL) ho,r⟩
 ·refine(I.hok b u e).stay (fun c v hc q=>k c v ?_ q) (fun _ q=>q) fun _ _ q=>q
  rcases hc with z | z
  ·rw [z]; exact nit b u e
  ·exact nit c _ z
theorem Inv.tok (I:Inv X pins σ H s)(t:Nat):Inv X pins σ H { s with toks:=t }:=I.un (h':=s.heap) (t':=t) Un.refl I.hok
theorem Inv.kept {t':Nat}(I:Inv X pins σ H s)(k:∀b u,s.heap.get? b=some u→h'.get? b=some u):Inv X pins σ H { s with heap:=h',toks:=t' }:=I.un (Un.kept k) (I.hok.kept k)
theorem Inv.laid {a:Addr}{o:HO}{t':Nat}(I:Inv X pins σ H s)(k:∀b u,s.heap.get? b=some u→h'.get? b=some u)(hp:s.heap.objs.size≤a)(new:ObjOk X.prog X.w (upd H a o) h' a o) :
  Inv X pins σ (upd H a o) { s with heap:=h',toks:=t' }:=I.un (Un.laid k hp (I.hok.fresh hp)) (I.hok.laid k hp new)
theorem Inv.write {x e:Addr}{o:HO}{t':Nat}(I:Inv X pins σ H s)(mu:Mut (H x))(he:e=x∨H e=some (.own x))(k:∀b u,b≠e→s.heap.get? b=some u→h'.get? b=some u)(heo:∃u,h'.get? e=some u)
  (new:ObjOk X.prog X.w (upd H x o) h' x o):Inv X pins σ (upd H x o) { s with heap:=h',toks:=t' }:=I.un (Un.write mu he k heo) (I.hok.write mu he k heo new)
theorem Inv.weak {σ':List (Option V)}(I:Inv X pins σ H s)(hl:σ'.length = σ.length)(w:∀(i:Nat) v,σ'[i]?=some (some v)→σ[i]?=some (some v)):Inv X pins σ' H s :=
 ⟨I.ok,I.os,I.bare,I.base,let ⟨m,hn,hl'⟩:=I.loc; ⟨m,hn,fun i x v e1 e2 e3=>hl' i x v e1 (w i v e2) e3⟩,I.cell,I.free,I.freeC,I.pin,I.hok,hl.trans I.len⟩
theorem Inv.pins_of {pins':List (Addr×Obj)}(I:Inv X pins σ H s)(h:∀p∈pins',s.heap.get? p.1=some p.2∧H p.1=none∧p.1≠X.env.locals∧p.1 ∉ X.fs∧∀v,p.2.data ≠ .cell v):Inv X pins' σ H s :=
 ⟨I.ok,I.os,I.bare,I.base,I.loc,I.cell,I.free,I.freeC,fun p hp=>(y13.mp hp).elim (fun z=>I.pin p (y49 _ z)) (h p),I.hok,I.len⟩
theorem zcm {N:List Str}(hN:N.Nodup){i j:Nat}{x:Str}(a:N[i]?=some x)(b:N[j]?=some x):i=j:=by
 obtain⟨h1,e1⟩:=y00.mp a
 obtain⟨h2,e2⟩:=y00.mp b
 exact(List.getElem_inj hN).mp (e1.trans e2.symm)
theorem zed {M:Model}{A:Around}{E:Value→Shared→Prop}{i:Nat}{x:Str}{v:V}{u:Value}{Q:Unit→Shared→Prop}(I:Inv X pins σ H s)(hN:X.N.Nodup)(hi:X.N[i]?=some x)(hx:Loc X.env.scope x)(r:RelV v u)
  (h:∀s',Inv X pins (σ.set i (some v)) H s'→(∃a,Heap.SameBut a s.heap s'.heap∧(a=X.env.locals∨X.env.cells.lookup x=some a))→Q () s') (hf:X.fn x=true∨X.env.scope.names.lookup x=some .local:=by first | exact .inl rfl | exact .inr rfl | assumption):wpAny M A (storeName X.env x u) Q E s:=by
 obtain⟨m,hn,hl⟩:=id I.loc
 have hcls:(X.env.scope.kind == .class||(X.env.scope.kind == .module&&X.env.locals != X.env.globals))=false:=by rw [I.ok.kind]; rfl
 have hiσ:i < σ.length:=by rw [I.len]; exact(y00.mp hi).1
 have cne:=I.cne
 have tracked:∀{a:Addr} {h':Heap},(∃o,s.heap.get? a=some o∧H a=none)→Heap.SameBut a s.heap h'→HOk X.prog X.w H h':=fun {a h'} ha hs b ob e=>by
  obtain⟨_,_,hfree⟩:=ha
  refine(I.hok b ob e).stay (fun c w' hc q=>(hs.2 c ?_).trans q) (fun _ q=>q) fun _ _ q=>q
  rintro rfl
  rcases hc with rfl | hc
  ·rw [hfree] at e; cases e
  ·rw [hfree] at hc; cases hc
 rcases hx with hk | hk
 ·refine wpAny_storeName_local hk hn (fun h' hn' hs=>?_) hcls
  obtain⟨oL,_,_,hoL,_⟩:=id hn
  refine h _ ⟨I.ok,I.os,I.bare,⟨fun b o e n hb hx=>?_,fun b o e n hb hx=>?_,I.base.free,fun b o e hx=>?_,I.base.tups,I.base.frzs,I.base.tbls⟩,⟨_,hn',fun j y v' e1 e2 e3=>?_⟩,fun y c e=>?_,I.free,I.freeC,fun p hp=>?_,tracked ⟨oL,hoL,I.free⟩ hs,by simpa using I.len⟩ ⟨_,hs,.inl rfl⟩
  ·exact(hs.2 b (y10 (y0p (Heap.lt_size e) I.ok.above))).trans (I.base.keep b o e n hb hx)
  ·obtain⟨sl,e1⟩:=I.base.slot b o e n hb hx
   exact⟨sl,(hs.2 b (y10 (y0p (Heap.lt_size e) I.ok.above))).trans e1⟩
  ·obtain⟨o',e1⟩:=I.base.there b o e hx
   exact⟨o',(hs.2 b (y10 (y0p (Heap.lt_size e) I.ok.above))).trans e1⟩
  ·by_cases hj:j=i
   ·subst hj
    rw [hi] at e1; cases e1
    rw [y0t hiσ] at e2
    cases e2
    exact⟨u,r,.inl ⟨hk,by simp⟩⟩
   ·rw [y11 (Ne.symm hj)] at e2
    obtain⟨u',r',q⟩:=hl j y v' e1 e2 e3
    refine⟨u',r',?_⟩
    rcases q with ⟨k,e⟩ | ⟨k,c,e,z⟩
    ·refine .inl ⟨k,?_⟩
     have:y≠x:=fun e=>hj (zcm hN e1 (e▸hi))
     simp [this,e]
    ·exact .inr ⟨k,c,e,z.sameBut hs (cne y c e)⟩
  ·obtain⟨w',z⟩:=I.cell y c e
   exact⟨w',z.sameBut hs (cne y c e)⟩
  ·obtain⟨e,n,ne,nf,d⟩:=I.pin p hp
   exact⟨(hs.2 p.1 ne).trans e,n,ne,nf,d⟩
 ·have hfn:X.fn x=true:=by
   rcases hf with z | z
   ·exact z
   ·rw [z] at hk; cases hk
  obtain⟨c,hc⟩:=I.ok.has x (.inl hk)
  obtain⟨w',z⟩:=I.cell x c hc
  refine wpAny_storeName_cell I.ok.kind hk hc z (fun h' hc' hs=>?_)
  obtain⟨oc,hoc,hocd⟩:=id z
  refine h { s with heap:=h' } ⟨I.ok,I.os,I.bare,⟨fun b o e n hb hx=>?_,fun b o e n hb hx=>?_,I.base.free,fun b o e hx=>?_,I.base.tups,I.base.frzs,I.base.tbls⟩,⟨m,hn.sameBut hs (Ne.symm (cne x c hc)),fun j y v' e1 e2 e3=>?_⟩,fun y c' e=>?_,I.free,I.freeC,fun p hp=>?_,tracked ⟨oc,hoc,I.freeC x c hc⟩ hs,by simpa using I.len⟩ ⟨c,hs,.inr hc⟩
  ·exact(hs.2 b (y10 (y0p (Heap.lt_size e) (I.ok.cab x c hfn hc)))).trans (I.base.keep b o e n hb hx)
  ·obtain⟨sl,e1⟩:=I.base.slot b o e n hb hx
   exact⟨sl,(hs.2 b (y10 (y0p (Heap.lt_size e) (I.ok.cab x c hfn hc)))).trans e1⟩
  ·obtain⟨o',e1⟩:=I.base.there b o e hx
   exact⟨o',(hs.2 b (y10 (y0p (Heap.lt_size e) (I.ok.cab x c hfn hc)))).trans e1⟩
  ·by_cases hj:j=i
   ·subst hj
    rw [hi] at e1; cases e1
    rw [y0t hiσ] at e2
    cases e2
    exact⟨u,r,.inr ⟨.inl hk,c,hc,hc'⟩⟩
   ·rw [y11 (Ne.symm hj)] at e2
    obtain⟨u',r',q⟩:=hl j y v' e1 e2 e3
    refine⟨u',r',?_⟩
    rcases q with q | ⟨k,c',e,z'⟩
    ·exact .inl q
    ·refine .inr ⟨k,c',e,z'.sameBut hs ?_⟩
     rintro rfl
     exact hj (zcm hN e1 (I.ok.inj _ _ _ e hc▸hi))
  ·by_cases hcc:c'=c
   ·subst hcc; exact⟨_,hc'⟩
   ·obtain⟨w2,z2⟩:=I.cell y c' e
    exact⟨w2,z2.sameBut hs hcc⟩
  ·obtain⟨e,n,ne,nf,d⟩:=I.pin p hp
   refine⟨(hs.2 p.1 ?_).trans e,n,ne,nf,d⟩
   intro q
   rw [q,hoc] at e
   have q':oc=p.2:=y12 e
   exact d w' (by rw [←q']; exact hocd)
theorem z98 {M:Model}{A:Around}{E:Value→Shared→Prop}{i:Nat}{x:Str}{v:V}{u:Value}{Q:Unit→Shared→Prop}(I:Inv X pins σ H s)(hN:X.N.Nodup)(hi:X.N[i]?=some x)(hx:Loc X.env.scope x)(r:RelV v u)
  (h:∀s',Inv X pins (σ.set i (some v)) H s'→Q () s') (hf:X.fn x=true∨X.env.scope.names.lookup x=some .local:=by first | exact .inl rfl | exact .inr rfl | assumption):wpAny M A (storeName X.env x u) Q E s :=
 zed I hN hi hx r (fun s' I' _=>h s' I') hf
theorem Inv.call' {s':Shared}{ch:List Addr}(I:Inv X pins σ H s)(ho:s'.os=s.os)(u:Un (frs X.stack) ch H H' s.heap s'.heap)(hok:HOk X.prog X.w H' s'.heap)(hg:AllBare s'.gens)
  (hch:∀b∈ch,(b∈X.ex∨X.s₀.heap.objs.size≤b)∧b≠X.env.locals∧(∀x c,X.env.cells.lookup x=some c→c≠b)∧∀p∈X.pn++pins,p.1≠b):Inv X pins σ H' s':=by
 obtain⟨h',g',d',t',o'⟩:=s'
 have e:o'=s.os:=ho
 subst e
 exact I.call (g':=g') (t':=t') (d':=d') u hok hg hch
end
abbrev XK:=Value→Option Addr→Hp→Prop
abbrev St:=List (Option V)
abbrev VK:=V→Hp→Prop
abbrev TE:=St→Hp→VK→Prop
abbrev TT:=St→Hp→(Bool→Hp→Prop)→Prop
abbrev TA:=St→Hp→(List V→Hp→Prop)→Prop
structure Ends where
 nx:St→Hp→Prop
 rt:VK
 bk:St→Hp→Prop:=fun _ _=>False
 ct:St→Hp→Prop:=fun _ _=>False
abbrev TS:=Ends→St→Hp→Prop
def EP (X:Cx)(pins:List (Addr×Obj))(σ:St)(Q:VK)(u:Value)(s':Shared):Prop:=∃v H',Inv X pins σ H' s'∧RelV v u∧Q v H'
def TP (X:Cx)(pins:List (Addr×Obj))(σ:St)(Q:Bool→Hp→Prop)(b:Bool)(s':Shared):Prop:=∃H',Inv X pins σ H' s'∧Q b H'
def AP (X:Cx)(pins:List (Addr×Obj))(σ:St)(Q:List V→Hp→Prop)(us:List Value)(s':Shared):Prop:=∃vs H',Inv X pins σ H' s'∧Vals vs us∧Q vs H'
def SP (X:Cx)(pins:List (Addr×Obj))(D:Ends)(f:Flow)(s':Shared):Prop :=
 match f with
 | .next=>∃ σ' H',Inv X pins σ' H' s'∧D.nx σ' H'
 | .brk=>∃ σ' H',Inv X pins σ' H' s'∧D.bk σ' H'
 | .cont=>∃ σ' H',Inv X pins σ' H' s'∧D.ct σ' H'
 | .ret u=>∃v σ' H',Inv X pins σ' H' s'∧RelV v u∧D.rt v H'
def PE (X:Cx)(e:Expr)(t:TE):Prop :=
 ∀(pins:List (Addr×Obj)) (s:Shared) (σ:St) (H:Hp) (Q:VK),Inv X pins σ H s→t σ H Q→wpAny (model X.prog X.w) X.A (eval e X.env) (EP X pins σ Q) X.xe s
def PT (X:Cx)(e:Expr)(t:TT):Prop :=
 ∀(pins:List (Addr×Obj)) (s:Shared) (σ:St) (H:Hp) (Q:Bool→Hp→Prop),Inv X pins σ H s→t σ H Q→wpAny (model X.prog X.w) X.A (isTrue e X.env (eval e X.env)) (TP X pins σ Q) X.xe s
def PW (X:Cx)(e:Expr)(t:TT):Prop :=
 ∀(whole:Sem Value) (pins:List (Addr×Obj)) (s:Shared) (σ:St) (H:Hp) (Q:Bool→Hp→Prop),Inv X pins σ H s→t σ H Q→wpAny (model X.prog X.w) X.A (isTrue e X.env whole) (TP X pins σ Q) X.xe s
theorem PW.pt {X:Cx}{e:Expr}{t:TT}(h:PW X e t):PT X e t:=h _
def PA (X:Cx)(es:List Expr)(t:TA):Prop :=
 ∀(pos:Pos) (pins:List (Addr×Obj)) (s:Shared) (σ:St) (H:Hp) (Q:List V→Hp→Prop),Inv X pins σ H s→t σ H Q→wpAny (model X.prog X.w) X.A (spliced (backTo pos (starEach es X.env))) (AP X pins σ Q) X.xe s
def PS (X:Cx)(st:Stmt)(t:TS):Prop :=
 ∀(pins:List (Addr×Obj)) (s:Shared) (σ:St) (H:Hp) (D:Ends),Inv X pins σ H s→t D σ H→wpAny (model X.prog X.w) X.A (exec st X.env) (SP X pins D) X.xe s
def PSs (X:Cx)(st:List Stmt)(t:TS):Prop :=
 ∀(pins:List (Addr×Obj)) (s:Shared) (σ:St) (H:Hp) (D:Ends),Inv X pins σ H s→t D σ H→wpAny (model X.prog X.w) X.A (execs st X.env) (SP X pins D) X.xe s
theorem thn {α:Type}{t:Sem α}{Q Q':α→Shared→Prop}{M:Model}{A:Around}{E:Value→Shared→Prop}{s:Shared}(h:wpAny M A t Q E s)(hQ:∀a s,Q a s→Q' a s):wpAny M A t Q' E s:=wpAny_mono h hQ fun _ _ x=>x
end L2
namespace L2
open PySem PySem.Spec PyProof.Rows
section
variable {X:Cx}
def zqb (i:Nat):TE:=fun σ H Q=>∃v,σ[i]?=some (some v)∧Q v H
def tC (v:V):TE:=fun _ H Q=>Q v H
theorem zn9 {i:Nat}{x:Str}{pos:Pos}(hN:X.N[i]?=some x)(hv:Vis X.env.scope x)(hd:(x==("__debug__":Str))=false:=by decide)(hcd:(x==("__classdict__":Str))=false:=by decide):PE X (.Name x pos) (zqb i):=by
 intro pins s σ H Q I h
 obtain⟨v,e,h⟩:=h
 obtain⟨m,hn,hl⟩:=I.loc
 obtain⟨u,r,l⟩:=hl i x v hN e hv
 have fin:EP X pins σ Q u s:=⟨v,H,I,r,h⟩
 rcases l with ⟨hk,hm⟩ | ⟨hk,c,hc,hcell⟩
 ·exact wpAny_Name (wpAny_loadName_local I.ok.kind hk hn hm fin) hd
 ·rcases hk with hk | hk
  ·exact wpAny_Name (wpAny_loadName_cell I.ok.kind hk hc hcell fin) hd
  ·exact wpAny_Name (wpAny_loadName_free I.ok.kind hk hc hcell fin hcd) hd
theorem z07 {i j pos}:PE X (.Constant (.int i) j pos) (tC (.int i)):=fun _ _ _ H _ I h=>wpAny_Constant_int ⟨.int i,H,I.tok _,⟨_,rfl⟩,h⟩
theorem z9m {b j pos}:PE X (.Constant (.bool b) j pos) (tC (.bl b)):=fun _ _ _ H _ I h=>Constant_bool ⟨.bl b,H,I,rfl,h⟩
def Gl (X:Cx)(x:Str):Prop:=X.env.kindOf x=some .globalImplicit
theorem zgu {E:Value→Shared→Prop}{pins:List (Addr×Obj)}{s:Shared}{σ:St}{H:Hp}{x:Str}{u:Value}{pos:Pos}{Q:Value→Shared→Prop}(I:Inv X pins σ H s)(hg:Gl X x)(hm:X.mg x=some u)(h:Q u s)
  (hd:(x==("__debug__":Str))=false:=by decide):wpAny (model X.prog X.w) X.A (eval (.Name x pos) X.env) Q E s :=
 Calls.Name_function_global I.ok.kind hg (Calls.loadGlobal_global (by rw [I.ok.glob]; exact I.mod.glob.keeps I.bk) hm h) hd
theorem z5z {E:Value→Shared→Prop}{pins:List (Addr×Obj)}{s:Shared}{σ:St}{H:Hp}{x:Str}{u:Value}{pos:Pos}{Q:Value→Shared→Prop}(I:Inv X pins σ H s)(hg:Gl X x)(hm:X.mg x=none)(hv:bootBuiltins x=some u)(h:Q u s)
  (hn:x ≠ "__name__":=by decide) (hd:(x==("__debug__":Str))=false:=by decide):wpAny (model X.prog X.w) X.A (eval (.Name x pos) X.env) Q E s:=by
 obtain⟨mb,h1,h2⟩:=I.mod.blt
 exact Calls.Name_function_global I.ok.kind hg (Calls.loadGlobal_builtin (by rw [I.ok.glob]; exact I.mod.glob.keeps I.bk) hm (by rw [I.ok.blt]; exact h1.keeps I.bk) ((h2 x hn).trans hv) h) hd
theorem zko {x:Str}{v:V}{u:Value}{pos:Pos}(hg:Gl X x)(hm:X.mg x=none)(hv:bootBuiltins x=some u)(r:RelV v u)(hn:x ≠ "__name__":=by decide)(hd:(x==("__debug__":Str))=false:=by decide):PE X (.Name x pos) (tC v) :=
 fun _ _ _ H _ I h=>z5z I hg hm hv ⟨v,H,I,r,h⟩ hn hd
variable {a b:Expr}{ta tb:TE}{pos:Pos}
variable {tA tB':TT}{rest:List Expr}
def zor (t u:TT):TT:=fun σ H Q=>t σ H fun c H1=>if c=true then u σ H1 Q else Q false H1
def tOr (t u:TT):TT:=fun σ H Q=>t σ H fun c H1=>if c=true then Q true H1 else u σ H1 Q
def zot (t:TT):TT:=fun σ H Q=>t σ H fun c H1=>Q (!c) H1
theorem z7i (ha:PT X a tA):PW X (.BoolOp .And [a] pos) tA:=by
 intro wh pins s σ H Q I h
 refine isTrue_and (thn (ha pins s σ H Q I h) fun c s1 e=>?_)
 cases c with
 | true=>exact isTrue_and_nil e
 | false=>exact e
theorem z8s (ha:PT X a tA):PW X (.BoolOp .Or [a] pos) tA:=by
 intro wh pins s σ H Q I h
 refine isTrue_or (thn (ha pins s σ H Q I h) fun c s1 e=>?_)
 cases c with
 | false=>exact isTrue_or_nil e
 | true=>exact e
theorem zaj (ha:PT X a tA)(hb:PW X (.BoolOp .And (b::rest) pos) tB'):PW X (.BoolOp .And (a::b::rest) pos) (zor tA tB'):=by
 intro wh pins s σ H Q I h
 refine isTrue_and (thn (ha pins s σ H _ I h) fun c s1 ⟨H1,I1,q1⟩=>?_)
 cases c with
 | true=>exact hb wh pins s1 σ H1 Q I1 q1
 | false=>exact⟨H1,I1,q1⟩
theorem zbn (ha:PT X a tA)(hb:PW X (.BoolOp .Or (b::rest) pos) tB'):PW X (.BoolOp .Or (a::b::rest) pos) (tOr tA tB'):=by
 intro wh pins s σ H Q I h
 refine isTrue_or (thn (ha pins s σ H _ I h) fun c s1 ⟨H1,I1,q1⟩=>?_)
 cases c with
 | true=>exact⟨H1,I1,q1⟩
 | false=>exact hb wh pins s1 σ H1 Q I1 q1
theorem z51 (ha:PT X a tA):PT X (.UnaryOp .Not a pos) (zot tA):=by
 intro pins s σ H Q I h
 exact isTrue_not (ha pins s σ H (fun c H1=>Q (!c) H1) I h)
theorem z7u {op}{t:TE}(h:PE X a t):PE X (.BoolOp op [a] pos) t:=fun pins s σ H Q I hw=>BoolOp_one (h pins s σ H Q I hw)
def tIf (t:TT)(ta tb:TE):TE:=fun σ H Q=>t σ H fun c H1=>if c=true then ta σ H1 Q else tb σ H1 Q
theorem z94 {c:Expr}(hc:PT X c tA)(ha:PE X a ta)(hb:PE X b tb):PE X (.IfExp c a b pos) (tIf tA ta tb):=by
 intro pins s σ H Q I h
 refine wpAny_IfExp (thn (hc pins s σ H _ I h) fun d s1 ⟨H1,I1,q1⟩=>?_)
 cases d with
 | true=>exact ha pins s1 σ H1 Q I1 q1
 | false=>exact hb pins s1 σ H1 Q I1 q1
end
end L2
namespace L2
open PySem PySem.Spec PyProof.Rows
def SqL (K:y03)(H:Hp)(a:Addr)(xs:List V):Prop :=
 Rd H a (.lst xs) ∨
  ∃(o:Obj) (its:Array Value) (n:Nat),K.lookup a=some o∧o.cls = .type "list"∧o.dict=none∧o.data = .seq its n∧its.size≤sizeLine∧Vals xs its.toList
def SqT (K:y03)(H:Hp)(a:Addr)(xs:List V):Prop :=
 Rd H a (.tup xs) ∨
  ∃(o:Obj) (its:Array Value) (n:Nat),K.lookup a=some o∧o.cls = .type "tuple"∧o.data = .seq its n∧its.size≤sizeLine∧Vals xs its.toList
def zpn:Value→Option V
 | .none=>some .non
 | .bool b=>some (.bl b)
 | .int i _=>some (.int i)
 | .str x _=>some (.str x)
 | .bytes b _=>some (.byt b)
 | .float b _=>some (.flt b)
 | .ref a=>some (.ref a)
 | .type n=>some (.ty n)
 | _=>none
theorem RelV.abs {x:V}{u:Value}(r:RelV x u):zpn u=some x:=by
 cases x with
 | non=>cases r; rfl
 | bl _=>cases r; rfl
 | int _=>obtain⟨t,rfl⟩:=r; rfl
 | str _=>obtain⟨t,rfl⟩:=r; rfl
 | byt _=>obtain⟨t,rfl⟩:=r; rfl
 | flt _=>obtain⟨t,rfl⟩:=r; rfl
 | ref _=>cases r; rfl
 | ty _=>cases r; rfl
theorem RelV.inj {x y:V}{u:Value}(r:RelV x u)(q:RelV y u):x=y:=y12 (r.abs.symm.trans q.abs)
theorem Vals.inj:∀{xs ys:List V} {us:List Value},Vals xs us→Vals ys us→xs=ys
 | _,_,_,.nil,.nil=>rfl
 | _,_,_,.cons r t,.cons r' t'=>by rw [r.inj r',Vals.inj t t']
section
variable {X:Cx}{pins:List (Addr×Obj)}{σ:St}{H:Hp}{s:Shared}{a:Addr}{xs ys:List V}
theorem SqL.of {K:y03}(h:H a=some (.lst xs)):SqL K H a xs:=.inl (.inl h)
theorem SqT.of {K:y03}(h:H a=some (.tup xs)):SqT K H a xs:=.inl (.inl h)
theorem Inv.list (I:Inv X pins σ H s)(h:SqL X.K H a xs):∃its:List Value,Vals xs its∧PlainL s.heap a its.toArray∧xs.length≤sizeLine:=by
 rcases h with h | ⟨o,its,n,hk,hc,hd,hs,hz,r⟩
 ·obtain⟨z,its,n,r,e⟩:=h.ok I.hok
  exact⟨its,r,⟨_,n,e,rfl,rfl,rfl⟩,z⟩
 ·refine⟨its.toList,r,⟨o,n,I.kIn a o hk,hc,hd,by simpa using hs⟩,?_⟩
  have e:=r.length
  simp only [y5v] at e
  omega
theorem Inv.tuple (I:Inv X pins σ H s)(h:SqT X.K H a xs):∃its:List Value,Vals xs its∧IsTup s.heap a its.toArray∧xs.length≤sizeLine:=by
 rcases h with h | ⟨o,its,n,hk,hc,hs,hz,r⟩
 ·obtain⟨z,its,r,p⟩:=h.ok I.hok
  exact⟨its,r,p,z⟩
 ·refine⟨its.toList,r,⟨o,I.kIn a o hk,hc,n,by simpa using hs⟩,?_⟩
  have e:=r.length
  simp only [y5v] at e
  omega
theorem Inv.list_inj (I:Inv X pins σ H s)(h:SqL X.K H a xs)(h':SqL X.K H a ys):xs=ys:=by
 obtain⟨its,r,⟨o,n,e,_,_,d⟩,_⟩:=I.list h
 obtain⟨its',r',⟨o',n',e',_,_,d'⟩,_⟩:=I.list h'
 rw [e] at e'; cases e'
 rw [d] at d'
 injection d' with d1 _
 have:its=its':=by simpa using congrArg Array.toList d1
 subst this
 exact r.inj r'
theorem Inv.tuple_inj (I:Inv X pins σ H s)(h:SqT X.K H a xs)(h':SqT X.K H a ys):xs=ys:=by
 obtain⟨its,r,⟨o,e,_,n,d⟩,_⟩:=I.tuple h
 obtain⟨its',r',⟨o',e',_,n',d'⟩,_⟩:=I.tuple h'
 rw [e] at e'; cases e'
 rw [d] at d'
 injection d' with d1 _
 have:its=its':=by simpa using congrArg Array.toList d1
 subst this
 exact r.inj r'
end
abbrev Cx.wish (X:Cx)(E:Value→Shared→Prop):Cx:={ X with xe:=E }
abbrev Cx.nox (X:Cx):Cx:=X.wish fun _ _=>False
theorem Cx.Ok.wish {X:Cx}(ok:X.Ok)(E:Value→Shared→Prop):(X.wish E).Ok :=
 ⟨ok.mod,ok.kind,ok.glob,ok.blt,ok.above,ok.inj,ok.has,ok.cab,ok.hd,ok.frames,ok.stk,ok.exf,ok.bs,ok.bsz,ok.noex,ok.exfs,ok.funs,ok.frf⟩
theorem Cx.Ok.unwish {X:Cx}{E:Value→Shared→Prop}(ok:(X.wish E).Ok):X.Ok :=
 ⟨ok.mod,ok.kind,ok.glob,ok.blt,ok.above,ok.inj,ok.has,ok.cab,ok.hd,ok.frames,ok.stk,ok.exf,ok.bs,ok.bsz,ok.noex,ok.exfs,ok.funs,ok.frf⟩
section
variable {X:Cx}{pins:List (Addr×Obj)}{σ:St}{H:Hp}{s:Shared}{E:Value→Shared→Prop}
theorem Inv.wish (I:Inv X pins σ H s)(E:Value→Shared→Prop):Inv (X.wish E) pins σ H s:=⟨I.ok.wish E,I.os,I.bare,I.base,I.loc,I.cell,I.free,I.freeC,I.pin,I.hok,I.len⟩
theorem Inv.unwish (I:Inv (X.wish E) pins σ H s):Inv X pins σ H s:=⟨I.ok.unwish,I.os,I.bare,I.base,I.loc,I.cell,I.free,I.freeC,I.pin,I.hok,I.len⟩
theorem SP.unwish {D:Ends}{f:Flow}{s':Shared}(h:SP (X.wish E) pins D f s'):SP X pins D f s':=by
 cases f with
 | next=>obtain⟨σ',H',I,q⟩:=h; exact⟨σ',H',I.unwish,q⟩
 | brk=>obtain⟨σ',H',I,q⟩:=h; exact⟨σ',H',I.unwish,q⟩
 | cont=>obtain⟨σ',H',I,q⟩:=h; exact⟨σ',H',I.unwish,q⟩
 | ret u=>obtain⟨v,σ',H',I,r,q⟩:=h; exact⟨v,σ',H',I.unwish,r,q⟩
theorem PSs.nox {st:List Stmt}{t:TS}(h:PSs X.nox st t):PSs X st t:=fun pins s σ H D I hw =>
 wpAny_mono (h pins s σ H D (I.wish _) hw) (fun _ _ q=>q.unwish) fun _ _ z=>False.elim z
end
section
variable {X:Cx}{st:Stmt}{rest:List Stmt}{t u:TS}{e:Expr}{te:TE}{pos:Pos}
def zkm:TS:=fun D σ H=>D.nx σ H
def zpf (t u:TS):TS:=fun D σ H=>t { D with nx:=u D } σ H
theorem z1r:PSs X [] zkm:=fun _ _ σ H _ I h=>wpAny_execs_nil ⟨σ,H,I,h⟩
theorem z02 (h1:PS X st t)(h2:PSs X rest u):PSs X (st::rest) (zpf t u):=by
 intro pins s σ H D I h
 refine wpAny_execs_cons (thn (h1 pins s σ H { D with nx:=u D } I h) fun f s1 q=>?_)
 cases f with
 | next =>
  obtain⟨σ',H',I',q⟩:=q
  exact h2 pins s1 σ' H' D I' q
 | ret v=>exact q
 | brk=>exact q
 | cont=>exact q
theorem z08 (h1:PS X st t):PSs X [st] t:=by
 intro pins s σ H D I h
 refine wpAny_execs_cons (thn (h1 pins s σ H D I h) fun f s1 q=>?_)
 cases f with
 | next=>exact wpAny_execs_nil q
 | ret v=>exact q
 | brk=>exact q
 | cont=>exact q
theorem Inv.quiet {pins:List (Addr×Obj)}{σ:St}{H:Hp}{s:Shared}(I:Inv X pins σ H s):interactive X.env=false:=by simp [interactive,I.ok.kind]
def zlr (te:TE):TS:=fun D σ H=>te σ H fun _ H1=>D.nx σ H1
theorem z20 (he:PE X e te)(hs:swapsWith e none pos.line X.env=pure false:=by rfl):PS X (.Expr e pos) (zlr te):=by
 intro pins s σ H D I h
 exact wpAny_Expr_any (thn (he pins s σ H _ I h) fun v s1 ⟨x,H1,I1,r1,q1⟩=>⟨σ,H1,I1,q1⟩) I.quiet hs
def zny (te:TE):TS:=fun D σ H=>te σ H D.rt
theorem z0s (he:PE X e te):PS X (.Return (some e) pos) (zny te):=by
 intro pins s σ H D I h
 exact wpAny_Return_some (thn (he pins s σ H _ I h) fun v s1 ⟨x,H1,I1,r1,q1⟩=>⟨x,σ,H1,I1,r1,q1⟩)
def zom (c:TT)(t u:TS):TS:=fun D σ H=>c σ H fun b H1=>if b=true then t D σ H1 else u D σ H1
theorem z3k {c:Expr}{a b:List Stmt}{tc:TT}(hc:PT X c tc)(ha:PSs X a t)(hb:PSs X b u):PS X (.If c a b pos) (zom tc t u):=by
 intro pins s σ H D I h
 refine wpAny_If (thn (hc pins s σ H _ I h) fun d s1 ⟨H1,I1,q1⟩=>?_)
 cases d with
 | true=>exact ha pins s1 σ H1 D I1 q1
 | false=>exact hb pins s1 σ H1 D I1 q1
end
abbrev TG:=V→St→Hp→(St→Hp→Prop)→Prop
abbrev TGs:=List V→St→Hp→(St→Hp→Prop)→Prop
def PG (X:Cx)(target:Expr)(t:TG):Prop :=
 ∀(pins:List (Addr×Obj)) (s:Shared) (σ:St) (H:Hp) (v:V) (u:Value) (Q:St→Hp→Prop),Inv X pins σ H s→RelV v u→t v σ H Q →
  wpAny (model X.prog X.w) X.A (assign target X.env u) (fun _ s'=>∃ σ' H',Inv X pins σ' H' s'∧Q σ' H') X.xe s
def PGs (X:Cx)(ts:List Expr)(t:TGs):Prop :=
 ∀(pins:List (Addr×Obj)) (s:Shared) (σ:St) (H:Hp) (vs:List V) (us:List Value) (Q:St→Hp→Prop),Inv X pins σ H s→Vals vs us→t vs σ H Q →
  wpAny (model X.prog X.w) X.A (assignInOrder ((assignEach ts X.env).map (·.2)) us) (fun _ s'=>∃ σ' H',Inv X pins σ' H' s'∧Q σ' H') X.xe s
abbrev zm1:=V→V→V→Hp→(Hp→Prop)→Prop
def zns (X:Cx)(t:zm1):Prop :=
 ∀(pins:List (Addr×Obj)) (s:Shared) (σ:St) (H:Hp) (o i v:V) (ov iv u:Value) (Q:Hp→Prop),Inv X pins σ H s→RelV o ov→RelV i iv→RelV v u→t o i v H Q →
  wpAny (model X.prog X.w) X.A (setItem ov iv u) (fun _ s'=>∃H',Inv X pins σ H' s'∧Q H') X.xe s
abbrev TIp:=V→V→Hp→VK→Prop
def PIp (X:Cx)(op:Operator)(t:TIp):Prop :=
 ∀(pins:List (Addr×Obj)) (s:Shared) (σ:St) (H:Hp) (x y:V) (v u:Value) (Q:VK),Inv X pins σ H s→RelV x v→RelV y u→t x y H Q →
  wpAny (model X.prog X.w) X.A (inplaceOp op v u) (EP X pins σ Q) X.xe s
section
variable {X:Cx}{pos:Pos}
def z3x (i:Nat):TG:=fun v σ H Q=>Q (σ.set i (some v)) H
theorem zkq {i:Nat}{x:Str}(hN:X.N.Nodup)(hi:X.N[i]?=some x)(hx:Loc X.env.scope x)(hf:X.fn x=true∨X.env.scope.names.lookup x=some .local:=by first | exact .inl rfl | exact .inr rfl | assumption):PG X (.Name x pos) (z3x i):=by
 intro pins s σ H v u Q I r h
 exact wpAny_assign_Name (z98 I hN hi hx r (fun s' I'=>⟨_,H,I',h⟩) hf)
def zps:TGs:=fun vs σ H Q=>vs = []∧Q σ H
def zou (t:TG)(u:TGs):TGs:=fun vs σ H Q=>∃v r,vs=v::r∧t v σ H fun σ' H'=>u r σ' H' Q
theorem zee:PGs X [] zps:=by
 intro pins s σ H vs us Q I r h
 obtain⟨e,h⟩:=h
 subst e
 cases r
 exact assignInOrder_nil ⟨σ,H,I,h⟩
theorem z5c {e:Expr}{es:List Expr}{t:TG}{u:TGs}(h1:PG X e t)(h2:PGs X es u)
  (hs:(assignEach (e::es) X.env).map (·.2)=assign e X.env::(assignEach es X.env).map (·.2):=by rfl):PGs X (e::es) (zou t u):=by
 intro pins s σ H vs us Q I r h
 obtain⟨v,vr,e1,h⟩:=h
 subst e1
 cases r with
 | cons r rr =>
  rw [hs]
  refine assignInOrder_cons (thn (h1 pins s σ H _ _ _ I r h) fun _ s1 ⟨σ1,H1,I1,q1⟩=>?_)
  exact h2 pins s1 σ1 H1 _ _ Q I1 rr q1
def zq9 (K:y03)(n:Nat)(t:TGs):TG:=fun v σ H Q=>∃a xs,v = .ref a∧SqT K H a xs∧xs.length=n∧t xs σ H Q
theorem zjw {es:List Expr}{k:Nat}{t:TGs}{n:Nat}(hc:X.calm=true)(h:PGs X es t)
  (hn:(assignEach es X.env).length=n:=by rfl) (hst:(assignEach es X.env).findIdx? (·.1)=none:=by rfl):PG X (.Tuple es k pos) (zq9 X.K n t):=by
 intro pins s σ H v u Q I r hw
 obtain⟨a,xs,e1,hq,hl,hw⟩:=hw
 subst e1
 cases r
 obtain⟨its,rv,ht,hz⟩:=I.tuple hq
 refine assign_Tuple_tuple (I.ok.hd hc) ht (by simp [hn,←hl,rv.length]) hst fun h' hx=>?_
 have I1:Inv X pins σ H { s with heap:=h' }:=I.kept (t':=s.toks) fun b o e=>hx b o (y10 (Heap.lt_size e)) e
 exact h pins _ σ H xs _ Q I1 (by simpa using rv) hw
def zow (to ti:TE)(t:zm1):TG:=fun v σ H Q=>to σ H fun o H1=>ti σ H1 fun i H2=>t o i v H2 fun H3=>Q σ H3
theorem zav {o i:Expr}{to ti:TE}{t:zm1}(ho:PE X o to)(hi:PE X i ti)(hs:zns X t)
  (ha:∀v,assign (.Subscript o i pos) X.env v=(do
   let ov ←holding [v] (eval o X.env)
   let iv ←holding [v,ov] (eval i X.env)
   standAt pos
   holding [v,ov,iv] (setItem ov iv v)
   release [v,ov,iv] []):=by intro _; rfl):PG X (.Subscript o i pos) (zow to ti t):=by
 intro pins s σ H v u Q I r h
 rw [ha]
 refine wpAny_bind (wpAny_holding (thn (ho pins s σ H _ I h) fun ov s1 ⟨x,H1,I1,r1,q1⟩=>?_))
 refine wpAny_bind (wpAny_holding (thn (hi pins s1 σ H1 _ I1 q1) fun iv s2 ⟨y,H2,I2,r2,q2⟩=>?_))
 refine wpAny_bind (wpAny_standAt (wpAny_bind (wpAny_holding (thn (hs pins s2 σ H2 x y v ov iv u _ I2 r1 r2 r q2) fun _ s3 ⟨H3,I3,q3⟩=>?_))))
 exact wpAny_release ⟨σ,H3,I3,q3⟩
def zlb (te:TE)(g:TG):TS:=fun D σ H=>te σ H fun x H1=>g x σ H1 D.nx
theorem z8v {tg e:Expr}{te:TE}{g:TG}(he:PE X e te)(hg:PG X tg g)(hs:swapsWithSole [tg] e pos.line X.env=pure false:=by rfl)(hw:swappedStores [tg] e X.env=pure none:=by rfl)
  (h1:(assignEach [tg] X.env).map (·.2) = [assign tg X.env]:=by rfl):PS X (.Assign [tg] e pos) (zlb te g):=by
 intro pins s σ H D I h
 refine wpAny_Assign_stores (thn (he pins s σ H _ I h) fun v s1 ⟨x,H1,I1,r1,q1⟩=>?_) hs hw
 rw [h1]
 exact thn (hg pins s1 σ H1 x v _ I1 r1 q1) fun _ s2 q=>q
theorem zna {i:Nat}{x:Str}{e:Expr}{te:TE}{pos':Pos}(hN:X.N.Nodup)(hi:X.N[i]?=some x)(hx:Loc X.env.scope x)(he:PE X e te)(hs:swapsWith e (some (.Name x pos')) pos.line X.env=pure false:=by rfl)(hf:X.fn x=true∨X.env.scope.names.lookup x=some .local:=by first | exact .inl rfl | exact .inr rfl | assumption) :
  PS X (.Assign [.Name x pos'] e pos) (zlb te (z3x i)):=by
 intro pins s σ H D I h
 refine wpAny_Assign_Name (thn (he pins s σ H _ I h) fun v s1 ⟨y,H1,I1,r1,q1⟩=>?_) hs
 exact z98 I1 hN hi hx r1 (fun s2 I2=>⟨_,H1,I2,q1⟩) hf
def zkb (to ti te:TE)(tget:V→V→Hp→VK→Prop)(tip:TIp)(tset:zm1):TS:=fun D σ H=>to σ H fun o H1=>ti σ H1 fun i H2=>tget o i H2 fun x H3=>te σ H3 fun y H4=>tip x y H4 fun z H5=>tset o i z H5 fun H6=>D.nx σ H6
def zpd (X:Cx)(t:V→V→Hp→VK→Prop):Prop :=
 ∀(pins:List (Addr×Obj)) (s:Shared) (σ:St) (H:Hp) (o i:V) (ov iv:Value) (Q:VK),Inv X pins σ H s→RelV o ov→RelV i iv→t o i H Q →
  wpAny (model X.prog X.w) X.A (getItem ov iv) (EP X pins σ Q) X.xe s
theorem z5b {o i e:Expr}{to ti te:TE}{tget:V→V→Hp→VK→Prop}{tip:TIp}{tset:zm1}{op:Operator}{tpos:Pos}(ho:PE X o to)(hi:PE X i ti)(hg:zpd X tget)(he:PE X e te)(hp:PIp X op tip)(hs:zns X tset)
  (ha:∀ov iv new,augStore i ov iv new=(do holding [new,ov,iv] (setItem ov iv new); release [new,ov,iv] []; pure .next):=by intros; rfl):PS X (.AugAssign (.Subscript o i tpos) op e pos) (zkb to ti te tget tip tset):=by
 intro pins s σ H D I h
 refine wpAny_AugAssign_SubscriptAny (thn (ho pins s σ H _ I h) fun ov s1 ⟨x1,H1,I1,r1,q1⟩=>?_) ha
 refine thn (hi pins s1 σ H1 _ I1 q1) fun iv s2 ⟨x2,H2,I2,r2,q2⟩=>?_
 refine thn (hg pins s2 σ H2 x1 x2 ov iv _ I2 r1 r2 q2) fun old s3 ⟨x3,H3,I3,r3,q3⟩=>?_
 refine thn (he pins s3 σ H3 _ I3 q3) fun v s4 ⟨x4,H4,I4,r4,q4⟩=>?_
 refine thn (hp pins s4 σ H4 x3 x4 old v _ I4 r3 r4 q4) fun new s5 ⟨x5,H5,I5,r5,q5⟩=>?_
 exact thn (hs pins s5 σ H5 x1 x2 x5 ov iv new _ I5 r1 r2 r5 q5) fun _ s6 ⟨H6,I6,q6⟩=>⟨σ,H6,I6,q6⟩
def ipI (f:Int→Int→Int):TIp:=fun x y H Q=>∃i j,x = .int i∧y = .int j∧Q (.int (f i j)) H
theorem zmg:PIp X .Add (ipI fun i j=>i+j):=by
 intro pins s σ H x y v u Q I r1 r2 h
 obtain⟨i,j,e1,e2,q⟩:=h
 subst e1; subst e2
 obtain⟨t,rfl⟩:=r1
 obtain⟨t',rfl⟩:=r2
 exact iadd_int ⟨.int _,H,I.tok _,⟨_,rfl⟩,q⟩
theorem zn7:PIp X .Sub (ipI fun i j=>i - j):=by
 intro pins s σ H x y v u Q I r1 r2 h
 obtain⟨i,j,e1,e2,q⟩:=h
 subst e1; subst e2
 obtain⟨t,rfl⟩:=r1
 obtain⟨t',rfl⟩:=r2
 exact isub_int ⟨.int _,H,I.tok _,⟨_,rfl⟩,q⟩
end
section
variable {X:Cx}{pos:Pos}
end
structure It where
 go:Nat→Hp→Prop
 yld:Nat→Hp→V→Hp→Prop
 stop:Nat→Hp→Prop
def zfz (X:Cx)(pins:List (Addr×Obj))(H:Hp)(b:Addr):Prop :=
 H b=none∧b≠X.env.locals∧b ∉ X.fs∧(b∈X.ex∨X.s₀.heap.objs.size≤b)∧(∀x c,X.env.cells.lookup x=some c→c≠b)∧∀p∈X.pn++pins,p.1≠b
theorem Inv.fpOk {X:Cx}{pins:List (Addr×Obj)}{σ:St}{H H':Hp}{s:Shared}{b:Addr}(I:Inv X pins σ H s)(hb:s.heap.objs.size≤b)(hn:H' b=none):zfz X pins H' b:=by
 refine⟨hn,y3a (y0p I.lt hb),I.nofs hb,.inr (y1a I.sz hb),fun x c e z=>?_,fun p hp z=>?_⟩
 ·obtain⟨v,q⟩:=I.cell x c e
  exact absurd (y0p q.lt (by rw [z]; exact hb)) (y2q _)
 ·exact absurd (y0p (Heap.lt_size (I.pin p hp).1) (by rw [z]; exact hb)) (y2q _)
structure Turn (P:Program)(w:World)(K:y03)(tg:Expr)(J:It)(fp:List Addr)(it:Addr)(tn:Nat→Heap→Prop):Prop where
 mem:it∈fp
 obj:∀i h,tn i h→∀b∈fp,∃o,h.get? b=some o∧∀v,o.data ≠ .cell v
 keep:∀i h h',tn i h→(∀b∈fp,∀o,h.get? b=some o→h'.get? b=some o)→tn i h'
 item:∀(X:Cx),X.prog=P→X.w=w→X.K=K→X.calm=true→∀(i:Nat) (pins:List (Addr×Obj)) (s:Shared) (σ:St) (H:Hp) (E:Value→Shared→Prop),Inv X pins σ H s→(∀b∈fp,zfz X pins H b)→tn i s.heap→J.go i H →
  wpAny (model P w) X.A (pyNext (.ref it)) (fun r s1=>∃u,r=some u ∧
   wpAny (model P w) X.A (letOwnedTupleGo tg (.ref it) u) (fun _ s2=>∃x H',Inv X pins σ H' s2∧RelV x u∧J.yld i H x H'∧tn (i+1) s2.heap∧∀b∈fp,H' b=none) E s1) E s
 done:∀(X:Cx),X.prog=P→X.w=w→X.K=K→X.calm=true→∀(i:Nat) (pins:List (Addr×Obj)) (s:Shared) (σ:St) (H:Hp) (E:Value→Shared→Prop),Inv X pins σ H s→(∀b∈fp,zfz X pins H b)→tn i s.heap→J.stop i H →
  wpAny (model P w) X.A (pyNext (.ref it)) (fun r s1=>r=none∧Inv X pins σ H s1) E s
 self:∀(A:Around) (i:Nat) (s:Shared) (Q:Value→Shared→Prop) (E:Value→Shared→Prop),tn i s.heap→Q (.ref it) s→wpAny (model P w) A (pyIter (.ref it)) Q E s
abbrev TI:=St→Hp→(It→Hp→Prop)→Prop
def PIE (X:Cx)(pins:List (Addr×Obj))(σ:St)(tg:Expr)(R:It→Hp→Prop)(itv:Value)(s2:Shared):Prop :=
 ∃(it:Addr) (fp:List Addr) (tn:Nat→Heap→Prop) (J:It) (H':Hp),itv = .ref it∧Inv X pins σ H' s2∧Turn X.prog X.w X.K tg J fp it tn∧tn 0 s2.heap∧(∀b∈fp,zfz X pins H' b)∧R J H'
def PI (X:Cx)(tg iter:Expr)(wi:TI):Prop :=
 ∀(pins:List (Addr×Obj)) (s:Shared) (σ:St) (H:Hp) (R:It→Hp→Prop),Inv X pins σ H s→wi σ H R →
  wpAny (model X.prog X.w) X.A (eval iter X.env) (fun v s1=>wpAny (model X.prog X.w) X.A (pyIter v) (PIE X pins σ tg R) X.xe s1) X.xe s
theorem zk5 {M:Model}{A:Around}{E:Value→Shared→Prop}{s:Shared}{tg:Expr}{it:Addr}{u:Value}{o:Obj}{n:String}{vs:Array Value}{Q:Unit→Shared→Prop}(ho:s.heap.get? it=some o)(hc:o.cls = .type n)(hd:o.data = .fields vs)
  (hn:["enumerate","zip","dict_itemiterator","dict_reverseitemiterator","odict_iterator","itertools.zip_longest","itertools.pairwise"].contains n=false) (hQ:Q () s):wpAny M A (letOwnedTupleGo tg (.ref it) u) Q E s:=by
 unfold letOwnedTupleGo
 cases tg<;>first
  | exact wpAny_pure hQ
  | (cases u<;>first
    | exact wpAny_pure hQ
    | (refine wpAny_bind (wpAny_load ho ?_)
       rw [hc,hd]
       show wpAny M A (if (["enumerate","zip","dict_itemiterator","dict_reverseitemiterator","odict_iterator","itertools.zip_longest","itertools.pairwise"].contains n&&vs[0]?==some (rawInt _))=true then _ else _) Q E s
       rw [if_neg (by intro h; rw [hn,y5u] at h; cases h)]
       exact wpAny_pure hQ))
def Itl (K:y03)(a:Addr):It :=
 ⟨fun i H=>∃xs x,SqL K H a xs∧xs[i]?=some x,fun i H x H'=>H'=H∧∀xs,SqL K H a xs→xs[i]?=some x,fun i H=>∃xs,SqL K H a xs∧xs.length≤i⟩
def Itt (K:y03)(a:Addr):It :=
 ⟨fun i H=>∃xs x,SqT K H a xs∧xs[i]?=some x,fun i H x H'=>H'=H∧∀xs,SqT K H a xs→xs[i]?=some x,fun i H=>∃xs,SqT K H a xs∧xs.length≤i⟩
def Itr (lo:Int)(n:Nat):It:=⟨fun i _=>i<n,fun i H x H'=>H'=H∧x = .int (lo+i),fun i _=>n≤i⟩
theorem zfj {P:Program}{w:World}{K:y03}{tg:Expr}(a it:Addr):Turn P w K tg (Itl K a) [it] it (fun i h=>h.IsListIter it a i) where
 mem:=by simp
 obj:=fun i h st b hb=>by
  have e:b=it:=by simpa using hb
  subst e
  obtain⟨o,e,c,d⟩:=st
  exact⟨o,e,fun v z=>by rw [d] at z; cases z⟩
 keep:=fun i h h' st k=>st.at fun o e=>k it (by simp) o e
 item:=by
  intro X hP hw hK hc i pins s σ H E I hf st hg
  subst hP hw hK
  obtain⟨xs,x,hq,hx⟩:=hg
  obtain⟨its,rv,p,hz⟩:=I.list hq
  obtain⟨u,hu,ru⟩:=rv.get hx
  obtain⟨f0,f1,f2,f3,f4,f5⟩:=hf it (by simp)
  refine wpAny_pyNext_list_item st p.isList (x:=u) (by simpa using hu) fun h' st' sb=>?_
  have I1:Inv X pins σ H { s with heap:=h' }:=I.turned (t':=s.toks) (fun b o hb e=>(sb.2 b hb).trans e) f0 f1 f3 f4 f5
  obtain⟨o,e,c,d⟩:=id st'
  exact⟨u,rfl,zk5 (s:={ s with heap:=h' }) e c d (by decide) ⟨x,H,I1,ru,⟨rfl,fun ys hy=>by rw [I.list_inj hy hq]; exact hx⟩,st',fun b hb=>(hf b hb).1⟩⟩
 done:=by
  intro X hP hw hK hc i pins s σ H E I hf st hg
  subst hP hw hK
  obtain⟨xs,hq,hx⟩:=hg
  obtain⟨its,rv,p,hz⟩:=I.list hq
  obtain⟨f0,f1,f2,f3,f4,f5⟩:=hf it (by simp)
  have hl:=rv.length
  exact wpAny_pyNext_list_end (I.ok.hd hc) st p.isList (by simp; omega) fun h' eb=>⟨rfl,I.turned (t':=s.toks) (fun b o hb e=>eb b o hb e) f0 f1 f3 f4 f5⟩
 self:=fun _ _ _ _ _ st h=>wpAny_pyIter_listiter st h
theorem zdf {P:Program}{w:World}{K:y03}{tg:Expr}(a it:Addr):Turn P w K tg (Itt K a) [it] it (fun i h=>h.IsTupleIter it a i) where
 mem:=by simp
 obj:=fun i h st b hb=>by
  have e:b=it:=by simpa using hb
  subst e
  obtain⟨o,e,c,d⟩:=st
  exact⟨o,e,fun v z=>by rw [d] at z; cases z⟩
 keep:=fun i h h' st k=>st.at fun o e=>k it (by simp) o e
 item:=by
  intro X hP hw hK hc i pins s σ H E I hf st hg
  subst hP hw hK
  obtain⟨xs,x,hq,hx⟩:=hg
  obtain⟨its,rv,p,hz⟩:=I.tuple hq
  obtain⟨u,hu,ru⟩:=rv.get hx
  obtain⟨f0,f1,f2,f3,f4,f5⟩:=hf it (by simp)
  refine wpAny_pyNext_tuple_item st (show s.heap.IsTuple a its.toArray from p) (x:=u) (by simpa using hu) fun h' st' sb=>?_
  have I1:Inv X pins σ H { s with heap:=h' }:=I.turned (t':=s.toks) (fun b o hb e=>(sb.2 b hb).trans e) f0 f1 f3 f4 f5
  obtain⟨o,e,c,d⟩:=id st'
  exact⟨u,rfl,zk5 (s:={ s with heap:=h' }) e c d (by decide) ⟨x,H,I1,ru,⟨rfl,fun ys hy=>by rw [I.tuple_inj hy hq]; exact hx⟩,st',fun b hb=>(hf b hb).1⟩⟩
 done:=by
  intro X hP hw hK hc i pins s σ H E I hf st hg
  subst hP hw hK
  obtain⟨xs,hq,hx⟩:=hg
  obtain⟨its,rv,p,hz⟩:=I.tuple hq
  obtain⟨f0,f1,f2,f3,f4,f5⟩:=hf it (by simp)
  have hl:=rv.length
  exact wpAny_pyNext_tuple_end (I.ok.hd hc) st (show s.heap.IsTuple a its.toArray from p) (by simp; omega) fun h' eb=>⟨rfl,I.turned (t':=s.toks) (fun b o hb e=>eb b o hb e) f0 f1 f3 f4 f5⟩
 self:=fun _ _ _ _ _ st h=>wpAny_pyIter_tupleiter st h
theorem zdv {P:Program}{w:World}{K:y03}{tg:Expr}(it:Addr)(lo:Int)(n:Nat):Turn P w K tg (Itr lo n) [it] it (fun i h=>IsRangeIter h it (lo+(i:Nat)*1) ((n:Int) - (i:Nat)) 1) where
 mem:=by simp
 obj:=fun i h st b hb=>by
  have e:b=it:=by simpa using hb
  subst e
  exact⟨_,st,fun v z=>by
   have z':Data.fields _=Data.cell v:=z
   cases z'⟩
 keep:=fun i h h' st k=>k it (by simp) _ st
 item:=by
  intro X hP hw hK hc i pins s σ H E I hf st hg
  subst hP hw hK
  obtain⟨f0,f1,f2,f3,f4,f5⟩:=hf it (by simp)
  have W:=Walks.range (prog:=X.prog) (w:=X.w) (I.ok.hd hc) it lo 1 n
  refine W.item i s _ _ hg st fun v h' tk hv st' kk=>?_
  obtain⟨t,rfl⟩:=hv
  have I1:Inv X pins σ H { s with heap:=h',toks:=tk }:=I.turned (fun b o hb e=>kk b o (by simpa using hb) e) f0 f1 f3 f4 f5
  refine⟨_,rfl,zk5 (s:={ s with heap:=h',toks:=tk }) (n:="range_iterator") st' rfl rfl (by decide) ⟨.int (lo+i),H,I1,⟨t,?_⟩,⟨rfl,rfl⟩,st',fun b hb=>(hf b hb).1⟩⟩
  rw [y3u]
 done:=by
  intro X hP hw hK hc i pins s σ H E I hf st hg
  subst hP hw hK
  obtain⟨f0,f1,f2,f3,f4,f5⟩:=hf it (by simp)
  exact wpAny_pyNext_range_end (I.ok.hd hc) st (by have:n≤i:=hg; omega) fun h' eb=>⟨rfl,I.turned (t':=s.toks) (fun b o hb e=>eb b o hb e) f0 f1 f3 f4 f5⟩
 self:=fun _ _ _ _ _ st h=>wpAny_pyIter_rangeiter st h
end L2
namespace L2
open PySem PySem.Spec PyProof.Rows
section
variable {X:Cx}{tg:Expr}
theorem zia {pins:List (Addr×Obj)}{σ:St}{H:Hp}{s:Shared}{R:It→Hp→Prop}{E:Value→Shared→Prop}{lo hi:Int}{t u v:Tok}{tk:Nat}(I:Inv X pins σ H s)(h1:-(2^62)≤lo)(h2:lo<2^62)(h3:-(2^62)≤hi)(h4:hi<2^62)
  (q:R (Itr lo (hi - lo).toNat) H):wpAny (model X.prog X.w) X.A (pyIter (.ref s.heap.objs.size)) (PIE X pins σ tg R) E { s with heap:=s.heap.push { cls:=.type "range",data:=.fields #[.int lo t,.int hi u,.int 1 v] },toks:=tk }:=by
 refine wpAny_pyIter_range (IsRange.new ..) (small_one h1 h2 h3 h4) ?_
 have I1:Inv X pins σ H { s with heap:=s.heap.push { cls:=.type "range",data:=.fields #[.int lo t,.int hi u,.int 1 v] },toks:=tk }:=I.kept fun b o e=>Heap.get?_push_of_some _ e
 refine⟨(s.heap.push { cls:=.type "range",data:=.fields #[.int lo t,.int hi u,.int 1 v] }).objs.size,[(s.heap.push { cls:=.type "range",data:=.fields #[.int lo t,.int hi u,.int 1 v] }).objs.size],_,_,H,rfl,
  I1.kept (t':=tk) fun b o e=>Heap.get?_push_of_some _ e,zdv _ lo (hi - lo).toNat,?_,fun b hb=>?_,q⟩
 ·have e1:lo+((0:Nat):Int)*1=lo:=by simp
  have e2:(((hi - lo).toNat:Nat):Int) - ((0:Nat):Int)=Builtin.Range.rangeSize lo hi 1:=by rw [rangeSize_one]; split<;>omega
  show IsRangeIter _ _ (lo+((0:Nat):Int)*1) ((((hi - lo).toNat:Nat):Int) - ((0:Nat):Int)) 1
  rw [e1,e2]
  exact Heap.get?_push_size _ rfl
 ·have e:b=(s.heap.push { cls:=.type "range",data:=.fields #[.int lo t,.int hi u,.int 1 v] }).objs.size:=by simpa using hb
  subst e
  exact I1.fpOk (y0a _) (I1.hok.fresh (y0a _))
def zpv (wi:TI)(g:TG)(tb:TS):TS:=fun D σ H=>wi σ H fun J H1=>∃W:Nat→Nat→St→Hp→Prop,(∃m,W 0 m σ H1)∧∀i m σ H,W i m σ H →
 (J.stop i H∧D.nx σ H)∨(J.go i H∧∃N:St→Hp→Prop,(∀ σ' H',N σ' H'→∃m',m'<m∧W (i+1) m' σ' H')∧∀x H',J.yld i H x H'→g x σ H' fun σ2 H2=>tb { D with nx:=N,ct:=N,bk:=D.nx } σ2 H2)
def zas (fp:List Addr)(h:Heap):List (Addr×Obj):=fp.filterMap fun b=>(h.get? b).map fun o=>(b,o)
theorem z67 {fp:List Addr}{h:Heap}{b:Addr}{o:Obj}(hb:b∈fp)(e:h.get? b=some o):(b,o)∈zas fp h:=y4h.mpr ⟨b,hb,by rw [e]; rfl⟩
theorem zg8 {fp:List Addr}{h:Heap}{p:Addr×Obj}(hp:p∈zas fp h):p.1∈fp∧h.get? p.1=some p.2:=by
 obtain⟨b,hb,e⟩:=y4h.mp hp
 cases q:h.get? b with
 | none=>rw [q] at e; cases e
 | some o =>
  rw [q] at e
  have e':(b,o)=p:=y12 e
  subst e'
  exact⟨hb,q⟩
theorem Inv.pinned {pins:List (Addr×Obj)}{σ:St}{H:Hp}{s:Shared}{fp:List Addr}(I:Inv X pins σ H s)(hf:∀b∈fp,zfz X pins H b)(ho:∀b∈fp,∃o,s.heap.get? b=some o∧∀v,o.data ≠ .cell v):Inv X (pins++zas fp s.heap) σ H s :=
 I.pins_of fun p hp=>(y13.mp hp).elim (fun z=>I.pin p (y14 _ z)) fun z=>by
  obtain⟨hb,e⟩:=zg8 z
  obtain⟨f0,f1,f2,_⟩:=hf p.1 hb
  obtain⟨o,e',d⟩:=ho p.1 hb
  rw [e] at e'; cases e'
  exact⟨e,f0,f1,f2,d⟩
theorem Inv.unpinned {pins pl:List (Addr×Obj)}{σ:St}{H:Hp}{s:Shared}(I:Inv X (pins++pl) σ H s):Inv X pins σ H s:=I.pins_of fun p hp=>I.pin p (y14 _ (y49 _ hp))
theorem zm8 {iter:Expr}{body:List Stmt}{wi:TI}{g:TG}{tb:TS}{pos:Pos}(hp:PassesOwn (model X.prog X.w) X.A X.env X.xe)(hc:X.calm=true)(hi:PI X tg iter wi)(hg:PG X tg g)(hb:PSs X body tb)
  (hs:∀x,foldedSetIterable iter X.env x=pure x:=by intro _; rfl):PS X (.For tg iter body [] pos) (zpv wi g tb):=by
 intro pins s σ H D I h
 refine wpAny_For (thn (hi pins s σ H _ I h) fun v s1 h1=>thn h1 fun itv s2 h2=>?_) hs
 obtain⟨it,fp,tn,J,H2,e,I2,T,st2,f2,W,⟨m0,w0⟩,turn⟩:=h2
 subst e
 have stat:∀{H':Hp},(∀b∈fp,H' b=none)→∀b∈fp,zfz X pins H' b:=fun hn b hb=>⟨hn b hb,(f2 b hb).2⟩
 refine codeAny_forLoop_any (fun n s'=>∃i σ' H',Inv X pins σ' H' s'∧tn i s'.heap∧(∀b∈fp,H' b=none)∧W i n σ' H') ?_ m0 ⟨0,σ,H2,I2,st2,fun b hb=>(f2 b hb).1,w0⟩
 rintro n s3 ⟨i,σ3,H3,I3,st3,fr3,w3⟩
 rcases turn i n σ3 H3 w3 with ⟨stop,qn⟩ | ⟨go,N,hN,step⟩
 ·refine wpAny_passesOwn hp (thn (T.done X rfl rfl rfl hc i pins s3 σ3 H3 X.xe I3 (stat fr3) st3 stop) fun r s4 ⟨hr,I4⟩=>?_)
  subst hr
  exact wpAny_execs_nil ⟨σ3,H3,I4,qn⟩
 ·refine wpAny_passesOwn hp (thn (T.item X rfl rfl rfl hc i pins s3 σ3 H3 X.xe I3 (stat fr3) st3 go) fun r s4 ⟨u,hr,h4⟩=>?_)
  subst hr
  refine wpAny_passesOwn hp (thn h4 fun _ s5 ⟨x,H5,I5,r5,y5,st5,fr5⟩=>?_)
  have I5':=I5.pinned (stat fr5) (T.obj _ _ st5)
  refine wpAny_passesOwn hp (thn (hg _ s5 σ3 H5 x u _ I5' r5 (step x H5 y5)) fun _ s6 ⟨σ6,H6,I6,q6⟩=>?_)
  refine wpAny_passesOwn hp (thn (hb _ s6 σ6 H6 _ I6 q6) fun f s7 q7=>?_)
  have again:∀{σ7:St} {H7:Hp},Inv X (pins++zas fp s5.heap) σ7 H7 s7→N σ7 H7→∃m,m<n∧∃i σ' H',Inv X pins σ' H' s7∧tn i s7.heap∧(∀b∈fp,H' b=none)∧W i m σ' H':=fun {σ7 H7} I7 n7=>by
   obtain⟨m',hm,w7⟩:=hN σ7 H7 n7
   refine⟨m',hm,i+1,σ7,H7,I7.unpinned,T.keep _ _ _ st5 fun b hb o e=>(I7.pin (b,o) (y14 _ (y14 _ (z67 hb e)))).1,fun b hb=>?_,w7⟩
   obtain⟨o,e,d⟩:=T.obj _ _ st5 b hb
   exact(I7.pin (b,o) (y14 _ (y14 _ (z67 hb e)))).2.1
  cases f with
  | next=>obtain⟨σ7,H7,I7,n7⟩:=q7; exact again I7 n7
  | cont=>obtain⟨σ7,H7,I7,n7⟩:=q7; exact again I7 n7
  | brk=>obtain⟨σ7,H7,I7,q7⟩:=q7; exact⟨σ7,H7,I7.unpinned,q7⟩
  | ret v=>obtain⟨x7,σ7,H7,I7,r7,q7⟩:=q7; exact⟨x7,σ7,H7,I7.unpinned,r7,q7⟩
end
theorem zhu {K:y03}{a:Addr}{xs:List V}{g:TG}{tb:TS}{D:Ends}{σ:St}{H:Hp}(Pv:Nat→St→Hp→Prop)(h0:Pv 0 σ H)(hl:∀i σ H,i≤xs.length→Pv i σ H→SqL K H a xs)
  (hs:∀i x σ H,xs[i]?=some x→Pv i σ H→g x σ H fun σ2 H2=>tb { D with nx:=Pv (i+1),ct:=Pv (i+1),bk:=D.nx } σ2 H2) (hd:∀ σ H,Pv xs.length σ H→D.nx σ H) :
  ∃W:Nat→Nat→St→Hp→Prop,(∃m,W 0 m σ H)∧∀i m σ H,W i m σ H →
   ((Itl K a).stop i H∧D.nx σ H)∨((Itl K a).go i H∧∃N:St→Hp→Prop,(∀ σ' H',N σ' H'→∃m',m'<m∧W (i+1) m' σ' H')∧∀x H',(Itl K a).yld i H x H'→g x σ H' fun σ2 H2=>tb { D with nx:=N,ct:=N,bk:=D.nx } σ2 H2):=by
 refine⟨fun i m σ H=>m=xs.length - i∧i≤xs.length∧Pv i σ H,⟨xs.length,by simp,y2g _,h0⟩,?_⟩
 rintro i m σ H ⟨rfl,hi,p⟩
 have q:=hl i σ H hi p
 by_cases hlt:i<xs.length
 ·refine .inr ⟨⟨xs,xs[i],q,by simp [hlt]⟩,Pv (i+1),fun σ' H' p'=>⟨xs.length - (i+1),by omega,rfl,hlt,p'⟩,fun x H' y=>?_⟩
  obtain⟨e,y⟩:=y
  subst e
  exact hs i x σ _ (y xs q) p
 ·have e:i=xs.length:=by omega
  subst e
  exact .inl ⟨⟨xs,q,y0a _⟩,hd σ H p⟩
theorem zl0 {K:y03}{a:Addr}{xs:List V}{g:TG}{tb:TS}{D:Ends}{σ:St}{H:Hp}(Pv:Nat→St→Hp→Prop)(h0:Pv 0 σ H)(hl:∀i σ H,i≤xs.length→Pv i σ H→SqT K H a xs)
  (hs:∀i x σ H,xs[i]?=some x→Pv i σ H→g x σ H fun σ2 H2=>tb { D with nx:=Pv (i+1),ct:=Pv (i+1),bk:=D.nx } σ2 H2) (hd:∀ σ H,Pv xs.length σ H→D.nx σ H) :
  ∃W:Nat→Nat→St→Hp→Prop,(∃m,W 0 m σ H)∧∀i m σ H,W i m σ H →
   ((Itt K a).stop i H∧D.nx σ H)∨((Itt K a).go i H∧∃N:St→Hp→Prop,(∀ σ' H',N σ' H'→∃m',m'<m∧W (i+1) m' σ' H')∧∀x H',(Itt K a).yld i H x H'→g x σ H' fun σ2 H2=>tb { D with nx:=N,ct:=N,bk:=D.nx } σ2 H2):=by
 refine⟨fun i m σ H=>m=xs.length - i∧i≤xs.length∧Pv i σ H,⟨xs.length,by simp,y2g _,h0⟩,?_⟩
 rintro i m σ H ⟨rfl,hi,p⟩
 have q:=hl i σ H hi p
 by_cases hlt:i<xs.length
 ·refine .inr ⟨⟨xs,xs[i],q,by simp [hlt]⟩,Pv (i+1),fun σ' H' p'=>⟨xs.length - (i+1),by omega,rfl,hlt,p'⟩,fun x H' y=>?_⟩
  obtain⟨e,y⟩:=y
  subst e
  exact hs i x σ _ (y xs q) p
 ·have e:i=xs.length:=by omega
  subst e
  exact .inl ⟨⟨xs,q,y0a _⟩,hd σ H p⟩
theorem zgw {lo:Int}{n:Nat}{g:TG}{tb:TS}{D:Ends}{σ:St}{H:Hp}(Pv:Nat→St→Hp→Prop)(h0:Pv 0 σ H)
  (hs:∀i σ H,i<n→Pv i σ H→g (.int (lo+i)) σ H fun σ2 H2=>tb { D with nx:=Pv (i+1),ct:=Pv (i+1),bk:=D.nx } σ2 H2) (hd:∀ σ H,Pv n σ H→D.nx σ H) :
  ∃W:Nat→Nat→St→Hp→Prop,(∃m,W 0 m σ H)∧∀i m σ H,W i m σ H →
   ((Itr lo n).stop i H∧D.nx σ H)∨((Itr lo n).go i H∧∃N:St→Hp→Prop,(∀ σ' H',N σ' H'→∃m',m'<m∧W (i+1) m' σ' H')∧∀x H',(Itr lo n).yld i H x H'→g x σ H' fun σ2 H2=>tb { D with nx:=N,ct:=N,bk:=D.nx } σ2 H2):=by
 refine⟨fun i m σ H=>m=n - i∧i≤n∧Pv i σ H,⟨n,by simp,y2g _,h0⟩,?_⟩
 rintro i m σ H ⟨rfl,hi,p⟩
 by_cases hlt:i<n
 ·refine .inr ⟨hlt,Pv (i+1),fun σ' H' p'=>⟨n - (i+1),by omega,rfl,hlt,p'⟩,fun x H' y=>?_⟩
  obtain⟨e,y⟩:=y
  subst e y
  exact hs i σ _ hlt p
 ·have e:i=n:=by omega
  subst e
  exact .inl ⟨y0a _,hd σ H p⟩
end L2
namespace L2
open PySem PySem.Spec PyProof.Rows
abbrev R2:=V→V→Hp→VK→Prop
def OpR (X:Cx)(f:Value→Value→Sem Value)(r:R2):Prop :=
 ∀(pins:List (Addr×Obj)) (s:Shared) (σ:St) (H:Hp) (x y:V) (v u:Value) (Q:VK),Inv X pins σ H s→RelV x v→RelV y u→r x y H Q →
  wpAny (model X.prog X.w) X.A (f v u) (EP X pins σ Q) X.xe s
def UnR (X:Cx)(f:Value→Sem Value)(r:V→Hp→VK→Prop):Prop :=
 ∀(pins:List (Addr×Obj)) (s:Shared) (σ:St) (H:Hp) (x:V) (v:Value) (Q:VK),Inv X pins σ H s→RelV x v→r x H Q →
  wpAny (model X.prog X.w) X.A (f v) (EP X pins σ Q) X.xe s
def z44 (X:Cx)(f:Value)(r:List V→Hp→VK→Prop):Prop :=
 ∀(pins:List (Addr×Obj)) (s:Shared) (σ:St) (H:Hp) (xs:List V) (us:List Value) (Q:VK),Inv X pins σ H s→Vals xs us→r xs H Q →
  wpAny (model X.prog X.w) X.A (call f us) (EP X pins σ Q) X.xe s
def tOp (r:R2)(ta tb:TE):TE:=fun σ H Q=>ta σ H fun x H1=>tb σ H1 fun y H2=>r x y H2 Q
def tUn (r:V→Hp→VK→Prop)(ta:TE):TE:=fun σ H Q=>ta σ H fun x H1=>r x H1 Q
def rI (C:Int→Int→Prop)(g:Int→Int→V):R2:=fun x y H Q=>∃i j,x = .int i∧y = .int j∧C i j∧Q (g i j) H
def rI0 (g:Int→Int→V):R2:=fun x y H Q=>∃i j,x = .int i∧y = .int j∧Q (g i j) H
def rU (g:Int→V):V→Hp→VK→Prop:=fun x H Q=>∃i,x = .int i∧Q (g i) H
section
variable {X:Cx}{a b c:Expr}{ta tb tc:TE}{pos:Pos}
theorem zo9 (ha:PE X a ta)(hb:PE X b tb){pins:List (Addr×Obj)}{s:Shared}{σ:St}{H:Hp}{R:V→V→Hp→Prop}(I:Inv X pins σ H s)
  (h:ta σ H fun x H1=>tb σ H1 fun y H2=>R x y H2) {Q:Value→Shared→Prop} {f:Value→Value→Sem Value}
  (hf:∀v u s2 x y H2,Inv X pins σ H2 s2→RelV x v→RelV y u→R x y H2→wpAny (model X.prog X.w) X.A (f v u) Q X.xe s2) :
  wpAny (model X.prog X.w) X.A (eval a X.env) (fun v s₁=>wpAny (model X.prog X.w) X.A (eval b X.env) (fun u s₂=>wpAny (model X.prog X.w) X.A (f v u) Q X.xe s₂) X.xe s₁) X.xe s:=by
 refine thn (ha pins s σ H _ I h) fun v s1 ⟨x,H1,I1,r1,q1⟩=>?_
 refine thn (hb pins s1 σ H1 _ I1 q1) fun u s2 ⟨y,H2,I2,r2,q2⟩=>?_
 exact hf v u s2 x y H2 I2 r1 r2 q2
theorem z0o {op:Operator}{r:R2}(ho:OpR X (binaryOp op) r)(ha:PE X a ta)(hb:PE X b tb):PE X (.BinOp a op b pos) (tOp r ta tb):=by
 intro pins s σ H Q I h
 exact wpAny_BinOp (zo9 ha hb I h fun v u s2 x y H2 I2 rx ry q=>ho pins s2 σ H2 x y v u Q I2 rx ry q)
theorem zat {op:UnaryOp}{r:V→Hp→VK→Prop}(ho:UnR X (unaryOp op) r)(ha:PE X a ta):PE X (.UnaryOp op a pos) (tUn r ta):=by
 intro pins s σ H Q I h
 exact UnaryOp_ (thn (ha pins s σ H _ I h) fun v s1 ⟨x,H1,I1,r1,q1⟩=>ho pins s1 σ H1 x v Q I1 r1 q1)
theorem opI {f:Value→Value→Sem Value}{C:Int→Int→Prop}{g:Int→Int→Int}
  (rule:∀(i j:Int) (t u:Tok) (s:Shared) (Q:Value→Shared→Prop) (E:Value→Shared→Prop),C i j→Q (.int (g i j) s.toks) { s with toks:=s.toks+1 }→wpAny (model X.prog X.w) X.A (f (.int i t) (.int j u)) Q E s) :
  OpR X f (rI C fun i j=>.int (g i j)):=by
 intro pins s σ H x y v u Q I rx ry h
 obtain⟨i,j,rfl,rfl,hc,q⟩:=h
 obtain⟨t,rfl⟩:=rx
 obtain⟨t',rfl⟩:=ry
 exact rule i j t t' s _ _ hc ⟨.int (g i j),H,I.tok _,⟨_,rfl⟩,q⟩
theorem zp3 {f:Value→Value→Sem Value}{g:Int→Int→Int}
  (rule:∀(i j:Int) (t u:Tok) (s:Shared) (Q:Value→Shared→Prop) (E:Value→Shared→Prop),Q (.int (g i j) s.toks) { s with toks:=s.toks+1 }→wpAny (model X.prog X.w) X.A (f (.int i t) (.int j u)) Q E s) :
  OpR X f (rI0 fun i j=>.int (g i j)):=by
 intro pins s σ H x y v u Q I rx ry h
 obtain⟨i,j,rfl,rfl,q⟩:=h
 obtain⟨t,rfl⟩:=rx
 obtain⟨t',rfl⟩:=ry
 exact rule i j t t' s _ _ ⟨.int (g i j),H,I.tok _,⟨_,rfl⟩,q⟩
theorem znq {f:Value→Value→Sem Value}{g:Int→Int→Bool}
  (rule:∀(i j:Int) (t u:Tok) (s:Shared) (Q:Value→Shared→Prop) (E:Value→Shared→Prop),Q (.bool (g i j)) s→wpAny (model X.prog X.w) X.A (f (.int i t) (.int j u)) Q E s) :
  OpR X f (rI0 fun i j=>.bl (g i j)):=by
 intro pins s σ H x y v u Q I rx ry h
 obtain⟨i,j,rfl,rfl,q⟩:=h
 obtain⟨t,rfl⟩:=rx
 obtain⟨t',rfl⟩:=ry
 exact rule i j t t' s _ _ ⟨.bl (g i j),H,I,rfl,q⟩
theorem zm2:OpR X (binaryOp .Add) (rI0 fun i j=>.int (i+j)):=zp3 fun _ _ _ _ _ _ _ q=>add_int q
theorem zmp:OpR X (binaryOp .Sub) (rI0 fun i j=>.int (i - j)):=zp3 fun _ _ _ _ _ _ _ q=>sub_int q
theorem zn4:OpR X (binaryOp .Mod) (rI (fun _ j=>0<j) fun i j=>.int (i % j)):=opI fun i j _ _ _ _ _ hc q=>by
 have h1:(0:Int)<j:=hc
 exact mod_int' (by omega) (by rw [Int.fmod_eq_emod_of_nonneg i (by omega)]; exact q)
theorem unI {f:Value→Sem Value}{g:Int→Int}
  (rule:∀(i:Int) (t:Tok) (s:Shared) (Q:Value→Shared→Prop) (E:Value→Shared→Prop),Q (.int (g i) s.toks) { s with toks:=s.toks+1 }→wpAny (model X.prog X.w) X.A (f (.int i t)) Q E s) :
  UnR X f (rU fun i=>.int (g i)):=by
 intro pins s σ H x v Q I rx h
 obtain⟨i,rfl,q⟩:=h
 obtain⟨t,rfl⟩:=rx
 exact rule i t s _ _ ⟨.int (g i),H,I.tok _,⟨_,rfl⟩,q⟩
theorem zn8:UnR X (unaryOp .USub) (rU fun i=>.int (-i)):=unI fun _ _ _ _ _ q=>neg_int q
end
def znr:V→V→Bool
 | .non,.non=>true | .non,.int _=>true | .int _,.non=>true | .non,.bl _=>true | .bl _,.non=>true | .non,.str _=>true | .str _,.non=>true
 | .int _,.int _=>true | .bl _,.bl _=>true | .str _,.str _=>true | .byt _,.byt _=>true
 | .int _,.str _=>true | .str _,.int _=>true | .bl _,.str _=>true | .str _,.bl _=>true
 | _,_=>false
def rEq:R2:=fun x y H Q=>znr x y=true∧Q (.bl (decide (x=y))) H
def rNe:R2:=fun x y H Q=>znr x y=true∧Q (.bl (!decide (x=y))) H
theorem zgr {i j:Int}:decide (V.int i=V.int j)=(i==j):=by
 rw [y27]
 simp
theorem zjm {i j:Bool}:decide (V.bl i=V.bl j)=(i==j):=by
 rw [y27]
 simp
theorem zeo {i j:Str}:decide (V.str i=V.str j)=(i==j):=by
 rw [y27]
 simp
theorem zh0 {i j:Array UInt8}:decide (V.byt i=V.byt j)=(i.toList==j.toList):=by
 rw [y27]
 cases i
 cases j
 simp
section
variable {X:Cx}{a b c:Expr}{ta tb tc:TE}{pos:Pos}
theorem z1d {pins:List (Addr×Obj)}{σ:St}{H:Hp}{s:Shared}{Q:VK}{k k':Bool}(I:Inv X pins σ H s)(q:Q (.bl k) H)(e:k=k'):EP X pins σ Q (.bool k') s:=by
 subst e
 exact⟨.bl k,H,I,rfl,q⟩
theorem zho:OpR X (compareOp .Eq) rEq:=by
 intro pins s σ H x y v u Q I rx ry h
 obtain⟨hs,q⟩:=h
 cases x with
 | non =>
  cases rx
  cases y with
  | non=>cases ry; exact PySem.EqNone.eq_none_none (z1d I q (by simp))
  | bl j=>cases ry; exact PySem.EqNone.eq_none_bool (z1d I q (by simp))
  | int j=>obtain⟨t',rfl⟩:=ry; exact PySem.EqNone.eq_none_int (z1d I q (by simp))
  | str j=>obtain⟨t',rfl⟩:=ry; exact PySem.EqNone.eq_none_str (z1d I q (by simp))
  | _=>exact absurd (show false=true from hs) y15
 | bl i =>
  cases rx
  cases y with
  | non=>cases ry; exact PySem.EqNone.eq_bool_none (z1d I q (by simp))
  | bl j=>cases ry; exact eq_bool (z1d I q zjm)
  | str j=>obtain⟨t',rfl⟩:=ry; exact PySem.EqMixed.eq_bool_str (z1d I q (by simp))
  | _=>exact absurd (show false=true from hs) y15
 | int i =>
  obtain⟨t,rfl⟩:=rx
  cases y with
  | non=>cases ry; exact PySem.EqNone.eq_int_none (z1d I q (by simp))
  | int j=>obtain⟨t',rfl⟩:=ry; exact eq_int (z1d I q zgr)
  | str j=>obtain⟨t',rfl⟩:=ry; exact PySem.EqMixed.eq_int_str (z1d I q (by simp))
  | _=>exact absurd (show false=true from hs) y15
 | str i =>
  obtain⟨t,rfl⟩:=rx
  cases y with
  | non=>cases ry; exact PySem.EqNone.eq_str_none (z1d I q (by simp))
  | bl j=>cases ry; exact PySem.EqMixed.eq_str_bool (z1d I q (by simp))
  | int j=>obtain⟨t',rfl⟩:=ry; exact PySem.EqMixed.eq_str_int (z1d I q (by simp))
  | str j=>obtain⟨t',rfl⟩:=ry; exact eq_str (z1d I q zeo)
  | _=>exact absurd (show false=true from hs) y15
 | byt i =>
  obtain⟨t,rfl⟩:=rx
  cases y with
  | byt j=>obtain⟨t',rfl⟩:=ry; exact PySem.W.eq_bytes (z1d I q zh0)
  | _=>exact absurd (show false=true from hs) y15
 | _=>cases y<;>exact absurd (show false=true from hs) y15
theorem ziw:OpR X (compareOp .NotEq) rNe:=by
 intro pins s σ H x y v u Q I rx ry h
 obtain⟨hs,q⟩:=h
 cases x with
 | non =>
  cases rx
  cases y with
  | non=>cases ry; exact PySem.EqNone.ne_none_none (z1d I q (by simp))
  | bl j=>cases ry; exact PySem.EqNone.ne_none_bool (z1d I q (by simp))
  | int j=>obtain⟨t',rfl⟩:=ry; exact PySem.EqNone.ne_none_int (z1d I q (by simp))
  | str j=>obtain⟨t',rfl⟩:=ry; exact PySem.EqNone.ne_none_str (z1d I q (by simp))
  | _=>exact absurd (show false=true from hs) y15
 | bl i =>
  cases rx
  cases y with
  | non=>cases ry; exact PySem.EqNone.ne_bool_none (z1d I q (by simp))
  | bl j=>cases ry; exact ne_bool (z1d I q (congrArg not zjm))
  | str j=>obtain⟨t',rfl⟩:=ry; exact PySem.EqMixed.ne_bool_str (z1d I q (by simp))
  | _=>exact absurd (show false=true from hs) y15
 | int i =>
  obtain⟨t,rfl⟩:=rx
  cases y with
  | non=>cases ry; exact PySem.EqNone.ne_int_none (z1d I q (by simp))
  | int j=>obtain⟨t',rfl⟩:=ry; exact ne_int (z1d I q (congrArg not zgr))
  | str j=>obtain⟨t',rfl⟩:=ry; exact PySem.EqMixed.ne_int_str (z1d I q (by simp))
  | _=>exact absurd (show false=true from hs) y15
 | str i =>
  obtain⟨t,rfl⟩:=rx
  cases y with
  | non=>cases ry; exact PySem.EqNone.ne_str_none (z1d I q (by simp))
  | bl j=>cases ry; exact PySem.EqMixed.ne_str_bool (z1d I q (by simp))
  | int j=>obtain⟨t',rfl⟩:=ry; exact PySem.EqMixed.ne_str_int (z1d I q (by simp))
  | str j=>obtain⟨t',rfl⟩:=ry; exact ne_str (z1d I q (congrArg not zeo))
  | _=>exact absurd (show false=true from hs) y15
 | byt i =>
  obtain⟨t,rfl⟩:=rx
  cases y with
  | byt j=>obtain⟨t',rfl⟩:=ry; exact PySem.W.ne_bytes (z1d I q (congrArg not zh0))
  | _=>exact absurd (show false=true from hs) y15
 | _=>cases y<;>exact absurd (show false=true from hs) y15
theorem zoo:OpR X (compareOp .Lt) (rI0 fun i j=>.bl (decide (i<j))):=znq fun _ _ _ _ _ _ _ q=>lt_int q
theorem zo1:OpR X (compareOp .LtE) (rI0 fun i j=>.bl (decide (i≤j))):=znq fun _ _ _ _ _ _ _ q=>le_int q
theorem zo6:OpR X (compareOp .Gt) (rI0 fun i j=>.bl (decide (j<i))):=znq fun _ _ _ _ _ _ _ q=>gt_int q
theorem zoi:OpR X (compareOp .GtE) (rI0 fun i j=>.bl (decide (j≤i))):=znq fun _ _ _ _ _ _ _ q=>ge_int q
theorem z0r (b:Expr){op:CmpOp}(h:op ≠ .In:=by decide)(h2:op ≠ .NotIn:=by decide):behindInMarks op b=false:=by
 have e1:(op==CmpOp.In)=false:=by cases op<;>first | rfl | exact absurd rfl h
 have e2:(op==CmpOp.NotIn)=false:=by cases op<;>first | rfl | exact absurd rfl h2
 cases b<;>simp [behindInMarks,e1,e2]
theorem z3o {op:CmpOp}{r:R2}(ho:OpR X (compareOp op) r)(ha:PE X a ta)(hb:PE X b tb)(hm:behindInMarks op b=false):PE X (.Compare a [op] [b] pos) (tOp r ta tb):=by
 intro pins s σ H Q I h
 exact wpAny_Compare1 (zo9 ha hb I h fun v u s2 x y H2 I2 rx ry q=>ho pins s2 σ H2 x y v u Q I2 rx ry q) hm
theorem zay:(sizeLine:Nat)<2^63:=by rw [sizeLine_eq]; decide
theorem zea:OpR X (binaryOp .Add) (fun x y H Q=>∃i j,x = .str i∧y = .str j∧i.length+j.length≤sizeLine∧Q (.str (i++j)) H):=by
 intro pins s σ H x y v u Q I rx ry h
 obtain⟨i,j,rfl,rfl,hz,q⟩:=h
 obtain⟨t,rfl⟩:=rx
 obtain⟨t',rfl⟩:=ry
 exact add_str (fun t' tk=>⟨.str (i++j),H,I.tok _,⟨_,rfl⟩,q⟩) hz
theorem z7a {x:V}{us:List Value}(r:Vals [x] us):∃u,us = [u]∧RelV x u:=by
 cases r with
 | cons r1 r2=>cases r2; exact⟨_,rfl,r1⟩
theorem zha {x y:V}{us:List Value}(r:Vals [x,y] us):∃u w',us = [u,w']∧RelV x u∧RelV y w':=by
 cases r with
 | cons r1 r2 =>
  cases r2 with
  | cons r3 r4=>cases r4; exact⟨_,_,rfl,r1,r3⟩
theorem zin:z44 X (.builtin "abs") (fun xs H Q=>∃i,xs = [.int i]∧Q (.int (if i<0 then -i else i)) H):=by
 intro pins s σ H xs us Q I r h
 obtain⟨i,rfl,q⟩:=h
 obtain⟨u,rfl,t,rfl⟩:=z7a r
 exact call_abs_int fun u tk=>⟨.int (if i<0 then -i else i),H,I.tok _,⟨_,rfl⟩,q⟩
theorem zgk (hc:X.calm=true):z44 X (.builtin "min") (fun xs H Q=>∃i j,xs = [.int i,.int j]∧Q (.int (if j<i then j else i)) H):=by
 intro pins s σ H xs us Q I r h
 obtain⟨i,j,rfl,q⟩:=h
 obtain⟨u,w',rfl,⟨t,rfl⟩,⟨t',rfl⟩⟩:=zha r
 refine min_two_ints (I.ok.hd hc) fun h' tk k=>⟨_,H,I.kept k,?_,q⟩
 by_cases hj:j<i
 ·rw [if_pos hj,if_pos hj]; exact⟨_,rfl⟩
 ·rw [if_neg hj,if_neg hj]; exact⟨_,rfl⟩
end
end L2
namespace L2
open PySem PySem.Spec PyProof.Rows
structure ObjM (h:Heap)(x dx C:Addr)(mA:Str→Option Value):Prop where
 obj:h.get? x=some (y2t C dx)
 ns:h.Ns1 dx mA
 ne:dx≠x
theorem zep {h:Heap}{dx:Addr}{mA:Str→Option Value}(n:h.Ns1 dx mA):∃od,h.get? dx=some od∧∀name,y4p name od=some (mA name):=by
 obtain⟨o,es,ep,ho,hd,hk,_,hm⟩:=n
 refine⟨o,ho,fun name=>?_⟩
 have e:=hm name
 unfold nsFind findBy at e
 rw [←Array.find?_toList] at e
 unfold y4p
 rw [hd]
 dsimp only
 split
 ·rename_i y q
  rw [q] at e
  exact congrArg some e
 ·rename_i q
  rw [q] at e
  have a:es.toList.any (·.refKey)=false:=by
   rw [y69]
   intro y hy
   obtain⟨z,t,hkey⟩:=hk y (Array.mem_toList_iff.mp hy)
   simp [DictEntry.refKey,hkey]
  have a':¬es.toList.any (·.refKey)=true:=by rw [a]; exact y15
  rw [if_neg a']
  exact congrArg some e
theorem ObjM.look {h:Heap}{x dx C:Addr}{mA:Str→Option Value}(I:ObjM h x dx C mA):∃od,PySem.W.InstAt h x (y2t C dx) C (some od)∧∀name,y4p name od=some (mA name) :=
 let ⟨od,ho,hl⟩:=zep I.ns
 ⟨od,⟨I.obj,rfl,rfl,ho⟩,hl⟩
section
variable {prog:Program}{w:World}{A:Around}{E:Value→Shared→Prop}{s:Shared}{K:y03}{x dx C f:Addr}{mA:Str→Option Value}{name:Str}{v:Value}
theorem zls {expr:Bool}{Q:Value→Shared→Prop}(X:K.In s.heap)(I:ObjM s.heap x dx C mA)(hg:y3k K C name=true)(hh:y3v K C=true)
  (ha:y0y K (.ref C) name=some none) (hv:mA name=some v) (hv':y6m v=true) (h:Q v { s with toks:=s.toks+1 }) :
  wpAny (model prog w) A (getAttr (.ref x) name expr) Q E s:=by
 obtain⟨od,J,hl⟩:=I.look
 exact PySem.W.get_value X J (y4c hg).1 (PySem.W.findObj_own hh ha rfl (by rw [hl,hv])) hv' h
theorem zib {pl:Sem Bool}{Q:Value×List Value→Shared→Prop}(X:K.In s.heap)(I:ObjM s.heap x dx C mA)(hg:y3k K C name=true)
  (hf:y0y K (.ref C) name=some (some (.ref f))) (ht:y1y K (.ref f)=true) (hv:mA name=none) (h:Q (.ref f,[.ref x]) s) :
  wpAny (model prog w) A (getMethod (.ref x) name pl) Q E s:=by
 obtain⟨od,J,hl⟩:=I.look
 exact PySem.W.method_fn X J (y4c hg).1 (y4c hg).2 hf (beq_iff_eq.mp ht) (by show(y4p name od).map (·.isSome)=some false; rw [hl,hv]; rfl) h
theorem zks {ns:List Str}{Q:Unit→Shared→Prop}(X:K.In s.heap)(I:ObjM s.heap x dx C mA)
  (hs:y0y K (.ref C) "__setattr__"=some (some (.builtin "object.__setattr__"))) (hp:y4t K C=true) (ht:y5f K C name=some none) (hh:y3v K C=true)
  (hw:y6j mA ns) (hsz:ns.length≤sizeLine)
  (h:∀h',ObjM h' x dx C (fun y=>if y=name then some v else mA y)→Heap.SameBut dx s.heap h'→Q () { s with heap:=h',toks:=s.toks+2 }) :
  wpAny (model prog w) A (setAttr (.ref x) name v) Q E s:=by
 obtain⟨od,J,hl⟩:=I.look
 refine PySem.W.set_plain X J hs (PySem.W.osa_open (s:={ s with toks:=s.toks+1 }) (r:=none) X J hp ht fun b=>?_)
 obtain⟨cd,hc,hd'⟩:=PySem.W.any_some hh
 have hx:s.heap.get? x=some ⟨.ref C,some dx,.plain,#[]⟩:=I.obj
 refine wpAny_bind (wpAny_pure (wpAny_bind (wpAny_bind (wpAny_loadPart hx (wpAny_bind (PySem.W.Looks.here (s:={ s with toks:=s.toks+1 }) (PySem.W.looks_clsIn X hc) ?_))))))
 rw [hd']
 refine wpAny_pure (a:=some dx) (wpAny_bind (wpAny_pure (wpAny_bind ?_)))
 refine wpAny_nsSet1 (s:={ s with toks:=s.toks+1 }) I.ns fun h' hn2 hs2=>?_
 obtain⟨oD,esD,epD,hoD,hdD,hcD⟩:=hn2.count (PySem.Within.cons name v hw)
 refine wpAny_bind (wpAny_lookBehind hoD (by rw [hdD]; exact pastItsLine_dict (y1a hcD (by rw [y1b]; omega))) ?_)
 exact wpAny_pure (h _ ⟨(hs2.2 _ (Ne.symm I.ne)).trans I.obj,hn2,I.ne⟩ hs2)
theorem zhw {R:Result→Shared→Prop}{vs:List Value}{kw:List (Str×Value)}(X:K.In s.heap)(hm:y4d K C=true)
  (hi:y0y K (.ref C) "__init__"=some (some (.ref f))) (hf:PySem.W.typeIn K (.ref f)=some (.type "function"))
  (h:codeAny (model prog w) (A.under (.builtin "type.__call__" ⟨.ref C::vs,kw⟩)) (.call (.ref f) ⟨.ref (s.heap.objs.size+1)::vs,kw⟩) (PySem.W.InitBack (s.heap.objs.size+1) R)
   { s with heap:=(s.heap.push y24).push (y2t C s.heap.objs.size) }) :
  codeAny (model prog w) A (.call (.ref C) ⟨vs,kw⟩) R s:=by
 obtain⟨hh,g,d,t,os⟩:=s
 exact PySem.W.make_core (PySem.W.makes_of X hm) (PySem.W.looks_findIn X hi) (fun self=>PySem.W.bind_fn X self hf) (.inl rfl) h
end
def z77 (f:Str)(v:V):List (Str×V)→List (Str×V)
 | []=>[(f,v)]
 | (g,x)::r=>if g=f then (g,v)::r else (g,x)::z77 f v r
theorem z58 (f g:Str)(v:V):∀fs:List (Str×V),(z77 f v fs).lookup g=if g=f then some v else fs.lookup g
 | []=>by
  show y3w g [(f,v)]=_
  by_cases h:g=f
  ·have hb:(g==f)=true:=beq_iff_eq.mpr h
   simp only [y3w,hb,if_pos h]
  ·have hb:(g==f)=false:=beq_eq_false_iff_ne.mpr h
   simp only [y3w,hb,if_neg h]
 | (k,x)::r=>by
  have ih:=z58 f g v r
  rw [show z77 f v ((k,x)::r)=(if k=f then (k,v)::r else (k,x)::z77 f v r) from rfl]
  by_cases hk:k=f
  ·rw [if_pos hk]
   by_cases h:g=k
   ·have hb:(g==k)=true:=beq_iff_eq.mpr h
    simp only [y3w,hb,if_pos (h.trans hk)]
   ·have hb:(g==k)=false:=beq_eq_false_iff_ne.mpr h
    simp only [y3w,hb,if_neg (fun e:g=f=>h (e.trans hk.symm))]
  ·rw [if_neg hk]
   by_cases h:g=k
   ·have hb:(g==k)=true:=beq_iff_eq.mpr h
    simp only [y3w,hb,if_neg (fun e:g=f=>hk (h.symm.trans e))]
   ·have hb:(g==k)=false:=beq_eq_false_iff_ne.mpr h
    simp only [y3w,hb]
    exact ih
theorem z74 (f:Str)(v:V):∀fs:List (Str×V),f∈(z77 f v fs).map (·.1)∧∀g,g∈fs.map (·.1)→g∈(z77 f v fs).map (·.1)
 | []=>⟨by simp [z77],fun g h=>by simp at h⟩
 | (k,x)::r=>by
  obtain⟨i1,i2⟩:=z74 f v r
  rw [show z77 f v ((k,x)::r)=(if k=f then (k,v)::r else (k,x)::z77 f v r) from rfl]
  by_cases hk:k=f
  ·rw [if_pos hk]
   subst hk
   exact⟨by simp,fun g h=>by simpa using h⟩
  ·rw [if_neg hk]
   refine⟨?_,fun g h=>?_⟩
   ·rw [y0h]
    exact y0c _ i1
   ·rw [y0h] at h ⊢
    rcases y0m.mp h with e | e
    ·exact y0m.mpr (.inl e)
    ·exact y0c _ (i2 g e)
theorem z55 (f:Str)(v:V):∀fs:List (Str×V),(z77 f v fs).length≤fs.length+1
 | []=>by simp [z77]
 | (k,x)::r=>by
  have ih:=z55 f v r
  rw [show z77 f v ((k,x)::r)=(if k=f then (k,v)::r else (k,x)::z77 f v r) from rfl]
  by_cases hk:k=f
  ·rw [if_pos hk,y1b,y1b]; omega
  ·rw [if_neg hk,y1b,y1b]; omega
theorem RelO.some_of {v:V}{o:Option Value}(r:RelO (some v) o):∃u,o=some u∧RelV v u:=by
 cases o with
 | none=>exact(show False from r).elim
 | some u=>exact⟨u,rfl,r⟩
theorem RelO.none_of {o:Option Value}(r:RelO none o):o=none:=by
 cases o with
 | none=>rfl
 | some u=>exact(show False from r).elim
theorem zf1 {v:V}{u:Value}(r:RelV v u):y6m u=true:=by
 cases v with
 | non=>cases (show u=Value.none from r); rfl
 | bl b=>cases (show u=Value.bool b from r); rfl
 | int i=>obtain⟨t,e⟩:=(show ∃t,u=Value.int i t from r); cases e; rfl
 | str x=>obtain⟨t,e⟩:=(show ∃t,u=Value.str x t from r); cases e; rfl
 | byt b=>obtain⟨t,e⟩:=(show ∃t,u=Value.bytes b t from r); cases e; rfl
 | flt b=>obtain⟨t,e⟩:=(show ∃t,u=Value.float b t from r); cases e; rfl
 | ref a=>cases (show u=Value.ref a from r); rfl
 | ty n=>cases (show u=Value.type n from r); rfl
section
variable {P:Program}{w:World}{H H':Hp}{h h':Heap}{a C dx:Addr}{fs fs':List (Str×V)}
theorem z9k (hok:HOk P w H h)(e:H a=some (.ins C dx fs)):∃mA,ObjM h a dx C mA∧(∀f,RelO (fs.lookup f) (mA f))∧y6j mA (fs.map (·.1))∧fs.length≤1000∧H dx=some (.own a):=by
 obtain⟨d,z,ne,ob,mA,n,r,q⟩:=(show ObjOk P w H h a (.ins C dx fs) from hok a _ e)
 exact⟨mA,⟨ob,n,ne⟩,r,q,z,d⟩
end
structure Cls (K:y03)(C:Addr):Prop where
 pg:y3k K C Str.empty=true
 hd:y3v K C=true
 po:y4t K C=true
 sa:y0y K (.ref C) "__setattr__"=some (some (.builtin "object.__setattr__"))
theorem Cls.get {K:y03}{C:Addr}(c:Cls K C)(f:Str):y3k K C f=true:=c.pg
def NoAttr (K:y03)(C:Addr)(f:Str):Prop:=y0y K (.ref C) f=some none
theorem NoAttr.taker {K:y03}{C:Addr}{f:Str}(n:NoAttr K C f):y5f K C f=some none:=by
 unfold y5f
 rw [show y0y K (.ref C) f=some none from n]
 rfl
structure Con (K:y03)(C:Addr)(f:Str)(v:V)(u:Value):Prop where
 at_:y0y K (.ref C) f=some (some u)
 rel:RelV v u
 get:y6a K u "__get__"=some none
 cp:PySem.W.copiedNames.contains f=false
structure Meth (K:y03)(C:Addr)(m:Str)(f:Addr):Prop where
 at_:y0y K (.ref C) m=some (some (.ref f))
 fn:y1y K (.ref f)=true
 kp:y0i K (.ref f)=true
section
variable {X:Cx}{pins:List (Addr×Obj)}{σ:St}{H:Hp}{s:Shared}{a C dx:Addr}{fs:List (Str×V)}{f:Str}{v:V}{A:Around}{E:Value→Shared→Prop}
theorem ze1 {b:Bool}{Q:Value→Shared→Prop}(I:Inv X pins σ H s)(e:H a=some (.ins C dx fs))(c:Cls X.K C)(n:NoAttr X.K C f)(l:fs.lookup f=some v)
  (h:∀u s',Inv X pins σ H s'→RelV v u→Q u s'):wpAny (model X.prog X.w) A (getAttr (.ref a) f b) Q E s:=by
 obtain⟨mA,O,r,_,_,_⟩:=z9k I.hok e
 obtain⟨u,hu,ru⟩:=RelO.some_of (v:=v) (o:=mA f) (by rw [←l]; exact r f)
 exact zls I.kIn O (c.get f) c.hd n hu (zf1 ru) (h u _ (I.tok _) ru)
theorem z8x {m:Str}{g:Addr}{pl:Sem Bool}{Q:Value×List Value→Shared→Prop}(I:Inv X pins σ H s)(e:H a=some (.ins C dx fs))(c:Cls X.K C)(k:Meth X.K C m g)(l:fs.lookup m=none)
  (h:Q (.ref g,[.ref a]) s):wpAny (model X.prog X.w) A (getMethod (.ref a) m pl) Q E s:=by
 obtain⟨mA,O,r,_,_,_⟩:=z9k I.hok e
 have hn:mA m=none:=RelO.none_of (by rw [←l]; exact r m)
 exact zib I.kIn O (c.get m) k.at_ k.fn hn h
theorem ze4 {y:V}{u:Value}{Q:Unit→Shared→Prop}(I:Inv X pins σ H s)(e:H a=some (.ins C dx fs))(c:Cls X.K C)(n:NoAttr X.K C f)(hl:fs.length<1000)(ry:RelV y u)
  (h:∀s',Inv X pins σ (upd H a (.ins C dx (z77 f y fs))) s'→Q () s'):wpAny (model X.prog X.w) A (setAttr (.ref a) f u) Q E s:=by
 obtain⟨mA,O,r,wi,_,ho⟩:=z9k I.hok e
 have hz:(fs.map (·.1)).length≤sizeLine:=by rw [y04,sizeLine_eq]; omega
 refine zks I.kIn O c.sa c.po n.taker c.hd wi hz fun h' O' sb=>h _ ?_
 have hd:∃o,h'.get? dx=some o:=let ⟨o,_,_,e',_⟩:=O'.ns; ⟨o,e'⟩
 refine I.write (x:=a) (e:=dx) (by rw [e]; exact True.intro) (.inr ho) (fun b q hb z=>(sb.2 b hb).trans z) hd ?_
 refine⟨by rw [z09 O.ne]; exact ho,?_,O.ne,O'.obj,_,O'.ns,fun g=>?_,fun g hg=>?_⟩
 ·have:=z55 f y fs; omega
 ·show RelO ((z77 f y fs).lookup g) (if g=f then some u else mA g)
  rw [z58]
  by_cases q:g=f
  ·rw [if_pos q,if_pos q]; exact ry
  ·rw [if_neg q,if_neg q]; exact r g
 ·by_cases q:g=f
  ·rw [q]; exact(z74 f y fs).1
  ·refine(z74 f y fs).2 g (wi g fun z=>hg ?_)
   show(if g=f then some u else mA g)=none
   rw [if_neg q]; exact z
theorem Inv.made (I:Inv X pins σ H s):Inv X pins σ (upd (upd H s.heap.objs.size (.own (s.heap.objs.size+1))) (s.heap.objs.size+1) (.ins C s.heap.objs.size []))
  { s with heap:=(s.heap.push y24).push (y2t C s.heap.objs.size) }:=by
 have e1:(s.heap.push y24).get? s.heap.objs.size=some y24:=Heap.get?_push_size s.heap rfl
 have e2:((s.heap.push y24).push (y2t C s.heap.objs.size)).get? (s.heap.objs.size+1)=some (y2t C s.heap.objs.size):=by
  have:=Heap.get?_push_size (s.heap.push y24) (o:=y2t C s.heap.objs.size) rfl
  rwa [Heap.size_push] at this
 have e3:(s.heap.push y24).Ns s.heap.objs.size (fun _=>none):=⟨y24,#[],_,e1,rfl,(fun e he=>absurd he (by simp)),fun _=>rfl⟩
 have I1:=I.laid (a:=s.heap.objs.size) (o:=.own (s.heap.objs.size+1)) (h':=s.heap.push y24) (t':=s.toks) (fun b u q=>Heap.get?_push_of_some _ q) (y0a _) ⟨_,e1⟩
 refine I1.laid (a:=s.heap.objs.size+1) (o:=.ins C s.heap.objs.size []) (t':=s.toks) (fun b u q=>Heap.get?_push_of_some _ q) (y6k (Heap.size_push _ _)) ?_
 have ne:s.heap.objs.size≠s.heap.objs.size+1:=y10 (y35 _)
 refine⟨by rw [z09 ne,z01],y2g _,ne,e2,fun _=>none,(Heap.Ns1.of_empty e3).at fun o q=>Heap.get?_push_of_some _ q,fun _=>True.intro,fun y hy=>absurd rfl hy⟩
theorem zk1 {prog:Program}{w:World}{env:Env}{e:Expr}{f:Str}{pos:Pos}{s:Shared}{Q:Value→Shared→Prop}(hb:attributeBase e f env (eval e env)=eval e env)
  (h:wpAny (model prog w) A (eval e env) (fun o s₁=>wpAny (model prog w) A (getAttr o f true) Q E s₁) E s):wpAny (model prog w) A (eval (.Attribute e f pos) env) Q E s :=
 Attribute_any_ h (by rw [arm_eval_Attribute,hb])
end
def zpu (K:y03)(ta:TE)(f:Str):TE:=fun σ H Q=>ta σ H fun x H1=>∃a C dx fs v,x = .ref a∧H1 a=some (.ins C dx fs)∧Cls K C∧NoAttr K C f∧fs.lookup f=some v∧Q v H1
def zpq (K:y03)(ta tv:TE)(f:Str):TS:=fun D σ H=>tv σ H fun y H1=>ta σ H1 fun x H2=>∃a C dx fs,x = .ref a∧H2 a=some (.ins C dx fs)∧Cls K C∧NoAttr K C f∧fs.length<1000 ∧
 D.nx σ (upd H2 a (.ins C dx (z77 f y fs)))
section
variable {X:Cx}{o e value:Expr}{f:Str}{pos pos' tpos:Pos}{ta tv:TE}
theorem znd (he:PE X e ta)(hb:attributeBase e f X.env (eval e X.env)=eval e X.env):PE X (.Attribute e f pos) (zpu X.K ta f):=by
 intro pins s σ H Q I h
 refine zk1 hb (thn (he pins s σ H _ I h) fun u s1 ⟨x,H1,I1,rx,a,C,dx,fs,v,ex,ea,c,n,l,q⟩=>?_)
 subst ex
 obtain rfl:u=Value.ref a:=rx
 exact ze1 I1 ea c n l fun u' s2 I2 ru=>⟨v,H1,I2,ru,q⟩
theorem zm0 (ha:PE X o ta)(hv:PE X value tv)(hs:swapsWith value (some (.Attribute o f pos')) pos.line X.env=pure false):PS X (.Assign [.Attribute o f pos'] value pos) (zpq X.K ta tv f):=by
 intro pins s σ H D I h
 refine plainObj_wpAny_Assign_Attribute (thn (hv pins s σ H _ I h) fun u s1 ⟨y,H1,I1,ry,q⟩=>thn (ha pins s1 σ H1 _ I1 q) fun ov s2 ⟨x,H2,I2,rx,a,C,dx,fs,ex,ea,c,n,l,q2⟩=>?_) hs
 subst ex
 obtain rfl:ov=Value.ref a:=rx
 exact ze4 I2 ea c n l ry fun s3 I3=>⟨σ,_,I3,q2⟩
end
section
variable {X:Cx}{pins:List (Addr×Obj)}{σ:St}{H:Hp}{s:Shared}{A:Around}{E:Value→Shared→Prop}{Q:Value→Shared→Prop}{c:Value}{b:Bool}
inductive TyOf (K:y03) (H:Hp):V→Value→Prop where
 | non:TyOf K H .non (.type "NoneType")
 | bl (x:Bool):TyOf K H (.bl x) (.type "bool")
 | int (i:Int):TyOf K H (.int i) (.type "int")
 | str (x:Str):TyOf K H (.str x) (.type "str")
 | flt (x:UInt64):TyOf K H (.flt x) (.type "float")
 | lst {a:Addr} {xs:List V} (e:H a=some (.lst xs)):TyOf K H (.ref a) (.type "list")
 | frz {a:Addr} {o:Obj} {xs:List V} (e:H a=some (.frz o (.lst xs))):TyOf K H (.ref a) (.type "list")
 | tup {a:Addr} {xs:List V} (e:H a=some (.tup xs)):TyOf K H (.ref a) (.type "tuple")
 | dK {a:Addr} {kvs:List (Key×V)} (e:H a=some (.dK kvs)):TyOf K H (.ref a) (.type "dict")
 | dT {a:Addr} {kvs:List (List Key×V)} (e:H a=some (.dT kvs)):TyOf K H (.ref a) (.type "dict")
 | ins {a C dx:Addr} {fs:List (Str×V)} (e:H a=some (.ins C dx fs)) (cl:Cls K C) (ha:y0y K (.ref C) "__class__"=some (some (.builtin "object.__class__")))
   (hn:y6a K (.builtin "object.__class__") "__get__"=some (some (.builtin "getset_descriptor.__get__"))) (htk:PySem.W.takesIn K (.builtin "object.__class__")=some true)
   (hm:PySem.W.mroIn K C (.type "object")=some true):TyOf K H (.ref a) (.ref C)
theorem zgd {x:V}{u t:Value}(I:Inv X pins σ H s)(rx:RelV x u)(ty:TyOf X.K H x t)(e:y6z X.K t c=some b)(h:∀tk,Q (.bool b) { s with toks:=tk }) :
  wpAny (model X.prog X.w) A (call (.builtin "isinstance") [u,c]) Q E s:=by
 cases ty with
 | non=>cases (show u=Value.none from rx); exact y21 PySem.W.kitx_none I.kIn True.intro e (fun z=>nomatch z) h
 | bl y=>cases (show u=Value.bool y from rx); exact y21 PySem.W.kitx_bool I.kIn True.intro e (fun z=>nomatch z) h
 | int i=>obtain⟨t,q⟩:=(show ∃t,u=Value.int i t from rx); cases q; exact y21 PySem.W.kitx_int I.kIn True.intro e (fun z=>nomatch z) h
 | str y=>obtain⟨t,q⟩:=(show ∃t,u=Value.str y t from rx); cases q; exact y21 PySem.W.kitx_str I.kIn True.intro e (fun z=>nomatch z) h
 | flt y=>obtain⟨t,q⟩:=(show ∃t,u=Value.float y t from rx); cases q; exact y21 PySem.W.kitx_float I.kIn True.intro e (fun z=>nomatch z) h
 | @lst a xs ea =>
  cases (show u=Value.ref a from rx)
  obtain⟨_,_,n,_,h1⟩:=(show ObjOk X.prog X.w H s.heap a (.lst xs) from I.hok a _ ea)
  exact y21 y6b I.kIn ⟨_,h1,rfl⟩ e (fun z=>nomatch z) h
 | @frz a ob xs ea =>
  cases (show u=Value.ref a from rx)
  obtain⟨_,_,_,n,_,h1⟩:=(show ObjOk X.prog X.w H s.heap a (.frz ob (.lst xs)) from I.hok a _ ea)
  exact y21 y6b I.kIn ⟨_,h1,rfl⟩ e (fun z=>nomatch z) h
 | @tup a xs ea =>
  cases (show u=Value.ref a from rx)
  obtain⟨_,_,_,p⟩:=(show ObjOk X.prog X.w H s.heap a (.tup xs) from I.hok a _ ea)
  obtain⟨o,h1,h2,_⟩:=p
  exact y21 PySem.W.kitx_tuple I.kIn ⟨o,h1,h2⟩ e (fun z=>nomatch z) h
 | @dK a kvs ea =>
  cases (show u=Value.ref a from rx)
  obtain⟨_,_,vs,_,p⟩:=(show ObjOk X.prog X.w H s.heap a (.dK kvs) from I.hok a _ ea)
  obtain⟨o,es,ep,h1,h2,_⟩:=p
  exact y21 y6c I.kIn ⟨o,h1,h2.1⟩ e (fun z=>nomatch z) h
 | @dT a kvs ea =>
  cases (show u=Value.ref a from rx)
  obtain⟨_,_,xs,_,o,es,ep,h1,h2,_⟩:=(show ObjOk X.prog X.w H s.heap a (.dT kvs) from I.hok a _ ea)
  exact y21 y6c I.kIn ⟨o,h1,h2.1⟩ e (fun z=>nomatch z) h
 | @ins a C dx fs ea cl ha hn htk hm =>
  cases (show u=Value.ref a from rx)
  obtain⟨mA,O,_⟩:=z9k I.hok ea
  obtain⟨od,J,_⟩:=O.look
  exact y21 (PySem.W.kitx_own (cl.get _) cl.hd ha hn htk hm) I.kIn J e (fun z=>nomatch z) h
end
end L2
namespace L2
open PySem PySem.Spec PyProof.Rows
structure Room (k:Nat)(A:Around):Prop where
 hd:A.handled=none
 dp:A.depth+3*k+5<recursionLimit
 un:A.units+16*k+200<cLine
theorem Room.mono {j k:Nat}{A:Around}(r:Room k A)(h:j≤k):Room j A:=⟨r.hd,by have:=r.dp; omega,by have:=r.un; omega⟩
theorem Room.deeper {k:Nat}{A:Around}(r:Room (k+1) A)(env:Env):Room k (A.deeper env) :=
 ⟨r.hd,by have:=r.dp; show A.depth+1+3*k+5<_; omega,by have:=r.un; show A.units+3+16*k+200<_; omega⟩
theorem zdm {A:Around}{C:Addr}{us:List Value}{kw:List (Str×Value)}:(A.under (.builtin "type.__call__" ⟨.ref C::us,kw⟩)).depth=A.depth+1:=by
 first | rfl | simp [Around.under,Code.weight,Code.isCreation,Code.isGuard,Code.isCaller,Code.frames,Code.isFrame,guardIds]
theorem zdx {A:Around}{C:Addr}{us:List Value}{kw:List (Str×Value)}:(A.under (.builtin "type.__call__" ⟨.ref C::us,kw⟩)).units=A.units+1:=by
 first | rfl | simp [Around.under,Code.cUnits,Code.frames,Code.isFrame]
theorem Room.make {k:Nat}{A:Around}(r:Room (k+1) A)(C:Addr)(us:List Value)(kw:List (Str×Value)):Room k (A.under (.builtin "type.__call__" ⟨.ref C::us,kw⟩)) :=
 ⟨r.hd,by have:=r.dp; rw [zdm]; omega,by have:=r.un; rw [zdx]; omega⟩
theorem Room.depth {k:Nat}{A:Around}(r:Room k A):A.depth<recursionLimit:=by have:=r.dp; omega
def zka:TA:=fun _ H Q=>Q [] H
def zf2 (ta:TE)(tr:TA):TA:=fun σ H Q=>ta σ H fun x H1=>tr σ H1 fun xs H2=>Q (x::xs) H2
section
variable {X:Cx}{e:Expr}{es:List Expr}{te:TE}{t:TA}{pos:Pos}
theorem z04:PA X [] zka:=fun _ _ _ _ H Q I h=>Calls.spliced_nil ⟨[],H,I,.nil,h⟩
theorem z00 (ha:PE X e te)(hr:PA X es t)(hs:starEach (e::es) X.env=(false,eval e X.env)::starEach es X.env:=by rfl):PA X (e::es) (zf2 te t):=by
 intro pos pins s σ H Q I h
 rw [hs]
 show wpAny _ _ (spliced ((false,eval e X.env)::backTo pos (starEach es X.env))) _ _ s
 refine Calls.spliced_cons (thn (ha pins s σ H _ I h) fun u s1 ⟨x,H1,I1,r1,q1⟩=>?_)
 exact thn (hr pos pins s1 σ H1 _ I1 q1) fun us s2 ⟨xs,H2,I2,r2,q2⟩=>⟨x::xs,H2,I2,.cons r1 r2,q2⟩
def zo0 (t:TA):TE:=fun σ H Q=>t σ H fun xs H1=>xs.length≤sizeLine∧∀p,H1 p=none→Q (.ref p) (upd H1 p (.tup xs))
def znv (t:TA):TE:=fun σ H Q=>t σ H fun xs H1=>xs.length≤sizeLine∧∀p,H1 p=none→Q (.ref p) (upd H1 p (.lst xs))
theorem z4g {x1}(h:PA X es t):PE X (.Tuple es x1 pos) (zo0 t):=by
 intro pins s σ H Q I hq
 refine wpAny_Tuple_spliced (thn (h pos pins s σ H _ I hq) fun us s1 ⟨xs,H1,I1,r,z,q⟩=>⟨by rw [←r.length]; exact z,?_⟩)
 have hf:H1 s1.heap.objs.size=none:=I1.hok.fresh (y0a _)
 refine⟨.ref s1.heap.objs.size,upd H1 s1.heap.objs.size (.tup xs),I1.laid (t':=s1.toks) (fun b u e=>Heap.get?_push_of_some _ e) (y0a _) ?_,rfl,q _ hf⟩
 exact⟨z,us,r,⟨_,Heap.get?_push_size _ rfl,rfl,_,rfl⟩⟩
theorem z19 (h:PA X es t):PE X (.List es pos) (znv t):=by
 intro pins s σ H Q I hq
 refine wpAny_List_spliced (thn (h pos pins s σ H _ I hq) fun us s1 ⟨xs,H1,I1,r,z,q⟩=>⟨by rw [←r.length]; exact z,?_⟩)
 have hf:H1 s1.heap.objs.size=none:=I1.hok.fresh (y0a _)
 refine⟨.ref s1.heap.objs.size,upd H1 s1.heap.objs.size (.lst xs),I1.laid (t':=s1.toks) (fun b u e=>Heap.get?_push_of_some _ e) (y0a _) ?_,rfl,q _ hf⟩
 exact⟨z,us,0,r,Heap.get?_push_size _ rfl⟩
end
abbrev Sp:=List V→Hp→VK→XK→Prop
abbrev CXT:=List Env→Hp→Shared→XK→Value→Shared→Prop
structure Env0 (P:Program)(w:World)(K:y03)(mg:Str→Option Value)(base:Heap)(A:Around)(outer:List Env)(s:Shared)(H:Hp):Prop where
 frames:A.frames=some outer
 mod:Mod K mg base
 bs:∀b o,base.get? b=some o→s.heap.get? b=some o∧H b=none
 bsz:base.objs.size≤s.heap.objs.size
 funs:s.heap.FunFrames base outer
 frf:∀b∈frs outer,H b=none
 hok:HOk P w H s.heap
 bare:AllBare s.gens
def CE (outer:List Env)(P:Program)(w:World)(H:Hp)(s:Shared)(Q:VK)(u:Value)(s':Shared):Prop :=
 ∃v H',s'.os=s.os∧AllBare s'.gens∧Un (frs outer) [] H H' s.heap s'.heap∧HOk P w H' s'.heap∧RelV v u∧Q v H'
def CR (CX:CXT)(outer:List Env)(P:Program)(w:World)(H:Hp)(s:Shared)(Q:VK)(E:XK)(r:Result)(s':Shared):Prop :=
 match r with
 | .ok (.ret u)=>CE outer P w H s Q u s'
 | .ok _=>False
 | .error e=>CX outer H s E e s'
structure FnOk (P:Program)(w:World)(K:y03)(mg:Str→Option Value)(base:Heap)(CX:CXT)(k:Nat)(f:Addr)(fd:FuncData)(ps:List Str)(sp:Sp):Prop where
 len:∀vs H Q E,sp vs H Q E→vs.length=ps.length
 run:∀(A:Around) (outer:List Env) (s:Shared) (H:Hp) (args:Args) (us:List Value) (vs:List V) (Q:VK) (E:XK),Room k A→Env0 P w K mg base A outer s H→BindsTo s fd args (ps.zip us)→Vals vs us→sp vs H Q E →
  codeAny (model P w) A (.call (.ref f) args) (CR CX outer P w H s Q E) s
theorem Env0.make {P:Program}{w:World}{K:y03}{mg:Str→Option Value}{base:Heap}{A:Around}{outer:List Env}{s:Shared}{H:Hp}(e:Env0 P w K mg base A outer s H)(C:Addr)(us:List Value)(kw:List (Str×Value)) :
  Env0 P w K mg base (A.under (.builtin "type.__call__" ⟨.ref C::us,kw⟩)) outer s H:=⟨by first | exact e.frames | (simpa [Around.under,Code.envs,Code.isFrame,pushEnvs] using e.frames),e.mod,e.bs,e.bsz,e.funs,e.frf,e.hok,e.bare⟩
section
variable {X:Cx}{pins:List (Addr×Obj)}{σ:St}{H:Hp}{s s':Shared}
theorem Inv.env0 (I:Inv X pins σ H s):Env0 X.prog X.w X.K X.mg X.base X.A X.stack s H :=
 ⟨I.ok.frames,I.ok.mod,I.bs,y1a I.ok.bsz I.sz,I.stack,I.stkFree,I.hok,I.bare⟩
theorem Inv.after {Q:VK}{u:Value}(I:Inv X pins σ H s)(h:CE X.stack X.prog X.w H s Q u s'):EP X pins σ Q u s':=by
 obtain⟨v,H',os,bare,un,hok,r,q⟩:=h
 obtain⟨hh,g,d,t,os'⟩:=s'
 obtain rfl:os'=s.os:=os
 exact⟨v,H',I.call (h':=hh) (g':=g) (d':=d) (t':=t) (ch:=[]) un hok bare (fun b z=>absurd z (by simp)),r,q⟩
end
def zmv (C:Addr)(m:Str)(sp:Sp)(dvs:List V)(E:XK)(ta:TE)(t:TA):TE:=fun σ H Q=>ta σ H fun x H1=>∃a dx fs,x = .ref a∧H1 a=some (.ins C dx fs)∧fs.lookup m=none ∧
 t σ H1 fun vs H2=>sp (x::(vs++dvs)) H2 Q E
def zok (C:Addr)(sp:Sp)(dvs:List V)(E:XK)(t:TA):TE:=fun σ H Q=>t σ H fun vs H1=>∀x dx,H1 x=none→H1 dx=none→dx≠x →
 sp (.ref x::(vs++dvs)) (upd (upd H1 dx (.own x)) x (.ins C dx [])) (fun v H2=>v = .non∧Q (.ref x) H2) E
def Binds (K:y03)(fd:FuncData)(ps:List Str)(ds:List Value):Prop :=
 ∀(s:Shared) (us:List Value),K.In s.heap→(us++ds).length=ps.length→BindsTo s fd ⟨us,[]⟩ (ps.zip (us++ds))
theorem Binds.all {K:y03}{fd:FuncData}{ps:List Str}(h:∀us:List Value,us.length=ps.length→bindArgs fd ⟨us,[]⟩=pure (ps.zip us)):Binds K fd ps []:=fun s us _ hl=>by
 rw [y2u] at hl ⊢
 exact .of_eq (h us hl)
def z8q (CX:CXT)(X:Cx)(E:XK):Prop:=∀(pins:List (Addr×Obj)) (σ:St) (H:Hp) (s:Shared) (e:Value) (s':Shared),Inv X pins σ H s→CX X.stack H s E e s'→X.xe e s'
section
variable {X:Cx}{CX:CXT}{k:Nat}{f C:Addr}{fd:FuncData}{ps:List Str}{sp:Sp}{dvs:List V}{ds:List Value}{E:XK}{x m:Str}{p pos apos:Pos}{e o:Expr}{es:List Expr}{ta:TE}{t:TA}
theorem zfy {pins:List (Addr×Obj)}{σ:St}{H:Hp}{s:Shared}{Q:VK}{us:List Value}{vs:List V}(F:FnOk X.prog X.w X.K X.mg X.base CX k f fd ps sp)(hr:Room k X.A)(hb:Binds X.K fd ps ds)(hd:Vals dvs ds)(hx:z8q CX X E)
  (I:Inv X pins σ H s) (r:Vals vs us) (h:sp (vs++dvs) H Q E):wpAny (model X.prog X.w) X.A (call (.ref f) us) (EP X pins σ Q) X.xe s:=by
 have r2:Vals (vs++dvs) (us++ds):=r.append hd
 have hl:(us++ds).length=ps.length:=by rw [←r2.length]; exact F.len _ _ _ _ h
 refine wpAny_call (codeAny_mono (F.run X.A X.stack s H ⟨us,[]⟩ (us++ds) (vs++dvs) Q E hr I.env0 (hb s us I.kIn hl) r2 h) fun r s' hq=>?_)
 cases r with
 | error e=>exact hx pins σ H s e s' I hq
 | ok fl =>
  cases fl with
  | ret u=>exact I.after hq
  | next=>exact False.elim hq
  | brk=>exact False.elim hq
  | cont=>exact False.elim hq
theorem zle {pl:Sem Bool}(he:PE X o ta)(c:Cls X.K C)(hm:Meth X.K C m f)(F:FnOk X.prog X.w X.K X.mg X.base CX k f fd ps sp)(hr:Room k X.A)(hb:Binds X.K fd ps ds)(hd:Vals dvs ds)(hx:z8q CX X E)(ha:PA X (e::es) t)
  (hst:starEach (e::es) X.env=(false,eval e X.env)::starEach es X.env:=by rfl) (hpl:(backTo pos (starEach es X.env)).any (·.1)=false:=by rfl)
  (ht:eval (.Call (.Attribute o m apos) (e::es) [] pos) X.env=(do
   let ov ←eval o X.env
   standAt apos.atName
   let (f,first) ←holding [ov] (getMethod ov m pl)
   callWith pos f first (backTo pos (starEach (e::es) X.env)) (backToKw pos (keywordEach [] X.env))):=by rfl) :
  PE X (.Call (.Attribute o m apos) (e::es) [] pos) (zmv C m sp dvs E ta t):=by
 intro pins s σ H Q I h
 refine y5g (pl:=pl) (thn (he pins s σ H _ I h) fun u s1 ⟨x,H1,I1,rx,a,dx,fs,ex,ea,l,q⟩=>?_) ht
 subst ex
 obtain rfl:u=Value.ref a:=rx
 refine z8x I1 ea c hm l ?_
 refine y4i (first:=[.ref a]) (h₀:=X.base) I.ok.mod.kin hm.kp (thn (ha pos pins s1 σ H1 _ I1 q) fun us s2 ⟨vs,H2,I2,r,q2⟩=>⟨I2.kIn,?_⟩) hst hpl
 exact zfy (us:=.ref a::us) (vs:=.ref a::vs) F hr hb hd hx I2 (.cons rfl r) q2
theorem zhn {pl:Sem Bool}(he:PE X o ta)(c:Cls X.K C)(hm:Meth X.K C m f)(F:FnOk X.prog X.w X.K X.mg X.base CX k f fd ps sp)(hr:Room k X.A)(hb:Binds X.K fd ps ds)(hd:Vals dvs ds)(hx:z8q CX X E)
  (ht:eval (.Call (.Attribute o m apos) [] [] pos) X.env=(do
   let ov ←eval o X.env
   standAt apos.atName
   let (f,first) ←holding [ov] (getMethod ov m pl)
   callWith pos f first (backTo pos (starEach [] X.env)) (backToKw pos (keywordEach [] X.env))):=by rfl) :
  PE X (.Call (.Attribute o m apos) [] [] pos) (zmv C m sp dvs E ta zka):=by
 intro pins s σ H Q I h
 refine y5g (pl:=pl) (thn (he pins s σ H _ I h) fun u s1 ⟨x,H1,I1,rx,a,dx,fs,ex,ea,l,q⟩=>?_) ht
 subst ex
 obtain rfl:u=Value.ref a:=rx
 refine z8x I1 ea c hm l ?_
 exact PySem.W.callWith_K0 (first:=[.ref a]) I1.kIn hm.kp (zfy (us:=[.ref a]) (vs:=[.ref a]) F hr hb hd hx I1 (.cons rfl .nil) q)
structure Mk (K:y03)(C f:Addr):Prop where
 makes:y4d K C=true
 init:y0y K (.ref C) "__init__"=some (some (.ref f))
 fn:y1y K (.ref f)=true
 kp:y0i K (.ref C)=true
theorem zie {pins:List (Addr×Obj)}{σ:St}{H:Hp}{s:Shared}{Q:VK}{us:List Value}{vs:List V}(M:Mk X.K C f)(F:FnOk X.prog X.w X.K X.mg X.base CX k f fd ps sp)(hr:Room (k+1) X.A)(hb:Binds X.K fd ps ds)(hd:Vals dvs ds)
  (hx:z8q CX X E) (I:Inv X pins σ H s) (r:Vals vs us)
  (h:∀x dx,H x=none→H dx=none→dx≠x→sp (.ref x::(vs++dvs)) (upd (upd H dx (.own x)) x (.ins C dx [])) (fun v H2=>v = .non∧Q (.ref x) H2) E) :
  wpAny (model X.prog X.w) X.A (call (.ref C) us) (EP X pins σ Q) X.xe s:=by
 have hq:=h (s.heap.objs.size+1) s.heap.objs.size (I.hok.fresh (y53 _)) (I.hok.fresh (y0a _)) (y10 (y35 _))
 have I2:=Inv.made (C:=C) I
 have r2:Vals (V.ref (s.heap.objs.size+1)::(vs++dvs)) (Value.ref (s.heap.objs.size+1)::(us++ds)):=.cons rfl (r.append hd)
 have hl:(Value.ref (s.heap.objs.size+1)::us++ds).length=ps.length:=by
  have e:=r2.length
  rw [F.len _ _ _ _ hq] at e
  exact e.symm
 refine wpAny_call (zhw (f:=f) I.kIn M.makes M.init (beq_iff_eq.mp M.fn) (codeAny_mono (F.run _ X.stack _ _ ⟨Value.ref (s.heap.objs.size+1)::us,[]⟩ (Value.ref (s.heap.objs.size+1)::(us++ds)) _ _ E (hr.make C us [])
  (I2.env0.make C us []) (hb _ (Value.ref (s.heap.objs.size+1)::us) I2.kIn hl) r2 hq) fun r s' hq'=>?_))
 cases r with
 | error e=>exact hx pins σ _ _ e s' I2 hq'
 | ok fl =>
  cases fl with
  | ret u =>
   obtain⟨v,H',I3,rv,ev,q3⟩:=I2.after hq'
   subst ev
   exact⟨rv,⟨V.ref (s.heap.objs.size+1),H',I3,rfl,q3⟩⟩
  | next=>exact False.elim hq'
  | brk=>exact False.elim hq'
  | cont=>exact False.elim hq'
theorem zk8 (M:Mk X.K C f)(F:FnOk X.prog X.w X.K X.mg X.base CX k f fd ps sp)(hr:Room (k+1) X.A)(hg:Gl X x)(hm:X.mg x=some (.ref C))(hb:Binds X.K fd ps ds)(hd:Vals dvs ds)(hx:z8q CX X E)
  (ha:PA X (e::es) t) (hdb:(x==("__debug__":Str))=false:=by decide) (he:starEach (e::es) X.env=(false,eval e X.env)::starEach es X.env:=by rfl) (hpl:(backTo pos (starEach es X.env)).any (·.1)=false:=by rfl) :
  PE X (.Call (.Name x p) (e::es) [] pos) (zok C sp dvs E t):=by
 intro pins s σ H Q I h
 refine wpAny_Call_Name_kw (zgu I hg hm ?_ hdb)
 refine y4i (h₀:=X.base) I.ok.mod.kin M.kp (thn (ha pos pins s σ H _ I h) fun us s1 ⟨vs,H1,I1,r,q⟩=>⟨I1.kIn,?_⟩) he hpl
 exact zie M F hr hb hd hx I1 r q
end
section
variable {X:Cx}{CX:CXT}{k:Nat}{f C:Addr}{fd:FuncData}{ps ks:List Str}{sp:Sp}{E:XK}{x m:Str}{p pos apos kpos:Pos}{e o:Expr}{es:List Expr}{kws:List Keyword}{te ta:TE}{t tk:TA}{nm:Option Str}
structure KBinds (K:y03)(fd:FuncData)(ps ks:List Str)(g:List Value→List Value→List Value)(gV:List V→List V→List V):Prop where
 to:∀(s:Shared) (us ws:List Value),K.In s.heap→(g us ws).length=ps.length→BindsTo s fd ⟨us,ks.zip ws⟩ (ps.zip (g us ws))
 rel:∀{vs:List V} {us:List Value} {zs:List V} {ws:List Value},Vals vs us→Vals zs ws→Vals (gV vs zs) (g us ws)
variable {g:List Value→List Value→List Value}{gV:List V→List V→List V}
end
structure FnScope (N P:List Str)(sc:Scope):Prop where
 kind:sc.kind = .function
 co:sc.isCoroutine=false
 gen:sc.isGenerator=false
 nd:N.Nodup
 pre:N.take P.length=P
 par:∀x∈P,sc.names.lookup x=some .local∨sc.names.lookup x=some .cell
 nofree:∀y∈sc.names,y.2 ≠ .free
theorem zar {kindOf:Str→Option NameKind}{x:Str}:∀{binds:List (Str×Value)} {m:Str→Option Value},(∀v,(x,v) ∉ binds)→bindL kindOf binds m x=m x
 | [],_,_=>rfl
 | (n,v)::r,m,h=>by
  unfold bindL
  rw [zar fun w hw=>h w (y0c _ hw)]
  split
  ·have:x≠n:=by rintro rfl; exact h v y0d
   simp [this]
  ·rfl
theorem za1 {kindOf:Str→Option NameKind}{x:Str}:∀{binds:List (Str×Value)} {m:Str→Option Value},(∀v,(x,v) ∉ binds)→bindC kindOf binds m x=m x
 | [],_,_=>rfl
 | (n,v)::r,m,h=>by
  unfold bindC
  rw [za1 fun w hw=>h w (y0c _ hw)]
  split
  ·rfl
  ·have:x≠n:=by rintro rfl; exact h v y0d
   simp [this]
theorem zb0 {kindOf:Str→Option NameKind}{x:Str}{v:Value}:∀{P:List Str} {vs:List Value} {i:Nat} {m:Str→Option Value},P.Nodup→P[i]?=some x→vs[i]?=some v→kindOf x=some .local →
  bindL kindOf (P.zip vs) m x=some v
 | [],_,_,_,_,h,_,_=>by simp at h
 | _::_,[],_,_,_,_,h,_=>by simp at h
 | p::P,w::vs,0,m,nd,h1,h2,hk=>by
  simp at h1 h2; subst h1; subst h2
  show bindL kindOf ((p,w)::P.zip vs) m p=_
  unfold bindL
  rw [zar fun v hv=>(y3b.mp nd).1 (y1i hv).1,if_pos hk]
  simp
 | p::P,w::vs,i+1,m,nd,h1,h2,hk=>by
  show bindL kindOf ((p,w)::P.zip vs) m x=_
  unfold bindL
  exact zb0 (i:=i) (y3b.mp nd).2 (by simpa using h1) (by simpa using h2) hk
theorem zb1 {kindOf:Str→Option NameKind}{x:Str}{v:Value}:∀{P:List Str} {vs:List Value} {i:Nat} {m:Str→Option Value},P.Nodup→P[i]?=some x→vs[i]?=some v→kindOf x≠some .local →
  bindC kindOf (P.zip vs) m x=some v
 | [],_,_,_,_,h,_,_=>by simp at h
 | _::_,[],_,_,_,_,h,_=>by simp at h
 | p::P,w::vs,0,m,nd,h1,h2,hk=>by
  simp at h1 h2; subst h1; subst h2
  show bindC kindOf ((p,w)::P.zip vs) m p=_
  unfold bindC
  rw [za1 fun v hv=>(y3b.mp nd).1 (y1i hv).1,if_neg hk]
  simp
 | p::P,w::vs,i+1,m,nd,h1,h2,hk=>by
  show bindC kindOf ((p,w)::P.zip vs) m x=_
  unfold bindC
  exact zb1 (i:=i) (y3b.mp nd).2 (by simpa using h1) (by simpa using h2) hk
def start (N:List Str)(vs:List V):St:=vs.map some++y05 (N.length - vs.length) none
def zh8 (CX:CXT)(P:Program)(w:World)(K:y03)(mg:Str→Option Value)(base:Heap)(N:List Str)(qual:Str)(scope:Scope)(f:Addr)(cd:Value)(A:Around)(outer:List Env)(s:Shared)(H:Hp)(E:XK):Cx where
 prog:=P
 w:=w
 K:=K
 mg:=mg
 base:=base
 A:=A.deeper (envOfC qual scope s.heap.objs.size f cd)
 N:=N
 s₀:=s
 H₀:=H
 env:=envOfC qual scope s.heap.objs.size f cd
 outer:=outer
 stack:=envOfC qual scope s.heap.objs.size f cd::outer
 ex:=[]
 calm:=true
 fn:=fun _=>true
 pn:=[]
 xe:=fun e s'=>wpAny (model P w) (A.deeper (envOfC qual scope s.heap.objs.size f cd)) (leaving (envOfC qual scope s.heap.objs.size f cd) e) (fun _ s''=>CX outer H s E e s'') (fun e' s''=>CX outer H s E e' s'') s'
theorem zcf {sc:Scope}{n:Nat}{x:Str}(h:sc.names.lookup x=some .cell):∃c,(cellsFrom n sc.names []).lookup x=some c:=by
 have q:=y5b sc.names n [] (.inl h)
 exact Option.isSome_iff_exists.mp q
theorem zfh {CX:CXT}{P:Program}{w:World}{K:y03}{mg:Str→Option Value}{base:Heap}{N ps:List Str}{qual:Str}{scope:Scope}{f:Addr}{cd:Value}{A:Around}{outer:List Env}{s s1:Shared}{H:Hp}{E:XK}{us:List Value}{vs:List V}
  (S:FnScope N ps scope) (hd:A.handled=none) (e0:Env0 P w K mg base A outer s H) (hl:vs.length=ps.length) (r:Vals vs us)
  (x:InCallC s s.heap.objs.size (bindL (envOfC qual scope s.heap.objs.size f cd).kindOf (ps.zip us) fun _=>none) (cellsFrom (s.heap.objs.size+1) scope.names []) (bindC (envOfC qual scope s.heap.objs.size f cd).kindOf (ps.zip us) fun _=>none) s1) :
  Inv (zh8 CX P w K mg base N qual scope f cd A outer s H E) [] (start N vs) H s1:=by
 have hpl:ps.length≤N.length:=by have:=congrArg y5w S.pre; rw [y0v] at this; omega
 obtain⟨h1,tk,rfl,hk⟩:=x.done
 have noA:∀b:Addr,b ∉ (zh8 CX P w K mg base N qual scope f cd A outer s H E).ex:=fun b z=>absurd (show b∈([]:List Addr) from z) (by simp)
 refine⟨⟨e0.mod,S.kind,rfl,rfl,y0a _,fun y z c h1 h2=>?_,fun y hy=>?_,fun y c _ h=>?_,fun _=>hd,Around.frames_deeper e0.frames,.inr ⟨rfl,rfl⟩,fun b z=>absurd z (noA b),e0.bs,e0.bsz,fun b _ _=>noA b,fun b z=>absurd z (noA b),e0.funs,e0.frf⟩,
  rfl,e0.bare,Un.kept hk,⟨_,x.toInCall.ns,fun i y v h1 h2 h3=>?_⟩,fun y c h=>⟨_,x.cell y c h⟩,e0.hok.fresh (y0a _),fun y c h=>?_,fun p hp=>absurd (show p∈([]:List (Addr×Obj)) from hp) (by simp),e0.hok.kept hk,?_⟩
 ·exact name_of_addr x.apart (y1z h1) (y1z h2)
 ·have hy:scope.names.lookup y=some .cell∨scope.names.lookup y=some .free:=hy
  rcases hy with hy | hy
  ·exact zcf hy
  ·exact absurd rfl (S.nofree _ (y1z hy))
 ·exact y5e (x.above y c (y1z h))
 ·have hi:i<vs.length:=by
   unfold start at h2
   by_cases hi:i<vs.length
   ·exact hi
   ·rw [y0w (by simpa using hi)] at h2
    rw [y1f] at h2
    split at h2<;>cases h2
  have ha:vs[i]?=some v:=by
   unfold start at h2
   rw [y0q (by simpa using hi),y06] at h2
   cases e:vs[i]? with
   | none=>rw [e] at h2; cases h2
   | some a=>rw [e] at h2; cases h2; rfl
  obtain⟨u,hu,rv⟩:=r.get ha
  have hp:ps[i]?=some y:=by
   rw [←S.pre,y4u (by omega)]; exact h1
  have ndP:ps.Nodup:=by rw [←S.pre]; exact S.nd.sublist (List.take_sublist _ _)
  refine⟨u,rv,?_⟩
  rcases S.par y (y02 hp) with k | k
  ·exact .inl ⟨k,zb0 ndP hp hu k⟩
  ·obtain⟨c,e⟩:=zcf (n:=s.heap.objs.size+1) k
   refine .inr ⟨.inl k,c,e,?_⟩
   have q:=x.cell y c e
   rw [zb1 ndP hp hu (by show scope.names.lookup y≠_; rw [k]; decide)] at q
   exact q
 ·exact e0.hok.fresh (y5e (x.above y c (y1z h)))
 ·unfold start
  show _=N.length
  rw [y0f,y04,y0x]
  omega
theorem zoc {CX:CXT}{P:Program}{w:World}{K:y03}{mg:Str→Option Value}{base:Heap}{k:Nat}{f:Addr}{name qual:Str}{params:Arguments}{body:List Stmt}{scope:Scope}{dV kV doc pm cdv ct oc:Value}{an od:Option Addr}
  {osl:Array (Option Value)} {N ps:List Str} {sp:Sp} (lk:K.lookup f=some ⟨oc,od,.func (y0o name qual params body scope dV kV doc pm an cdv ct),osl⟩) (hcd:y0k K cdv qual=true) (S:FnScope N ps scope)
  (len:∀vs H Q E,sp vs H Q E→vs.length=ps.length)
  (hbody:∀(A:Around) (outer:List Env) (s:Shared) (H:Hp) (vs:List V) (Q:VK) (E:XK),Room k (A.deeper (envOfC qual scope s.heap.objs.size f cdv))→sp vs H Q E →
   ∃t,PSs (zh8 CX P w K mg base N qual scope f cdv A outer s H E) body t∧t { nx:=fun _ H'=>Q .non H',rt:=Q } (start N vs) H) :
  FnOk P w K mg base CX (k+1) f (y0o name qual params body scope dV kV doc pm an cdv ct) ps sp:=by
 refine⟨len,fun A outer s H args us vs Q E hr e0 hb r hsp=>?_⟩
 have hl:=len _ _ _ _ hsp
 have KX:K.In s.heap:=e0.mod.kin.keeps fun b o e=>(e0.bs b o e).1
 have lim:s.heap.NoLimit:=e0.mod.nolimit.keeps fun b o e=>(e0.bs b o e).1
 have hkind:∀y∈ps.zip us,scope.names.lookup y.1=some .local∨(scope.names.lookup y.1=some .cell∧((cellsFrom (s.heap.objs.size+1) scope.names []).lookup y.1).isSome=true):=fun ⟨n,v⟩ hy=>by
  rcases S.par n (y1i hy).1 with q | q
  ·exact .inl q
  ·exact .inr ⟨q,y5b _ _ _ (.inl q)⟩
 refine codeAny_call_function hr.depth (KX _ _ lk) rfl S.co S.gen rfl (PySem.W.codeRec_of KX hcd) (hb _ _ _ _ ?_)
 refine wpAny_newFunctionEnv_cells S.kind hkind fun env he s1 x=>?_
 subst he
 refine⟨lim.keeps x.toInCall.keep,codeAny_func ?_⟩
 obtain⟨t,ht,hq⟩:=hbody A outer s H vs Q E (hr.deeper _) hsp
 have I:Inv (zh8 CX P w K mg base N qual scope f cdv A outer s H E) [] (start N vs) H s1:=zfh S hr.hd e0 hl r x
 refine wpAny_mono (ht [] s1 (start N vs) H _ I hq) (fun fl s' hs=>?_) fun e s' hs=>hs
 have fin:∀{σ':St} {H':Hp} {v:V} {u:Value},Inv (zh8 CX P w K mg base N qual scope f cdv A outer s H E) [] σ' H' s'→RelV v u→Q v H'→CE outer P w H s Q u s' :=
  fun {σ' H' v u} J rv q=>⟨v,H',J.os,J.bare,J.base,J.hok,rv,q⟩
 cases fl with
 | ret u =>
  obtain⟨v,σ',H',J,rv,q⟩:=hs
  exact fin J rv q
 | next =>
  obtain⟨σ',H',J,q⟩:=hs
  exact fin (v:=V.non) (u:=Value.none) J rfl q
 | brk =>
  obtain⟨_,_,_,q⟩:=hs
  exact False.elim q
 | cont =>
  obtain⟨_,_,_,q⟩:=hs
  exact False.elim q
end L2
namespace L2
open PySem PySem.Spec PyProof.Rows
section
variable {X:Cx}{x:Str}{p pos:Pos}{e:Expr}{es:List Expr}{t:TA}{id T:String}{r:List V→Hp→VK→Prop}
def tCB (r:List V→Hp→VK→Prop)(t:TA):TE:=fun σ H Q=>t σ H fun vs H1=>r vs H1 Q
theorem zio (hc:z44 X (.builtin id) r)(hg:Gl X x)(hm:X.mg x=none)(hv:bootBuiltins x=some (.builtin id))(ha:PA X (e::es) t)(hn:x ≠ "__name__":=by decide)(hdb:(x==("__debug__":Str))=false:=by decide)
  (he:starEach (e::es) X.env=(false,eval e X.env)::starEach es X.env:=by rfl) (hpl:(backTo pos (starEach es X.env)).any (·.1)=false:=by rfl):PE X (.Call (.Name x p) (e::es) [] pos) (tCB r t):=by
 intro pins s σ H Q I h
 refine wpAny_Call_Name_kw (z5z I hg hm hv ?_ hn hdb)
 exact PyProof.Rows.callWith_builtin1 (thn (ha pos pins s σ H _ I h) fun us s1 ⟨vs,H1,I1,r1,q1⟩=>hc pins s1 σ H1 vs us Q I1 r1 q1) he hpl
theorem zfe (hc:z44 X (.type T) r)(hg:Gl X x)(hm:X.mg x=none)(hv:bootBuiltins x=some (.type T))(ha:PA X (e::es) t)(hn:x ≠ "__name__":=by decide)(hdb:(x==("__debug__":Str))=false:=by decide)
  (he:starEach (e::es) X.env=(false,eval e X.env)::starEach es X.env:=by rfl) (hpl:(backTo pos (starEach es X.env)).any (·.1)=false:=by rfl):PE X (.Call (.Name x p) (e::es) [] pos) (tCB r t):=by
 intro pins s σ H Q I h
 refine wpAny_Call_Name_kw (z5z I hg hm hv ?_ hn hdb)
 exact y1s (thn (ha pos pins s σ H _ I h) fun us s1 ⟨vs,H1,I1,r1,q1⟩=>hc pins s1 σ H1 vs us Q I1 r1 q1) he hpl
end
end L2
namespace HT
open PySem PyProof.Rows
section
open PySem.SeqAt
open PySem.AutoSeq1 (wpAny_loadPart')
open PySem.MeetsSeq PySem.MeetsSeq2 PySem.MeetsSeq3
end
section
variable {prog:Program}{w:World}{A:Around}{E:Value→Shared→Prop}{s:Shared}
def sIx (n d:Nat):Option Int→Nat
 | none=>d
 | some v=>if v<0 then (v+(n:Int)).toNat else min v.toNat n
theorem sIx_none (n d:Nat):sIx n d none=d:=rfl
theorem sIx_nat (n d k:Nat):sIx n d (some (k:Int))=min k n:=by
 show(if (k:Int)<0 then ((k:Int)+(n:Int)).toNat else min (k:Int).toNat n)=min k n
 rw [if_neg (by omega),y3x]
end
end HT
namespace L2
open PySem PySem.Spec PyProof.Rows
abbrev TO:=St→Hp→(Option Int→Hp→Prop)→Prop
def PO (X:Cx)(e:Option Expr)(t:TO):Prop :=
 ∀(pins:List (Addr×Obj)) (s:Shared) (σ:St) (H:Hp) (Q:Option Int→Hp→Prop),Inv X pins σ H s→t σ H Q →
  wpAny (model X.prog X.w) X.A (evalPart e X.env) (fun u s'=>∃o H',Inv X pins σ H' s'∧IsPart u o∧Q o H') X.xe s
def zbx:TO:=fun _ H Q=>Q none H
def zoq (t:TE):TO:=fun σ H Q=>t σ H fun x H1=>∃i,x = .int i∧Q (some i) H1
section
variable {X:Cx}{e:Expr}{te:TE}{lo hi:Option Expr}{tl th:TO}{pos p2:Pos}
theorem z6d:PO X none zbx:=by
 intro pins s σ H Q I h
 rw [evalPart_none]
 exact wpAny_pure ⟨none,H,I,.none,h⟩
theorem zk6 (h:PE X e te):PO X (some e) (zoq te):=by
 intro pins s σ H Q I hw
 rw [evalPart_some]
 refine thn (h pins s σ H _ I hw) fun u s1 ⟨x,H1,I1,r1,q1⟩=>?_
 obtain⟨i,rfl,q⟩:=q1
 obtain⟨t,rfl⟩:=r1
 exact⟨some i,H1,I1,.int i t,q⟩
def SlR (X:Cx)(r:V→Option Int→Option Int→Hp→VK→Prop):Prop :=
 ∀(pins:List (Addr×Obj)) (s:Shared) (σ:St) (H:Hp) (x:V) (v vl vu:Value) (lo hi:Option Int) (sl:Addr) (Q:VK),Inv X pins σ H s→RelV x v→s.heap.IsSliceOf sl vl vu .none→IsPart vl lo→IsPart vu hi→r x lo hi H Q →
  ∃T id,typeLookup (.type T) "__getitem__"=pure (some (.builtin id))∧s.TypeIs v T∧wpAny (model X.prog X.w) X.A (getItem v (.ref sl)) (EP X pins σ Q) X.xe s
def tSl (r:V→Option Int→Option Int→Hp→VK→Prop)(te:TE)(tl th:TO):TE:=fun σ H Q=>te σ H fun x H1=>tl σ H1 fun l H2=>th σ H2 fun u H3=>r x l u H3 Q
theorem zhp {r:V→Option Int→Option Int→Hp→VK→Prop}(hr:SlR X r)(he:PE X e te)(hl:PO X lo tl)(hu:PO X hi th):PE X (.Subscript e (.Slice lo hi none p2) pos) (tSl r te tl th):=by
 intro pins s σ H Q I h
 refine Subscript_ (thn (he pins s σ H _ I h) fun v s1 ⟨x,H1,I1,r1,q1⟩=>?_)
 refine wpAny_Slice (thn (hl pins s1 σ H1 _ I1 q1) fun vl s2 ⟨l,H2,I2,pl,q2⟩=>thn (hu pins s2 σ H2 _ I2 q2) fun vu s3 ⟨u,H3,I3,pu,q3⟩=>?_)
 rw [evalPart_none]
 refine wpAny_pure ?_
 have I4:Inv X pins σ H3 { s3 with heap:=s3.heap.push { cls:=.type "slice",data:=.fields #[vl,vu,.none] } }:=I3.kept (t':=s3.toks) fun b ob q=>Heap.get?_push_of_some _ q
 obtain⟨T,id,hT,ht,hg⟩:=hr pins { s3 with heap:=s3.heap.push { cls:=.type "slice",data:=.fields #[vl,vu,.none] } } σ H3 x v vl vu l u s3.heap.objs.size Q I4 r1 (Heap.IsSliceOf.new ..) pl pu q3
 show wpAny (model X.prog X.w) X.A (subscriptTail e (.Slice lo hi none p2) v (.ref s3.heap.objs.size)) (EP X pins σ Q) X.xe { s3 with heap:=s3.heap.push { cls:=.type "slice",data:=.fields #[vl,vu,.none] } }
 exact tail_any (ops:=[.ref s3.heap.objs.size,v]) ht hT hg (by with_unfolding_all rfl)
def zec (xs:List V)(lo hi:Option Int):List V:=(xs.drop (HT.sIx xs.length 0 lo)).take (HT.sIx xs.length xs.length hi - HT.sIx xs.length 0 lo)
theorem zbm (xs:List V)(lo hi:Option Int):(zec xs lo hi).length≤xs.length:=by
 unfold zec
 rw [y0v,y44]
 omega
end
end L2
namespace L2
open PySem PySem.Spec PyProof.Rows
def ixN (n:Nat)(i:Int):Option Nat:=if 0≤i then (if i<n then some i.toNat else none) else if -(n:Int)≤i then some (i+n).toNat else none
def atI {α:Type}(xs:List α)(i:Int):Option α:=(ixN xs.length i).bind fun j=>xs[j]?
theorem zgc {n:Nat}{i:Int}{j:Nat}(h:ixN n i=some j):seqIndex? i n=some j∧j<n∧-(n:Int)≤i∧i<n:=by
 unfold ixN at h
 by_cases h0:0≤i
 ·rw [if_pos h0] at h
  by_cases h1:i<n
  ·rw [if_pos h1] at h
   have e:i.toNat=j:=y12 h
   exact⟨by rw [seqIndex_of h0 h1,e],by omega,by omega,h1⟩
  ·rw [if_neg h1] at h; cases h
 ·rw [if_neg h0] at h
  by_cases h1:-(n:Int)≤i
  ·rw [if_pos h1] at h
   have e:(i+n).toNat=j:=y12 h
   exact⟨by rw [seqIndex_neg (by omega) h1,e],by omega,h1,by omega⟩
  ·rw [if_neg h1] at h; cases h
theorem zgy {α:Type}{xs:List α}{i:Int}{v:α}(h:atI xs i=some v):∃j,seqIndex? i xs.length=some j∧xs[j]?=some v∧j<xs.length∧-(xs.length:Int)≤i∧i<xs.length:=by
 unfold atI at h
 cases e:ixN xs.length i with
 | none=>rw [e] at h; cases h
 | some j =>
  rw [e] at h
  obtain⟨h1,h2,h3,h4⟩:=zgc e
  exact⟨j,h1,h,h2,h3,h4⟩
theorem z28 {α:Type}{xs:List α}{j:Nat}{v:α}(h:xs[j]?=some v):atI xs (j:Int)=some v:=by
 have hj:j<xs.length:=(y00.mp h).1
 have e:ixN xs.length (j:Int)=some j:=by
  unfold ixN
  rw [if_pos (by omega),if_pos (by omega)]; simp
 unfold atI; rw [e]; exact h
def zkh (b:Expr):Prop:=∀o i,subscripted b false o i=operate [o,i] (getItem o i)
def IxR (X:Cx)(r:R2):Prop :=
 ∀(value slice:Expr) (pins:List (Addr×Obj)) (s:Shared) (σ:St) (H:Hp) (x y:V) (v u:Value) (Q:VK),Inv X pins σ H s→RelV x v→RelV y u→r x y H Q →
  subscripted slice false v u=operate [v,u] (getItem v u)→wpAny (model X.prog X.w) X.A (subscriptTail value slice v u) (EP X pins σ Q) X.xe s
def MtR (X:Cx)(id:String)(r:V→List V→Hp→VK→Prop):Prop :=
 ∀(pins:List (Addr×Obj)) (s:Shared) (σ:St) (H:Hp) (x:V) (xs:List V) (v:Value) (us:List Value) (Q:VK),Inv X pins σ H s→RelV x v→Vals xs us→r x xs H Q →
  wpAny (model X.prog X.w) X.A (call (.builtin id) (v::us)) (EP X pins σ Q) X.xe s
section
variable {X:Cx}{a b:Expr}{ta tb:TE}{pos:Pos}
theorem z0m {r:R2}(hr:IxR X r)(ha:PE X a ta)(hb:PE X b tb)(hs:zkh b):PE X (.Subscript a b pos) (tOp r ta tb):=by
 intro pins s σ H Q I h
 exact Subscript_ (zo9 ha hb I h fun v u s2 x y H2 I2 rx ry q=>hr a b pins s2 σ H2 x y v u Q I2 rx ry q (hs _ _))
def zq4 (K:y03):R2:=fun x y H Q=>∃p xs i v,x = .ref p∧y = .int i∧SqL K H p xs∧atI xs i=some v∧Q v H
def zpw (K:y03):R2:=fun x y H Q=>∃p xs i v,x = .ref p∧y = .int i∧SqT K H p xs∧atI xs i=some v∧Q v H
theorem zlt:IxR X (zq4 X.K):=by
 intro value slice pins s σ H x y v u Q I rx ry h hs
 obtain⟨p,xs,i,z,rfl,rfl,hq,he,q⟩:=h
 cases rx
 obtain⟨t,rfl⟩:=ry
 obtain⟨its,r,pl,hz⟩:=I.list hq
 obtain⟨j,h1,h2,h3,h4,h5⟩:=zgy he
 obtain⟨w,ew,rw'⟩:=r.get h2
 have hl:=r.length
 have hn:=zay
 have fin:EP X pins σ Q w s:=⟨z,H,I,rw',q⟩
 by_cases h0:0≤i
 ·have hj:i.toNat=j:=by
   rw [seqIndex_of h0 h5] at h1
   exact y12 h1
  exact item_listR pl.isList h0 (by omega) (by rw [hj]; simpa using ew) fin hs
 ·have hj:(i+(its.toArray.size:Int)).toNat=j:=by
   rw [seqIndex_neg (by omega) h4] at h1
   rw [y0l,←hl]
   exact y12 h1
  exact subscriptTail_builtinR (x:=w) pl.isList.typeIs slot_list_getitem.lookup
   (wpAny_getItem_list_neg (Q:=fun r s'=>r=w∧EP X pins σ Q r s') pl.isList (by omega) (by rw [y0l]<;>omega) (by omega) (by rw [hj]; simpa using ew) ⟨rfl,fin⟩) hs
theorem zmk:IxR X (zpw X.K):=by
 intro value slice pins s σ H x y v u Q I rx ry h hs
 obtain⟨p,xs,i,z,rfl,rfl,hq,he,q⟩:=h
 cases rx
 obtain⟨t,rfl⟩:=ry
 obtain⟨its,r,pl,hz⟩:=I.tuple hq
 obtain⟨j,h1,h2,h3,h4,h5⟩:=zgy he
 obtain⟨w,ew,rw'⟩:=r.get h2
 have hl:=r.length
 have hn:=zay
 have fin:EP X pins σ Q w s:=⟨z,H,I,rw',q⟩
 exact subscriptTail_builtinR (x:=w) pl.typeIs slot_tuple_getitem.lookup
  (getItem_tuple (j:=j) (Q:=fun r s'=>r=w∧EP X pins σ Q r s') pl (by omega) (by omega) (by rw [y0l,←hl]; exact h1) (by simpa using ew) ⟨rfl,fin⟩) hs
theorem zdq (its:List Value)(n j:Nat)(u:Value):Obj.mapSeq (·.setIfInBounds j u) { cls:=.type "list",data:=.seq its.toArray n } = { cls:=.type "list",data:=.seq (its.set j u).toArray n }:=by
 simp [Obj.mapSeq]
theorem Inv.lst {pins:List (Addr×Obj)}{σ:St}{H:Hp}{s:Shared}{p:Addr}{xs:List V}(I:Inv X pins σ H s)(h:H p=some (.lst xs)) :
  ∃(its:List Value) (n:Nat),Vals xs its∧s.heap.get? p=some { cls:=.type "list",data:=.seq its.toArray n }∧xs.length≤sizeLine:=by
 obtain⟨z,its,n,r,e⟩:=I.hok p _ h
 exact⟨its,n,r,e,z⟩
theorem Inv.lstUpd {pins:List (Addr×Obj)}{σ:St}{H:Hp}{s:Shared}{p:Addr}{xs ys:List V}{its its':List Value}{n n':Nat}{f:Obj→Obj}(I:Inv X pins σ H s)(h:H p=some (.lst xs))
  (ho:s.heap.get? p=some { cls:=.type "list",data:=.seq its.toArray n }) (hf:f { cls:=.type "list",data:=.seq its.toArray n } = { cls:=.type "list",data:=.seq its'.toArray n' }) (r:Vals ys its') (hz:ys.length≤sizeLine) (t:Nat) :
  Inv X pins σ (upd H p (.lst ys)) { s with heap:=s.heap.update p f,toks:=t }:=by
 have e:(s.heap.update p f).get? p=some { cls:=.type "list",data:=.seq its'.toArray n' }:=by
  rw [Heap.get?_update_self f ho (by rw [hf]<;>rfl),hf]
 refine I.write (x:=p) (e:=p) (by rw [h]; trivial) (.inl rfl) (fun b u hb q=>(Heap.get?_update_other _ _ (Ne.symm hb)).trans q) ⟨_,e⟩ ?_
 exact⟨hz,its',n',r,e⟩
def zos:V→V→V→Hp→(Hp→Prop)→Prop:=fun o i v H Q=>∃p xs k j,o = .ref p∧i = .int k∧H p=some (.lst xs)∧ixN xs.length k=some j∧Q (upd H p (.lst (xs.set j v)))
theorem zj0:zns X zos:=by
 intro pins s σ H o i v ov iv u Q I ro ri rv h
 obtain⟨p,xs,k,j,rfl,rfl,hp,hj,q⟩:=h
 cases ro
 obtain⟨t,rfl⟩:=ri
 obtain⟨its,n,r,ho,hz⟩:=I.lst hp
 obtain⟨h1,h2,h3,h4⟩:=zgc hj
 have hl:=r.length
 have hn:=zay
 have I':Inv X pins σ (upd H p (.lst (xs.set j v))) { s with heap:=s.heap.update p (Obj.mapSeq (·.setIfInBounds j u)) } :=
  I.lstUpd hp ho (zdq its n j u) (r.set rv j) (by rw [y22]; exact hz) s.toks
 by_cases h0:0≤k
 ·have hk:k.toNat=j:=by
   rw [seqIndex_of h0 h4] at h1
   exact y12 h1
  exact PySem.W.ki_setAt ho h0 (by omega) (by rw [y0l,←hl]; exact h4) (by rw [hk]; exact⟨_,I',q⟩)
 ·have hk:(k+(its.toArray.size:Int)).toNat=j:=by
   rw [seqIndex_neg (by omega) h3] at h1
   rw [y0l,←hl]
   exact y12 h1
  exact PySem.W.ki_setBack ho (by omega) (by rw [y0l,←hl]; exact h3) (by omega) (by rw [hk]; exact⟨_,I',q⟩)
theorem zb8 (lo hi:Option Int)(n:Nat):(sliceBounds lo hi none n).1=((HT.sIx n 0 lo:Nat):Int)∧(sliceBounds lo hi none n).2.1=((HT.sIx n n hi:Nat):Int)∧(sliceBounds lo hi none n).2.2=1:=by
 refine⟨?_,?_,rfl⟩
 ·cases lo with
  | none=>simp [sliceBounds,HT.sIx]
  | some i =>
   simp only [sliceBounds,HT.sIx,y6n,show(1:Int)>0 by decide,if_true]
   by_cases h:i<0
   ·simp only [h,if_true]<;>omega
   ·simp only [h,if_false]<;>omega
 ·cases hi with
  | none=>simp [sliceBounds,HT.sIx]
  | some i =>
   simp only [sliceBounds,HT.sIx,y6n,show(1:Int)>0 by decide,if_true]
   by_cases h:i<0
   ·simp only [h,if_true]<;>omega
   ·simp only [h,if_false]<;>omega
theorem z99 (its:List Value)(lo hi:Option Int):slicePick its.toArray lo hi none=((its.drop (HT.sIx its.length 0 lo)).take (HT.sIx its.length its.length hi - HT.sIx its.length 0 lo)).toArray:=by
 obtain⟨h1,h2,h3⟩:=zb8 lo hi its.toArray.size
 unfold slicePick
 rw [h1,h2,h3]
 simp only [sliceRange_one,pick_run,y0l]<;>rfl
def zq0 (K:y03):V→Option Int→Option Int→Hp→VK→Prop:=fun x lo hi H Q=>∃a xs,x = .ref a∧SqL K H a xs∧∀p,H p=none→Q (.ref p) (upd H p (.lst (zec xs lo hi)))
theorem zkk:SlR X (zq0 X.K):=by
 intro pins s σ H x v vl vu lo hi sl Q I rx hs pl pu h
 obtain⟨a,xs,rfl,hx,q⟩:=h
 cases rx
 obtain⟨its,r,ht,hz⟩:=I.list hx
 have hlen:=r.length
 refine⟨"list",_,slot_list_getitem.lookup,ht.isList.typeIs,?_⟩
 refine wpAny_getItem_list_slice ht.isList hs pl pu .none (by simp) ?_ (by rw [y0l]<;>omega)
 rw [z99,←hlen]
 refine⟨.ref s.heap.objs.size,_,I.laid (t':=s.toks) (o:=.lst (zec xs lo hi)) (fun b ob q=>Heap.get?_push_of_some _ q) (y0a _) ?_,rfl,q _ (I.hok.fresh (y0a _))⟩
 exact⟨y1a (zbm xs lo hi) hz,_,0,(r.drop (HT.sIx xs.length 0 lo)).take (HT.sIx xs.length xs.length hi - HT.sIx xs.length 0 lo),Heap.get?_push_size _ rfl⟩
theorem za7:z44 X (.builtin "len") (fun xs H Q=>∃p ys,xs = [.ref p]∧(SqL X.K H p ys∨SqT X.K H p ys)∧Q (.int ys.length) H):=by
 intro pins s σ H xs us Q I r h
 obtain⟨p,ys,rfl,hq,q⟩:=h
 obtain⟨u,rfl,rx⟩:=z7a r
 cases rx
 have hn:=zay
 rcases hq with hq | hq
 ·obtain⟨its,r',pl,hz⟩:=I.list hq
  have hlen:=r'.length
  exact Calls.call_len_list pl.isList (by simp only [y0l]<;>omega) ⟨.int ys.length,H,I.tok _,⟨s.toks+1,by rw [y0l,hlen]⟩,q⟩
 ·obtain⟨its,r',pl,hz⟩:=I.tuple hq
  have hlen:=r'.length
  exact len_tuple pl (by simp only [y0l]<;>omega) ⟨.int ys.length,H,I.tok _,⟨s.toks+1,by rw [y0l,hlen]⟩,q⟩
theorem z9s:z44 X (.type "list") (fun xs H Q=>∃p ys,xs = [.ref p]∧(SqL X.K H p ys∨SqT X.K H p ys)∧∀l,H l=none→Q (.ref l) (upd H l (.lst ys))):=by
 intro pins s σ H xs us Q I r h
 obtain⟨p,ys,rfl,hq,q⟩:=h
 obtain⟨u,rfl,rx⟩:=z7a r
 cases rx
 have fin:∀(its:List Value),Vals ys its→ys.length≤sizeLine→∀(h':Heap) (c':Nat),(∀b o',s.heap.get? b=some o'→h'.get? b=some o') →
   h'.get? s.heap.objs.size=some { cls:=.type "list",dict:=none,data:=.seq its.toArray c',slots:=#[] }→EP X pins σ Q (.ref s.heap.objs.size) { s with heap:=h' }:=fun its r' hz h' c' kp e =>
  ⟨.ref s.heap.objs.size,_,I.laid (t':=s.toks) kp (y0a _) (show ObjOk X.prog X.w _ h' _ (.lst ys) from ⟨hz,its,c',r',e⟩),rfl,q _ (I.hok.fresh (y0a _))⟩
 rcases hq with hq | hq
 ·obtain⟨its,r',pl,hz⟩:=I.list hq
  have hlen:=r'.length
  obtain⟨o,ho,hc,n,hd⟩:=pl.isList
  exact call_list_seq p (.inl rfl) ho hc hd (fun h' c' kp e=>fin its r' hz h' c' kp e) (by simp only [y0l]<;>omega)
 ·obtain⟨its,r',pl,hz⟩:=I.tuple hq
  have hlen:=r'.length
  obtain⟨o,ho,hc,n,hd⟩:=pl
  exact call_list_seq p (.inr rfl) ho hc hd (fun h' c' kp e=>fin its r' hz h' c' kp e) (by simp only [y0l]<;>omega)
def tyV (K:y03)(T:String)(x:V)(H:Hp):Prop:=match x with
 | .str _=>T = "str"
 | .int _=>T = "int"
 | .ref p=>(T = "list"∧∃xs,SqL K H p xs)∨(T = "tuple"∧∃o,K.lookup p=some o∧o.cls = .type "tuple"∧o.dict=none) ∨
   (T = "dict"∧((∃kvs,H p=some (.dK kvs))∨∃kvs,H p=some (.dT kvs)))∨(T = "set"∧∃S n,H p=some (.set S n))
 | _=>False
theorem zjt {pins:List (Addr×Obj)}{σ:St}{H:Hp}{s:Shared}{T:String}{x:V}{v:Value}(I:Inv X pins σ H s)(r:RelV x v)(ty:tyV X.K T x H) :
  s.TypeIs v T∧∀a,v = .ref a→∃ob,s.heap.get? a=some ob∧ob.dict=none:=by
 cases x with
 | str z =>
  obtain⟨t,rfl⟩:=r
  cases (show T = "str" from ty)
  exact⟨typeIs_str s z t,fun _ e=>nomatch e⟩
 | int i =>
  obtain⟨t,rfl⟩:=r
  cases (show T = "int" from ty)
  exact⟨typeIs_int s i t,fun _ e=>nomatch e⟩
 | ref p =>
  cases r
  rcases ty with ⟨rfl,xs,hq⟩ | ⟨rfl,o,hk,hc,hd⟩ | ⟨rfl,hk⟩ | ⟨rfl,S,n,hk⟩
  ·obtain⟨its,_,pl,_⟩:=I.list hq
   refine⟨pl.isList.typeIs,fun a e=>?_⟩
   cases e
   obtain⟨o,n,e,c,hd,_⟩:=pl
   exact⟨o,e,hd⟩
  ·refine⟨⟨o,I.kIn p o hk,hc⟩,fun a e=>?_⟩
   cases e
   exact⟨o,I.kIn _ o hk,hd⟩
  ·have z:∃o,s.heap.get? p=some o∧o.ExactDict:=by
    rcases hk with ⟨kvs,hk⟩ | ⟨kvs,hk⟩
    ·obtain⟨_,_,_,_,o,_,_,e,ex,_⟩:=I.hok p _ hk
     exact⟨o,e,ex⟩
    ·obtain⟨_,_,_,_,o,_,_,e,ex,_⟩:=I.hok p _ hk
     exact⟨o,e,ex⟩
   obtain⟨o,e,ex⟩:=z
   refine⟨⟨o,e,ex.1⟩,fun a e2=>?_⟩
   cases e2
   exact⟨o,e,ex.2.1⟩
  ·obtain⟨o,_,_,_,e,ex,_⟩:=I.hok p _ hk
   refine⟨⟨o,e,ex.1⟩,fun a e2=>?_⟩
   cases e2
   exact⟨o,e,ex.2.1⟩
 | _=>exact False.elim ty
def zq1 (K:y03)(T:String)(r:V→List V→Hp→VK→Prop)(to:TE):TE:=fun σ H Q=>to σ H fun x H1=>tyV K T x H1∧r x [] H1 Q
def tBM (K:y03)(T:String)(r:V→List V→Hp→VK→Prop)(to:TE)(t:TA):TE:=fun σ H Q=>to σ H fun x H1=>tyV K T x H1∧t σ H1 fun xs H2=>r x xs H2 Q
variable {o e:Expr}{es:List Expr}{to:TE}{t:TA}{name:Str}{apos cpos:Pos}{T id:String}{r:V→List V→Hp→VK→Prop}
theorem zja (pa:PlainAttrs T)(slot:Slot T name id)(hty:typeOf (.builtin id)=pure (.type "method_descriptor"))(hm:MtR X id r)(ho:PE X o to)
  (hbase:attributeBase o name X.env (eval o X.env)=eval o X.env:=by rfl) (hline:(apos.endLine==cpos.line)=true:=by rfl):PE X (.Call (.Attribute o name apos) [] [] cpos) (zq1 X.K T r to):=by
 intro pins s σ H Q I h
 refine wpAny_Call_method0_late hbase hline (thn (ho pins s σ H _ I h) fun v s1 ⟨x,H1,I1,r1,ty,q1⟩=>?_)
 obtain⟨h1,h2⟩:=zjt I1 r1 ty
 exact⟨T,id,pa,slot,hty,h1,h2,Calls.callWith_builtin rfl (PySem.evalArgs_none (hm pins s1 σ H1 x [] v [] Q I1 r1 .nil q1))⟩
theorem zlk (pa:PlainAttrs T)(slot:Slot T name id)(hty:typeOf (.builtin id)=pure (.type "method_descriptor"))(hm:MtR X id r)(ho:PE X o to)(ha:PA X (e::es) t)
  (hbase:attributeBase o name X.env (eval o X.env)=eval o X.env:=by rfl)
  (hfew:((backTo cpos (starEach (e::es) X.env)).all (fun x=>!x.1)&&(backToKw cpos (keywordEach [] X.env)).all (fun x=>x.1.isSome)
  &&decide ((e::es).length+([]:List Keyword).length+(if ([]:List Keyword).isEmpty then 0 else 1)<30))=true:=by rfl)
  (hline:(apos.endLine==cpos.line)=true:=by rfl) (hs:starEach (e::es) X.env=(false,eval e X.env)::starEach es X.env:=by rfl) (hplain:(backTo cpos (starEach es X.env)).any (·.1)=false:=by rfl) :
  PE X (.Call (.Attribute o name apos) (e::es) [] cpos) (tBM X.K T r to t):=by
 intro pins s σ H Q I h
 refine wpAny_Call_method_late hbase hfew hline rfl (thn (ho pins s σ H _ I h) fun v s1 ⟨x,H1,I1,r1,ty,q1⟩=>?_)
 obtain⟨h1,h2⟩:=zjt I1 r1 ty
 refine⟨T,id,pa,slot,hty,h1,h2,?_⟩
 have hA:=ha cpos pins s1 σ H1 _ I1 q1
 rw [hs] at hA ⊢
 refine Calls.callWith_builtin (by show(false||(backTo cpos (starEach es X.env)).any (·.1))=false; rw [hplain]<;>rfl) (Calls.evalArgs_plain ?_)
 exact thn hA fun us s2 ⟨vs,H2,I2,r2,q2⟩=>hm pins s2 σ H2 x vs v us Q I2 r1 r2 q2
end
end L2
namespace L2
open PySem PySem.Spec PyProof.Rows
def MtM (X:Cx)(id:String)(r:V→List V→Hp→VK→Prop):Prop :=
 ∀(pins:List (Addr×Obj)) (s:Shared) (σ:St) (H:Hp) (x:V) (xs:List V) (v:Value) (us:List Value) (Q:VK),Inv X pins σ H s→RelV x v→Vals xs us→r x xs H Q →
  wpAny (model X.prog X.w) X.A (call (.builtin id) (v::us)) (EP X pins σ Q) X.xe s
theorem Vals.one:∀{x:V} {us:List Value},Vals [x] us→∃u,us = [u]∧RelV x u
 | _,_,.cons r .nil=>⟨_,rfl,r⟩
theorem Vals.two:∀{x y:V} {us:List Value},Vals [x,y] us→∃u v,us = [u,v]∧RelV x u∧RelV y v
 | _,_,_,.cons r (.cons q .nil)=>⟨_,_,rfl,r,q⟩
theorem Vals.zero:∀{us:List Value},Vals [] us→us = []
 | _,.nil=>rfl
theorem Vals.dropLast {xs:List V}{us:List Value}(h:Vals xs us):Vals xs.dropLast us.dropLast:=by
 induction h with
 | nil=>exact .nil
 | cons r t ih =>
  cases t with
  | nil=>exact .nil
  | cons q t'=>exact .cons r ih
theorem Vals.rep {xs:List V}{us:List Value}(h:Vals xs us):∀k:Nat,Vals (y05 k xs).flatten (y05 k us).flatten
 | 0=>.nil
 | k+1=>by
  rw [y1p,y1p,y3h,y3h]
  exact Vals.append h (Vals.rep h k)
theorem zeb {α:Type}(l:List α):l.eraseIdx (l.length - 1)=l.dropLast:=by
 induction l with
 | nil=>rfl
 | cons a r ih =>
  cases r with
  | nil=>rfl
  | cons b r =>
   have e:(a::b::r).length - 1=((b::r).length - 1)+1:=by
    have h1:(a::b::r).length=r.length+2:=rfl
    have h2:(b::r).length=r.length+1:=rfl
    omega
   rw [e,List.eraseIdx_cons_succ,ih]
   all_goals rfl
theorem zam (its:List Value):∀(k:Nat) (acc:List Value),
  y70 (fun x1 x2=>x1++x2) acc.toArray (y05 k its.toArray)=(acc++(y05 k its).flatten).toArray
 | 0,acc=>by simp
 | k+1,acc=>by
  have e:acc.toArray++its.toArray=(acc++its).toArray:=by simp
  have e2:(acc++its)++(y05 k its).flatten=acc++(y05 (k+1) its).flatten:=by
   rw [y1p,y3h,y2z]
  rw [←e2,←zam its k (acc++its),←e,y1p,y3m]
section
variable {X:Cx}{pins:List (Addr×Obj)}{σ:St}{H:Hp}{s:Shared}{l b:Addr}{xs ys zs:List V}
theorem Inv.lset {its its':List Value}{n:Nat}{f:Array Value→Array Value}{t':Nat}(I:Inv X pins σ H s)(hH:H l=some (.lst xs))
  (e:s.heap.get? l=some { cls:=.type "list",data:=.seq its.toArray n }) (hf:f its.toArray=its'.toArray) (hv:Vals ys its') (hz:ys.length≤sizeLine) :
  Inv X pins σ (upd H l (.lst ys)) { s with heap:=s.heap.update l (Obj.mapSeq f),toks:=t' }:=by
 have q:=PySem.IsL.update e f
 rw [hf] at q
 refine I.write (x:=l) (e:=l) (by rw [hH]; exact trivial) (.inl rfl) (fun b' u hb hu=>(Heap.get?_update_other s.heap (Obj.mapSeq f) (Ne.symm hb)).trans hu) ⟨_,q⟩ ?_
 exact⟨hz,its',_,hv,q⟩
theorem Inv.lnew {its:List Value}{t':Nat}(I:Inv X pins σ H s)(hv:Vals ys its)(hz:ys.length≤sizeLine) :
  Inv X pins σ (upd H s.heap.objs.size (.lst ys)) { s with heap:=s.heap.push { cls:=.type "list",data:=.seq its.toArray },toks:=t' } :=
 I.laid (fun _ _ q=>Heap.get?_push_of_some _ q) (y0a _) ⟨hz,its,0,hv,Heap.get?_push_size _ rfl⟩
theorem Inv.fresh (I:Inv X pins σ H s):H s.heap.objs.size=none:=I.hok.fresh (y0a _)
theorem Inv.lstM (I:Inv X pins σ H s)(hH:H l=some (.lst xs)):xs.length≤sizeLine∧∃(its:List Value) (n:Nat),Vals xs its∧xs.length=its.length∧s.heap.get? l=some { cls:=.type "list",data:=.seq its.toArray n }:=by
 obtain⟨z,its,n,r,e⟩:=I.hok l _ hH
 exact⟨z,its,n,r,r.length,e⟩
theorem zdb {n:Nat}(h:n≤sizeLine):Builtin.List.listTooLong n=false:=by
 unfold Builtin.List.listTooLong
 exact decide_eq_false (by omega)
end
section
variable {X:Cx}
def zk2:V→List V→Hp→VK→Prop:=fun x vs H Q=>∃l xs y,x = .ref l∧vs = [y]∧H l=some (.lst xs)∧xs.length<sizeLine∧Q .non (upd H l (.lst (xs ++ [y])))
theorem zgb:MtM X "list.append" zk2:=by
 intro pins s σ H x vs v us Q I rx rv h
 obtain⟨l,xs,y,rfl,rfl,hH,hz,q⟩:=h
 cases rx
 obtain⟨u,rfl,ru⟩:=rv.one
 obtain⟨z,its,n,r,hl,e⟩:=I.lstM hH
 refine call_meets F.slot_list_append ⟨_,e,rfl⟩ F.entry_list_append (F.args_list_append_2 _ _) (PySem.list_append l its.toArray n u (by rw [y0l]; omega)) ⟨e,?_⟩
 refine⟨.non,_,I.lset (its':=its ++ [u]) hH e (by simp) (r.append (.cons ru .nil)) ?_,rfl,q⟩
 rw [y0f,y40]
 omega
def zl5:V→List V→Hp→VK→Prop:=fun x vs H Q=>∃l b xs zs,x = .ref l∧vs = [.ref b]∧H l=some (.lst xs)∧H b=some (.lst zs)∧xs.length+zs.length≤sizeLine∧Q .non (upd H l (.lst (xs++zs)))
theorem zem:MtM X "list.extend" zl5:=by
 intro pins s σ H x vs v us Q I rx rv h
 obtain⟨l,b,xs,zs,rfl,rfl,hH,hB,hz,q⟩:=h
 cases rx
 obtain⟨u,rfl,ru⟩:=rv.one
 cases ru
 obtain⟨z,its,n,r,hl,e⟩:=I.lstM hH
 obtain⟨z2,its2,n2,r2,hl2,e2⟩:=I.lstM hB
 have hsz:its.toArray.size+its2.toArray.size≤sizeLine:=by rw [y0l,y0l]; omega
 have hlong:¬(!its.toArray.isEmpty&&Builtin.List.listTooLong (its.toArray.size+its2.toArray.size))=true:=by
  rw [zdb hsz,Bool.and_false]
  exact y15
 refine call_meets F.slot_list_extend ⟨_,e,rfl⟩ F.entry_list_extend (F.args_list_extend_2 _ _)
  (AutoSeq1.list_extend_list_list_0 l its.toArray n b its2.toArray n2 hlong (by rw [y0l]; omega) (by omega)) ⟨e,e2,?_⟩
 refine⟨.non,_,I.lset (its':=its++its2) hH e (by simp) (r.append r2) ?_,rfl,q⟩
 rw [y0f]
 omega
def zpr:V→List V→Hp→VK→Prop:=fun x vs H Q=>∃l xs y,x = .ref l∧vs = []∧H l=some (.lst xs)∧xs[xs.length - 1]?=some y∧Q y (upd H l (.lst xs.dropLast))
theorem zmz:MtM X "list.pop" zpr:=by
 intro pins s σ H x vs v us Q I rx rv h
 obtain⟨l,xs,y,rfl,rfl,hH,hy,q⟩:=h
 cases rx
 have hus:=rv.zero
 subst hus
 obtain⟨z,its,n,r,hl,e⟩:=I.lstM hH
 obtain⟨u,hu,ru⟩:=r.get hy
 have hy':its.toArray[its.toArray.size - 1]?=some u:=by
  show its.toArray[its.length - 1]?=some u
  rw [←y41,←hl]
  exact hu
 refine call_meets F.slot_list_pop ⟨_,e,rfl⟩ F.entry_list_pop (F.args_list_pop_1 _) (MeetsSeq.list_pop_last l its.toArray n u hy' (by rw [y0l]; omega)) ⟨e,?_⟩
 refine⟨y,_,I.lset (its':=its.dropLast) hH e ?_ r.dropLast ?_,ru,q⟩
 ·show its.toArray.eraseIdxIfInBounds (its.toArray.size - 1)=its.dropLast.toArray
  rw [y0l,List.eraseIdxIfInBounds_toArray,zeb]
 ·rw [y5q]
  omega
def zm4:V→List V→Hp→VK→Prop:=fun x vs H Q=>∃l xs,x = .ref l∧vs = []∧H l=some (.lst xs)∧Q .non (upd H l (.lst []))
theorem zhm:MtM X "list.clear" zm4:=by
 intro pins s σ H x vs v us Q I rx rv h
 obtain⟨l,xs,rfl,rfl,hH,q⟩:=h
 cases rx
 have hus:=rv.zero
 subst hus
 obtain⟨z,its,n,r,hl,e⟩:=I.lstM hH
 refine call_meets F.slot_list_clear ⟨_,e,rfl⟩ F.entry_list_clear (F.args_list_clear_1 _) (AutoSeq1.list_clear_list_0 l its.toArray n (by rw [y0l]; omega)) ⟨e,?_⟩
 exact⟨.non,_,I.lset (its':=[]) (ys:=[]) hH e rfl .nil (y2g _),rfl,q⟩
def zq2:R2:=fun x y H Q=>∃l b xs zs,x = .ref l∧y = .ref b∧H l=some (.lst xs)∧H b=some (.lst zs)∧xs.length+zs.length≤sizeLine∧∀p,H p=none→Q (.ref p) (upd H p (.lst (xs++zs)))
theorem zm7:OpR X (binaryOp .Add) zq2:=by
 intro pins s σ H x y v u Q I rx ry h
 obtain⟨l,b,xs,zs,rfl,rfl,hH,hB,hz,q⟩:=h
 cases rx
 cases ry
 obtain⟨z,its,n,r,hl,e⟩:=I.lstM hH
 obtain⟨z2,its2,n2,r2,hl2,e2⟩:=I.lstM hB
 refine PySem.P.add_list e e2 ?_ (by rw [y0l,y0l]; omega)
 have ea:its.toArray++its2.toArray=(its++its2).toArray:=by simp
 rw [ea]
 exact⟨.ref _,_,I.lnew (t':=s.toks) (r.append r2) (by rw [y0f]; omega),rfl,q _ I.fresh⟩
def zq8:R2:=fun x y H Q=>∃l k xs,x = .ref l∧y = .int k∧H l=some (.lst xs)∧-(2^63)≤k∧k<2^63∧xs.length*k.toNat≤sizeLine ∧
 ∀p,H p=none→Q (.ref p) (upd H p (.lst (y05 k.toNat xs).flatten))
theorem zlw {α:Type}(xs:List α)(k:Nat):(y05 k xs).flatten.length=k*xs.length:=by
 induction k with
 | zero=>simp
 | succ k ih=>rw [y1p,y3h,y0f,ih,Nat.succ_mul,Nat.add_comm]
theorem zlz:OpR X (binaryOp .Mult) zq8:=by
 intro pins s σ H x y v u Q I rx ry h
 obtain⟨l,k,xs,rfl,rfl,hH,h1,h2,hz,q⟩:=h
 cases rx
 obtain⟨t,rfl⟩:=ry
 obtain⟨z,its,n,r,hl,e⟩:=I.lstM hH
 have hlen:its.toArray.size*k.toNat≤sizeLine:=by rw [y0l,←hl]; exact hz
 have hcap:¬its.toArray.size*k.toNat>(2^63 - 1) / 8:=by
  have:(sizeLine:Nat)≤(2^63 - 1) / 8:=by decide
  omega
 have hfit:¬(!Builtin.List.listFitsIndex k)=true:=by
  rw [fitsIndex_both h1 h2]
  exact y15
 have hlong:¬Builtin.List.listTooLong (its.toArray.size*k.toNat)=true:=by
  rw [zdb hlen]
  exact y15
 have hnew:y70 (fun x1 x2=>x1++x2) #[] (y05 (if its.toArray.isEmpty=true then 0 else k.toNat) its.toArray)=(y05 k.toNat its).flatten.toArray:=by
  have f0:∀m:Nat,y70 (fun x1 x2=>x1++x2) #[] (y05 m its.toArray)=(y05 m its).flatten.toArray:=fun m=>by
   have:=zam its m []
   rw [List.nil_append] at this
   exact this
  rw [f0]
  cases its with
  | nil=>simp
  | cons a r'=>rw [if_neg (by simp)]
 refine wpAny_binaryOp_repeat_ref (T:="list") (U:="int") (by decide) ⟨_,e,rfl⟩ (fun s'=>typeIs_int s' k t) noFill_list_mul F.fills_int_mul F.slot_int_rmul repeat_list F.slot_int_index.lookup
  (call_meets F.slot_int_rmul (typeIs_int s k t) F.entry_int_rmul (F.args_int_rmul_2 _ _) (int___rmul___int_list k t l its.toArray n)
   ⟨e,rfl,⟨_,e,rfl⟩,call_meets F.slot_list_mul ⟨_,e,rfl⟩ F.entry_list_mul (F.args_list_mul_2 _ _) (AutoListH.list___mul___list_int_3 l its.toArray n k t hfit hcap hlong) ⟨e,?_⟩⟩)
 rw [hnew]
 exact⟨.ref _,_,I.lnew (t':=s.toks) (r.rep k.toNat) (by rw [zlw,Nat.mul_comm]; exact hz),rfl,q _ I.fresh⟩
end
section
variable {prog:Program}{w:World}{A:Around}{E:Value→Shared→Prop}{s:Shared}
end
section
variable {X:Cx}
end
end L2
namespace Att
open PySem PySem.W PySem.Calls PyProof.Rows
theorem z7c {P:Params}{h:Heap}:∀(ns:List Int) (vs:List Value),WellAll P h vs (ns.map WData.int)→IntsAre vs ns:=by
 intro ns
 induction ns with
 | nil =>
  intro vs w
  rw [y3c] at w
  cases w
  exact .nil
 | cons n ns ih =>
  intro vs w
  rw [y0h] at w
  cases w with
  | cons a b =>
   cases a
   exact .cons _ _ (ih _ b)
theorem zgm {l:OpenLaw}{n:Nat}(hn:l.most=some n){P:Params}{h:Heap}{args:List WData}{vals:List Value}
  (hpre:l.row.toRowW.claim.pre args=true) (hwl:WellAll P h vals args) :
  ∃a vs ns,vals = [Value.ref a]∧args = [WData.list (ns.map WData.int)]∧h.get? a=some { cls:=.type "list",data:=.seq vs.toArray }∧IntsAre vs ns∧ns.length≤n:=by
 have hsh:WShape.hasAll [] args [.list .int]=true:=(pre_splitW hpre).1
 have hc:l.pre.holds [] { args:=args }=true:=(pre_splitW hpre).2
 obtain⟨d,r,rfl,h1,h2⟩:=hasAllW_cons hsh
 obtain rfl:=hasAllW_nil h2
 obtain⟨xs,rfl,h3⟩:=hasW_list h1
 obtain⟨ns,rfl⟩:=items_int h3
 have hlen:ns.length≤n:=by
  unfold OpenLaw.pre at hc
  have h4:(WTm.not (.lt (.lit (.int (n:Int))) (.len (.arg 0)))).holds [] { args:=[.list (ns.map .int)] }=true:=by
   have h4:=(holds_andW hc).1
   rw [hn] at h4
   exact h4
  have h5:=condW_of h4 (w_not (w_lt w_lit (w_len_list (w_arg rfl))))
  rw [y04] at h5
  refine Nat.le_of_not_lt fun q=>?_
  have q':(n:Int)<((ns.length:Nat):Int):=by omega
  first
   | (rw [decide_eq_true q'] at h5; exact absurd h5 (by decide))
   | (simp at h5; omega)
 cases hwl with
 | cons w1 w2 =>
  cases w2
  cases w1 with
  | list ho hall=>exact⟨_,_,ns,rfl,rfl,ho,z7c ns _ hall,hlen⟩
theorem zgv (l:OpenLaw)(args:List WData):l.row.toRowW.claim.post args (.bool true) args=true :=
 postW_of (r:=l.row.toRowW) (X:=(true==true))
  (show WShape.has [] (.bool true) .bool=true by first | rfl | decide | simp [WShape.has,WShape.arms,WShape.armsAll])
  (show(WTm.eq .res (.lit (.bool true))).value [] { args:=args,res:=some (.bool true),after:=args }=some (.bool (true==true)) from w_eq_bool (w_res rfl) w_lit) rfl
theorem attach_call {l:OpenLaw}{n:Nat}{q:Program}{loose:List Str}{XP:(Str→Option Value)→Heap→Prop}{YP:World→Heap→Prop}{d:DefRec}
  (hn:l.most=some n) (hdf:d.params.defaults = [])
  (call:∀(w:World) (s₀ s₁:Shared) (mg mb:Str→Option Value) (fa:Addr) (o:Obj) (pm cd doc:Value) (a:Addr) (vs:List Value) (ns:List Int),
   Ground q loose [] XP w s₀ mg mb s₁.heap→YP w s₁.heap →
   s₁.heap.get? fa=some o→o.data = .func (docDef d.name d.params d.body d.scope pm cd doc)→s₁.heap.CodeRec cd d.name→mg d.name=some (.ref fa) →
   s₁.heap.get? a=some { cls:=.type "list",data:=.seq vs.toArray }→IntsAre vs ns→ns.length≤n→s₁.gens = #[] →
   codeAny (model l.prog w) callerA (.call (.ref fa) ⟨[.ref a],[]⟩) (fun r s'=>r = .ok (.ret (.bool true))∧OldK s₁.heap s'.heap∧s'.os=s₁.os∧AllBare s'.gens) s₁) :
  WalkO q loose XP YP l.row.toRowW d [] (fun f vs=>y71 f vs):=by
 intro w s₀ s₁ mg mb G Y fa o pm cd doc dV kV ho hd hcd hD hmg hg args vals as hpre hlay hrd hwl hlo
 obtain rfl:dV = .none:=Dflts.none hD hdf
 obtain rfl:kV = .none:=Dflts.noKw hD
 obtain⟨a,vs,ns,rfl,rfl,hobj,hints,hlen⟩:=zgm hn hpre hwl
 refine enter_call (codeAny_mono (call w s₀ s₁ mg mb fa o pm cd doc a vs ns G Y ho (fd_plain hd) hcd hmg hobj hints hlen hg) fun r s' hq=>?_)
 obtain⟨rfl,h2,h3,h4⟩:=hq
 exact⟨.inl ⟨.bool true,.bool true,[],rfl,fun _=>rfl,.bool true,zgv l _,fun _=>⟨y6d,fun _ hm=>(nomatch hm)⟩⟩,h2,h3,h4⟩
section
variable {prog:Program}{w:World}{A:Around}{E:Value→Shared→Prop}{s:Shared}{K:Frag}
def zpc (h:Heap)(L d:Addr):List (Addr×Obj):=(y0b h.objs.size).filterMap fun a=>if a=L∨a=d then none else (h.get? a).map fun o=>(a,o)
end
end Att
namespace L2
open PySem PySem.Spec PyProof.Rows
theorem za4:∀{vs:List Value} {ns:List Int},IntsAre vs ns→Vals (ns.map V.int) vs
 | _,_,.nil=>.nil
 | _,_,.cons n t h=>.cons ⟨t,rfl⟩ (za4 h)
def zoj (H:Hp):Prop:=∀b,H b=none∨∃o xs,H b=some (.frz o (.lst xs))
theorem zis {P:Program}{w:World}{K:y03}{mg mb:Str→Option Value}{CX:CXT}{k:Nat}{fa a:Addr}{fd:FuncData}{x:Str}{sp:Sp}{s₁:Shared}{vs:List Value}{ns:List Int}
  (KX:K.In s₁.heap) (hns:s₁.heap.Ns mainGlobals mg) (hb:s₁.heap.Ns builtinsNs mb) (hbb:∀x:Str,x ≠ "__name__"→mb x=bootBuiltins x) (hlim:s₁.heap.NoLimit) (hg:s₁.gens = #[])
  (ha:s₁.heap.get? a=some { cls:=.type "list",data:=.seq vs.toArray }) (hi:IntsAre vs ns) (hl:ns.length≤sizeLine) (hr:Room k callerA)
  (F:∀base:Heap,K.In base→base.Ns mainGlobals mg→FnOk P w K mg base CX k fa fd [x] sp) (hbind:∀(s:Shared) (u:Value),BindsTo s fd ⟨[u],[]⟩ [(x,u)])
  (hsp:∀H:Hp,zoj H→SqL K H a (ns.map V.int)→sp [.ref a] H (fun v _=>v = .bl true) fun _ _ _=>False)
  (hCX:∀H e s',CX [] H s₁ (fun _ _ _=>False) e s'→False) :
  codeAny (model P w) callerA (.call (.ref fa) ⟨[.ref a],[]⟩) (fun r s'=>r = .ok (.ret (.bool true))∧OldK s₁.heap s'.heap∧s'.os=s₁.os∧AllBare s'.gens) s₁:=by
 have rv:=za4 hi
 have lenV:=hi.length
 have core:∀H:Hp,zoj H→SqL K H a (ns.map V.int)→HOk P w H s₁.heap→(∀b,H b≠none→b=a)→(H a≠none→K.lookup a=none) →
   codeAny (model P w) callerA (.call (.ref fa) ⟨[.ref a],[]⟩) (fun r s'=>r = .ok (.ret (.bool true))∧OldK s₁.heap s'.heap∧s'.os=s₁.os∧AllBare s'.gens) s₁:=by
  intro H hO hS hok hA hK
  have base_of:∀{b:Addr} {o:Obj},s₁.heap.get? b=some o→H b=none→(zi2 s₁.heap H).get? b=some o:=fun e n=>zhx e n
  have noA:∀{b:Addr} {o:Obj} {es:Array DictEntry} {ep:Nat},s₁.heap.get? b=some o→o.data = .dict es ep→H b=none:=fun {b o es ep} e d=>by
   cases q:H b with
   | none=>rfl
   | some u =>
    have e':b=a:=hA b (by rw [q]; simp)
    subst e'
    rw [ha] at e; cases e
    have d':Data.seq vs.toArray _=Data.dict es ep:=d
    cases d'
  have nsK:∀{b:Addr} {m:Str→Option Value},s₁.heap.Ns b m→(zi2 s₁.heap H).Ns b m:=fun {b m} ⟨o,es,ep,e,d,r⟩=>⟨o,es,ep,base_of e (noA e d),d,r⟩
  have hKb:K.In (zi2 s₁.heap H):=fun b o e=>base_of (KX b o e) (by
   cases q:H b with
   | none=>rfl
   | some u =>
    have e':b=a:=hA b (by rw [q]; simp)
    subst e'
    rw [hK (by rw [q]; simp)] at e; cases e)
  have hM:Mod K mg (zi2 s₁.heap H):=⟨hKb,nsK hns,⟨mb,nsK hb,hbb⟩,let ⟨mc,h1,h2⟩:=hlim; ⟨mc,nsK h1,h2⟩⟩
  have e0:Env0 P w K mg (zi2 s₁.heap H) callerA [] s₁ H:=⟨rfl,hM,fun b o e=>zjy e,y6k (zge _ _),trivial,fun b hb=>absurd (show b∈([]:List Addr) from hb) (by simp),hok,.of_eq hg⟩
  refine codeAny_mono ((F _ hKb (nsK hns)).run callerA [] s₁ H ⟨[.ref a],[]⟩ [.ref a] [.ref a] _ _ hr e0 (hbind s₁ (.ref a)) (.cons rfl .nil) (hsp H hO hS)) fun r s' h=>?_
  cases r with
  | error e=>exact(hCX H e s' h).elim
  | ok fl =>
   cases fl with
   | next=>exact False.elim h
   | brk=>exact False.elim h
   | cont=>exact False.elim h
   | ret u =>
    obtain⟨v,H',os,bare,un,hok',r',q⟩:=h
    have q':v = .bl true:=q
    subst q'
    obtain rfl:u=Value.bool true:=r'
    refine⟨rfl,OldK.of_keep fun b o e=>?_,os,bare⟩
    cases q:H b with
    | none=>exact un.keep b o e q (by intro z; exact absurd (show b∈([]:List Addr) from z) (by simp)) (by simp)
    | some u =>
     rcases hO b with z | ⟨ob,xs,z⟩
     ·rw [q] at z; cases z
     ·have z2:=un.frzs b ob _ z
      obtain⟨e1,_⟩:=hok b _ z
      obtain⟨e2,_⟩:=hok' b _ z2
      rw [e] at e1; cases e1
      exact e2
 cases hk:K.lookup a with
 | some o =>
  have e:=KX a o hk
  rw [ha] at e
  cases e
  refine core (fun _=>none) (fun _=>.inl rfl) (.inr ⟨_,vs.toArray,_,hk,rfl,rfl,rfl,by rw [y0l,lenV]; exact hl,by simpa using rv⟩) (fun b u z=>by have z':(none:Option HO)=some u:=z; cases z') (fun b z=>absurd rfl z) fun z=>absurd rfl z
 | none =>
  refine core (fun b=>if b=a then some (.frz { cls:=.type "list",data:=.seq vs.toArray } (.lst (ns.map V.int))) else none) (fun b=>?_) (.inl (.inr ⟨{ cls:=.type "list",data:=.seq vs.toArray },if_pos rfl⟩)) (fun b u z=>?_) (fun b z=>?_) fun _=>hk
  ·by_cases hb:b=a
   ·exact .inr ⟨_,_,if_pos hb⟩
   ·exact .inl (if_neg hb)
  ·by_cases hb:b=a
   ·have z':=(if_pos hb).symm.trans z
    cases z'
    subst hb
    exact⟨ha,by rw [y04]; exact hl,vs,_,rv,ha⟩
   ·have z':=(if_neg hb).symm.trans z
    cases z'
  ·by_cases hb:b=a
   ·exact hb
   ·exact absurd (if_neg hb) z
end L2
namespace L2
open PySem PySem.Spec PyProof.Rows
theorem walk_of {l:y4e}{n k:Nat}{q:Program}{loose:List Str}{XP:(Str→Option Value)→Heap→Prop}{YP:World→Heap→Prop}{d:DefRec}{K:Params→y03}{CX:World→CXT}{sp:World→Sp}{x:Str}
  (hn:l.most=some n) (hn2:n≤sizeLine) (hdf:d.params.defaults = []) (hr:Room k callerA)
  (hY:∀(w:World) (h:Heap),YP w h→(K w.params).In h)
  (F:∀(w:World) (mg:Str→Option Value) (fa:Addr) (h:Heap),(K w.params).In h→h.Ns mainGlobals mg→mg d.name=some (.ref fa) →
   ∃fd:FuncData,(∀(s:Shared) (u:Value),BindsTo s fd ⟨[u],[]⟩ [(x,u)]) ∧
    ∀base:Heap,(K w.params).In base→base.Ns mainGlobals mg→FnOk l.prog w (K w.params) mg base (CX w) k fa fd [x] (sp w))
  (hsp:∀(w:World) (H:Hp) (a:Addr) (ns:List Int),ns.length≤n→zoj H→SqL (K w.params) H a (ns.map V.int)→sp w [.ref a] H (fun v _=>v = .bl true) fun _ _ _=>False)
  (hCX:∀(w:World) (H:Hp) (s:Shared) (e:Value) (s':Shared),CX w [] H s (fun _ _ _=>False) e s'→False) :
  y75 q loose XP YP l.row.toRowW d [] (fun f vs=>y71 f vs):=by
 refine Att.attach_call hn hdf fun w s₀ s₁ mg mb fa o pm cd doc a vs ns G Y ho hd hcd hmg hobj hints hlen hg=>?_
 have KX:=hY w _ Y
 obtain⟨fd,hb,hF⟩:=F w mg fa _ KX G.T.g hmg
 exact zis KX G.T.g G.T.b G.T.builtins G.T.nolimit hg hobj hints (y1a hlen hn2) hr hF hb (fun H hO hS=>hsp w H a ns hlen hO hS) fun H e s'=>hCX w H s₁ e s'
end L2
namespace L2
open PySem PySem.Spec PyProof.Rows
def z2l (s:Stmt)(j:Nat):Stmt:=match s with
 | .ClassDef _ _ _ body _ _ _ _ _ _ _=>body.getD j (.Pass ⟨0,0,0,0⟩)
 | _=>.Pass ⟨0,0,0,0⟩
def z0f (s:Stmt):Arguments:=match s with
 | .FunctionDef _ a _ _ _ _ _ _ _ _=>a
 | _=>{ posonlyargs:=[],args:=[],vararg:=none,kwonlyargs:=[],kw_defaults:=[],kwarg:=none,defaults:=[] }
def z0e (s:Stmt):List Stmt:=match s with
 | .FunctionDef _ _ b _ _ _ _ _ _ _=>b
 | _=>[]
def z05 (s:Stmt):Scope:=match s with
 | .FunctionDef _ _ _ _ _ _ sc _ _ _=>sc
 | _=>{ kind:=.function,names:=[],isGenerator:=false,isCoroutine:=false }
abbrev CX0:CXT:=fun _ _ _ _ _ _=>False
abbrev E0:XK:=fun _ _ _=>False
theorem zi9 {X:Cx}:z8q CX0 X E0:=fun _ _ _ _ _ _ _ h=>h.elim
structure Fun (K:y03)(x qual:Str)(st:Stmt)(f:Addr)(fd:FuncData):Prop where
 ex:∃(oc:Value) (od:Option Addr) (kV doc pm:Value) (an:Option Addr) (cdv ct:Value) (osl:Array (Option Value)),
  fd=y0o x qual (z0f st) (z0e st) (z05 st) .none kV doc pm an cdv ct∧K.lookup f=some ⟨oc,od,.func fd,osl⟩∧y0k K cdv qual=true
 kp:y0i K (.ref f)=true
section
variable {P:Program}{w:World}{K:y03}{mg:Str→Option Value}{base:Heap}
theorem Fun.ok {x qual:Str}{st:Stmt}{f:Addr}{fd:FuncData}{N ps:List Str}{k:Nat}{sp:Sp}(F:Fun K x qual st f fd)(S:FnScope N ps (z05 st))(len:∀vs H Q E,sp vs H Q E→vs.length=ps.length)
  (hbody:∀(cdv:Value) (A:Around) (outer:List Env) (s:Shared) (H:Hp) (vs:List V) (Q:VK) (E:XK),Room k (A.deeper (envOfC qual (z05 st) s.heap.objs.size f cdv))→sp vs H Q E →
   ∃t,PSs (zh8 CX0 P w K mg base N qual (z05 st) f cdv A outer s H E).nox (z0e st) t∧t { nx:=fun _ H'=>Q .non H',rt:=Q } (start N vs) H):FnOk P w K mg base CX0 (k+1) f fd ps sp:=by
 obtain⟨oc,od,kV,doc,pm,an,cdv,ct,osl,rfl,lk,hcd⟩:=F.ex
 refine zoc lk hcd S len fun A outer s H vs Q E hr hsp=>?_
 obtain⟨t,h,q⟩:=hbody cdv A outer s H vs Q E hr hsp
 exact⟨t,h.nox,q⟩
theorem Fun.binds {x qual:Str}{st:Stmt}{f:Addr}{fd:FuncData}{ps:List Str}(F:Fun K x qual st f fd)
  (h:∀(kV doc pm:Value) (an:Option Addr) (cdv ct:Value) (us:List Value),us.length=ps.length→bindArgs (y0o x qual (z0f st) (z0e st) (z05 st) .none kV doc pm an cdv ct) ⟨us,[]⟩=pure (ps.zip us)):Binds K fd ps []:=by
 obtain⟨oc,od,kV,doc,pm,an,cdv,ct,osl,rfl,lk,hcd⟩:=F.ex
 exact .all (h kV doc pm an cdv ct)
theorem z1g {x qual:Str}{st:Stmt}{f:Addr}{oc:Value}{od an:Option Addr}{osl:Array (Option Value)}{kV doc pm cdv ct:Value}(l:K.lookup f=some ⟨oc,od,.func (y0o x qual (z0f st) (z0e st) (z05 st) .none kV doc pm an cdv ct),osl⟩)
  (c:y0k K cdv qual=true) (k:y0i K (.ref f)=true):Fun K x qual st f (y0o x qual (z0f st) (z0e st) (z05 st) .none kV doc pm an cdv ct):=⟨⟨oc,od,kV,doc,pm,an,cdv,ct,osl,rfl,l,c⟩,k⟩
end
theorem z0h {n:Nat}(h:n≤1000):n<sizeLine:=y2m h (by decide)
section
variable {X:Cx}
end
theorem zan {A B:Prop}(h:B):if false=true then A else B:=by
 rw [if_neg y15]
 exact h
theorem z86 {A B:Prop}(h:A):if true=true then A else B:=by
 rw [if_pos rfl]
 exact h
theorem z4i {c A B:Prop} [Decidable c] (h1:c→A)(h2:¬c→B):if c then A else B:=by
 by_cases h:c
 ·rw [if_pos h]
  exact h1 h
 ·rw [if_neg h]
  exact h2 h
theorem zk3 {c A B:Prop} [Decidable c] (hc:c)(h:B):if (!decide c)=true then A else B:=by
 rw [decide_eq_true hc]
 exact zan h
def Same (H H':Hp):Prop:=∀b o,H b=some o→H' b=some o
theorem Same.refl (H:Hp):Same H H:=fun _ _ h=>h
theorem Same.trans {H H1 H2:Hp}(a:Same H H1)(b:Same H1 H2):Same H H2:=fun c o h=>b c o (a c o h)
theorem Same.free {H H':Hp}(e:Same H H'){l:Addr}(h:H' l=Option.none):H l=Option.none:=by
 cases q:H l with
 | none=>rfl
 | some o =>
  rw [e l o q] at h
  cases h
theorem Same.seq {K:y03}{H H':Hp}{a:Addr}{xs:List V}(e:Same H H')(h:SqL K H a xs):SqL K H' a xs:=by
 rcases h with (h | ⟨o,h⟩) | h
 ·exact .inl (.inl (e _ _ h))
 ·exact .inl (.inr ⟨o,e _ _ h⟩)
 ·exact .inr h
end L2
set_option Elab.async false
set_option linter.all false
set_option maxRecDepth 100000
namespace L2.EX
open PySem PySem.Spec PyProof.Rows
section
variable {X:Cx}
theorem z4m {e:Expr}{t u:TE}(h:PE X e t)(k:∀ σ H Q,u σ H Q→t σ H Q):PE X e u:=fun pins s σ H Q I q=>h pins s σ H Q I (k σ H Q q)
theorem zmx {e:Stmt}{t u:TS}(h:PS X e t)(k:∀D σ H,u D σ H→t D σ H):PS X e u:=fun pins s σ H D I q=>h pins s σ H D I (k D σ H q)
theorem zjs {e:Expr}{t u:TG}(h:PG X e t)(k:∀v σ H Q,u v σ H Q→t v σ H Q):PG X e u:=fun pins s σ H v w Q I r q=>h pins s σ H v w Q I r (k v σ H Q q)
theorem z72 {f:Value}{r u:List V→Hp→VK→Prop}(h:z44 X f r)(k:∀xs H Q,u xs H Q→r xs H Q):z44 X f u:=fun pins s σ H xs us Q I r q=>h pins s σ H xs us Q I r (k xs H Q q)
def zpx (t:TS):TS:=fun D σ H=>∃M:St→Hp→Prop,t { D with nx:=M } σ H∧∀ σ' H',M σ' H'→D.nx σ' H'
theorem zde {st:Stmt}{t:TS}(h:PS X st t):PS X st (zpx t):=by
 intro pins s σ H D I hw
 obtain⟨M,h1,h2⟩:=hw
 refine thn (h pins s σ H { D with nx:=M } I h1) fun f s' q=>?_
 cases f with
 | next =>
  obtain⟨σ',H',I',m⟩:=q
  exact⟨σ',H',I',h2 _ _ m⟩
 | brk=>exact q
 | cont=>exact q
 | ret v=>exact q
def sg:St→Nat→Option V
 | [],_=>none
 | v::_,0=>v
 | _::r,n+1=>sg r n
theorem zke:∀{σ:St} {i:Nat} {v:V},sg σ i=some v→σ[i]?=some (some v)
 | [],_,_,h=>nomatch h
 | w::_,0,v,h=>by
  have e:w=some v:=h
  rw [e]
  rfl
 | _::r,n+1,v,h=>by
  have e:=zke (σ:=r) (i:=n) (v:=v) h
  simpa using e
def xV (i:Nat)(σ:St)(H:Hp)(Q:VK):Prop:=match sg σ i with
 | some v=>Q v H
 | none=>False
theorem cv (i:Nat){x:Str}{pos:Pos}(hN:X.N[i]?=some x:=by rfl)(hv:Vis X.env.scope x:=by first | exact y72 rfl | exact y6s (y72 rfl) | exact y6s (y6s rfl))(hd:(x==("__debug__":Str))=false:=by decide)
  (hcd:(x==("__classdict__":Str))=false:=by decide):PE X (.Name x pos) (xV i) :=
 z4m (zn9 hN hv hd hcd) fun σ H Q q=>by
  unfold xV at q
  split at q
  ·rename_i v e
   exact⟨v,zke e,q⟩
  ·exact q.elim
def Bd (n:Nat)(i:Int):Prop:=i.natAbs<2^n
def znl (x y:V)(H:Hp)(Q:VK):Prop:=match x,y with
 | .int i,.int j=>Q (.int (i+j)) H
 | .str i,.str j=>i.length+j.length≤sizeLine∧Q (.str (i++j)) H
 | .ref l,.ref b=>∃xs zs,H l=some (.lst xs)∧H b=some (.lst zs)∧xs.length+zs.length≤sizeLine∧∀p,H p=none→Q (.ref p) (upd H p (.lst (xs++zs)))
 | _,_=>False
def znk (x y:V)(H:Hp)(Q:VK):Prop:=match x,y with
 | .int i,.int j=>Q (.int (i - j)) H
 | _,_=>False
def znj (x y:V)(H:Hp)(Q:VK):Prop:=match x,y with
 | .int i,.int j=>IntMulOk i j∧Q (.int (i*j)) H
 | .ref l,.int k=>∃xs,H l=some (.lst xs)∧-(2^63)≤k∧k<2^63∧xs.length*k.toNat≤sizeLine∧∀p,H p=none→Q (.ref p) (upd H p (.lst (y05 k.toNat xs).flatten))
 | _,_=>False
def znp (x y:V)(H:Hp)(Q:VK):Prop:=match x,y with
 | .int i,.int j=>0<j∧Q (.int (i % j)) H
 | _,_=>False
def znt (x y:V)(H:Hp)(Q:VK):Prop:=match x,y with
 | .int i,.int j=>j≠0∧j.natAbs.log2<9000∧Q (.int (i.fdiv j)) H
 | _,_=>False
def zni (x y:V)(H:Hp)(Q:VK):Prop:=match x,y with
 | .int i,.int j=>0≤j∧(Builtin.Int.intBits i:Int)*j≤2^27∧Q (.int (i^j.toNat)) H
 | _,_=>False
theorem z30:OpR X (binaryOp .Add) znl:=by
 intro pins s σ H x y v u Q I rx ry h
 unfold znl at h
 split at h
 ·exact zm2 pins s σ H _ _ v u Q I rx ry ⟨_,_,rfl,rfl,h⟩
 ·exact zea pins s σ H _ _ v u Q I rx ry ⟨_,_,rfl,rfl,h.1,h.2⟩
 ·obtain⟨xs,zs,h1,h2,h3,h4⟩:=h
  exact zm7 pins s σ H _ _ v u Q I rx ry ⟨_,_,xs,zs,rfl,rfl,h1,h2,h3,h4⟩
 ·exact h.elim
theorem zjb:OpR X (binaryOp .Sub) znk:=by
 intro pins s σ H x y v u Q I rx ry h
 unfold znk at h
 split at h
 ·exact zmp pins s σ H _ _ v u Q I rx ry ⟨_,_,rfl,rfl,h⟩
 ·exact h.elim
theorem zlo:OpR X (binaryOp .Mult) (rI IntMulOk fun i j=>.int (i*j)):=opI fun _ _ _ _ _ _ _ hc q=>mul_int q hc
theorem z35:OpR X (binaryOp .Mult) znj:=by
 intro pins s σ H x y v u Q I rx ry h
 unfold znj at h
 split at h
 ·exact zlo pins s σ H _ _ v u Q I rx ry ⟨_,_,rfl,rfl,h.1,h.2⟩
 ·obtain⟨xs,h1,h2,h3,h4,h5⟩:=h
  exact zlz pins s σ H _ _ v u Q I rx ry ⟨_,_,xs,rfl,rfl,h1,h2,h3,h4,h5⟩
 ·exact h.elim
theorem z2g:OpR X (binaryOp .Mod) znp:=by
 intro pins s σ H x y v u Q I rx ry h
 unfold znp at h
 split at h
 ·exact zn4 pins s σ H _ _ v u Q I rx ry ⟨_,_,rfl,rfl,h.1,h.2⟩
 ·exact h.elim
theorem zl3:OpR X (binaryOp .FloorDiv) (rI (fun _ j=>j≠0∧j.natAbs.log2<9000) fun i j=>.int (i.fdiv j)):=opI fun _ _ _ _ _ _ _ hc q=>floordiv_int hc.1 q (.inl (PyProof.noPylong_of_log2 hc.2))
theorem z4f:OpR X (binaryOp .FloorDiv) znt:=by
 intro pins s σ H x y v u Q I rx ry h
 unfold znt at h
 split at h
 ·exact zl3 pins s σ H _ _ v u Q I rx ry ⟨_,_,rfl,rfl,⟨h.1,h.2.1⟩,h.2.2⟩
 ·exact h.elim
theorem zkj:OpR X (binaryOp .Pow) (rI (fun i j=>0≤j∧(Builtin.Int.intBits i:Int)*j≤2^27) fun i j=>.int (i^j.toNat)):=opI fun _ _ _ _ _ _ _ hc q=>pow_int hc.1 hc.2 q
theorem zjd:OpR X (binaryOp .Pow) zni:=by
 intro pins s σ H x y v u Q I rx ry h
 unfold zni at h
 split at h
 ·exact zkj pins s σ H _ _ v u Q I rx ry ⟨_,_,rfl,rfl,⟨h.1,h.2.1⟩,h.2.2⟩
 ·exact h.elim
def znn (x:V)(H:Hp)(Q:VK):Prop:=match x with
 | .int i=>Q (.int (-i)) H
 | _=>False
theorem z6n:UnR X (unaryOp .USub) znn:=by
 intro pins s σ H x v Q I rx h
 unfold znn at h
 split at h
 ·exact zn8 pins s σ H _ v Q I rx ⟨_,rfl,h⟩
 ·exact h.elim
def uEq (x y:V)(H:Hp)(Q:VK):Prop:=match x,y with
 | .int i,.int j=>Q (.bl (decide (i=j))) H
 | .bl i,.bl j=>Q (.bl (decide (i=j))) H
 | .str i,.str j=>Q (.bl (decide (i=j))) H
 | x,y=>znr x y=true∧Q (.bl (decide (x=y))) H
def uNe (x y:V)(H:Hp)(Q:VK):Prop:=match x,y with
 | .int i,.int j=>Q (.bl (!decide (i=j))) H
 | .bl i,.bl j=>Q (.bl (!decide (i=j))) H
 | .str i,.str j=>Q (.bl (!decide (i=j))) H
 | x,y=>znr x y=true∧Q (.bl (!decide (x=y))) H
def uLt (x y:V)(H:Hp)(Q:VK):Prop:=match x,y with
 | .int i,.int j=>Q (.bl (decide (i<j))) H
 | _,_=>False
def uLe (x y:V)(H:Hp)(Q:VK):Prop:=match x,y with
 | .int i,.int j=>Q (.bl (decide (i≤j))) H
 | _,_=>False
def uGt (x y:V)(H:Hp)(Q:VK):Prop:=match x,y with
 | .int i,.int j=>Q (.bl (decide (j<i))) H
 | _,_=>False
def uGe (x y:V)(H:Hp)(Q:VK):Prop:=match x,y with
 | .int i,.int j=>Q (.bl (decide (j≤i))) H
 | _,_=>False
theorem z6a:OpR X (compareOp .Eq) uEq:=by
 intro pins s σ H x y v u Q I rx ry h
 unfold uEq at h
 split at h
 ·rename_i i j
  refine zho pins s σ H _ _ v u Q I rx ry ⟨rfl,?_⟩
  have e:decide (V.int i=V.int j)=decide (i=j):=by simp
  rw [e]
  exact h
 ·rename_i i j
  refine zho pins s σ H _ _ v u Q I rx ry ⟨rfl,?_⟩
  have e:decide (V.bl i=V.bl j)=decide (i=j):=by simp
  rw [e]
  exact h
 ·rename_i i j
  refine zho pins s σ H _ _ v u Q I rx ry ⟨rfl,?_⟩
  have e:decide (V.str i=V.str j)=decide (i=j):=by simp
  rw [e]
  exact h
 ·exact zho pins s σ H _ _ v u Q I rx ry h
theorem zkl:OpR X (compareOp .NotEq) uNe:=by
 intro pins s σ H x y v u Q I rx ry h
 unfold uNe at h
 split at h
 ·rename_i i j
  refine ziw pins s σ H _ _ v u Q I rx ry ⟨rfl,?_⟩
  have e:decide (V.int i=V.int j)=decide (i=j):=by simp
  rw [e]
  exact h
 ·rename_i i j
  refine ziw pins s σ H _ _ v u Q I rx ry ⟨rfl,?_⟩
  have e:decide (V.bl i=V.bl j)=decide (i=j):=by simp
  rw [e]
  exact h
 ·rename_i i j
  refine ziw pins s σ H _ _ v u Q I rx ry ⟨rfl,?_⟩
  have e:decide (V.str i=V.str j)=decide (i=j):=by simp
  rw [e]
  exact h
 ·exact ziw pins s σ H _ _ v u Q I rx ry h
theorem za8:OpR X (compareOp .Lt) uLt:=by
 intro pins s σ H x y v u Q I rx ry h
 unfold uLt at h
 split at h
 ·exact zoo pins s σ H _ _ v u Q I rx ry ⟨_,_,rfl,rfl,h⟩
 ·exact h.elim
theorem zoe:OpR X (compareOp .LtE) uLe:=by
 intro pins s σ H x y v u Q I rx ry h
 unfold uLe at h
 split at h
 ·exact zo1 pins s σ H _ _ v u Q I rx ry ⟨_,_,rfl,rfl,h⟩
 ·exact h.elim
theorem z7d:OpR X (compareOp .Gt) uGt:=by
 intro pins s σ H x y v u Q I rx ry h
 unfold uGt at h
 split at h
 ·exact zo6 pins s σ H _ _ v u Q I rx ry ⟨_,_,rfl,rfl,h⟩
 ·exact h.elim
theorem zi1:OpR X (compareOp .GtE) uGe:=by
 intro pins s σ H x y v u Q I rx ry h
 unfold uGe at h
 split at h
 ·exact zoi pins s σ H _ _ v u Q I rx ry ⟨_,_,rfl,rfl,h⟩
 ·exact h.elim
def uIs (x y:V)(H:Hp)(Q:VK):Prop:=match y with
 | .non=>Q (.bl (decide (x = .non))) H
 | _=>False
def onB (Q:Bool→Hp→Prop)(x:V)(H:Hp):Prop:=match x with
 | .bl k=>Q k H
 | _=>False
theorem zb2 {Q:Bool→Hp→Prop}{x:V}{H:Hp}(h:onB Q x H):∃k,x = .bl k∧Q k H:=by
 unfold onB at h
 split at h
 ·exact⟨_,rfl,h⟩
 ·exact h.elim
def xT (t:TE)(σ:St)(H:Hp)(Q:Bool→Hp→Prop):Prop:=t σ H (onB Q)
theorem z3r {e:Expr}{t:TE}(h:PE X e t)(he:∀whole,isTrue e X.env whole=(do let v ←whole; standAt e.pos; holding [v] (truthy v)):=by intro _; rfl):PT X e (xT t):=by
 intro pins s σ H Q I hw
 refine isTrue_plain (thn (h pins s σ H _ I hw) fun v s1 hq=>?_) (he _)
 obtain⟨x,H1,I1,r1,q1⟩:=hq
 obtain⟨d,rfl,q⟩:=zb2 q1
 cases r1
 exact wpAny_truthy_bool ⟨H1,I1,q⟩
variable {a b:Expr}{ta tb:TE}{pos:Pos}{rest:List Expr}
theorem z0y {op:CmpOp}{r:R2}(ho:OpR X (compareOp op) r)(ha:PE X a ta)(hb:PE X b tb)(hm:behindInMarks op b=false):PT X (.Compare a [op] [b] pos) (xT (tOp r ta tb)):=by
 intro pins s σ H Q I h
 refine wpAny_isTrue_Compare1 (thn (ha pins s σ H _ I h) fun v s1 h1=>?_) hm
 obtain⟨x,H1,I1,r1,q1⟩:=h1
 refine thn (hb pins s1 σ H1 _ I1 q1) fun u s2 h2=>?_
 obtain⟨y,H2,I2,r2,q2⟩:=h2
 refine thn (ho pins s2 σ H2 x y v u _ I2 r1 r2 q2) fun c s3 h3=>?_
 obtain⟨z,H3,I3,r3,q3⟩:=h3
 obtain⟨k,rfl,q⟩:=zb2 q3
 cases r3
 exact wpAny_truthy_bool ⟨H3,I3,q⟩
def zo7 (ta tb:TE)(σ:St)(H:Hp)(Q:VK):Prop:=ta σ H (onB fun c H1=>if c=true then tb σ H1 Q else Q (.bl false) H1)
def xOr (ta tb:TE)(σ:St)(H:Hp)(Q:VK):Prop:=ta σ H (onB fun c H1=>if c=true then Q (.bl true) H1 else tb σ H1 Q)
def zol (ta:TE)(σ:St)(H:Hp)(Q:VK):Prop:=ta σ H (onB fun c H1=>Q (.bl (!c)) H1)
theorem z9p (ha:PE X a ta)(hb:PE X (.BoolOp .And (b::rest) pos) tb):PE X (.BoolOp .And (a::b::rest) pos) (zo7 ta tb):=by
 intro pins s σ H Q I h
 refine BoolOp_and (thn (ha pins s σ H _ I h) fun v s1 h1=>?_)
 obtain⟨x,H1,I1,r1,q1⟩:=h1
 obtain⟨c,rfl,q⟩:=zb2 q1
 cases r1
 refine wpAny_truthy_bool ?_
 cases c with
 | true=>exact hb pins s1 σ H1 Q I1 q
 | false=>exact⟨.bl false,H1,I1,rfl,q⟩
theorem zmb (ha:PE X a ta)(hb:PE X (.BoolOp .Or (b::rest) pos) tb):PE X (.BoolOp .Or (a::b::rest) pos) (xOr ta tb):=by
 intro pins s σ H Q I h
 refine BoolOp_or (thn (ha pins s σ H _ I h) fun v s1 h1=>?_)
 obtain⟨x,H1,I1,r1,q1⟩:=h1
 obtain⟨c,rfl,q⟩:=zb2 q1
 cases r1
 refine wpAny_truthy_bool ?_
 cases c with
 | false=>exact hb pins s1 σ H1 Q I1 q
 | true=>exact⟨.bl true,H1,I1,rfl,q⟩
theorem zjf (ha:PE X a ta):PE X (.UnaryOp .Not a pos) (zol ta):=by
 intro pins s σ H Q I h
 refine UnaryOp_ (thn (ha pins s σ H _ I h) fun v s1 h1=>?_)
 obtain⟨x,H1,I1,r1,q1⟩:=h1
 obtain⟨c,rfl,q⟩:=zb2 q1
 cases r1
 exact not_of (wpAny_truthy_bool ⟨.bl (!c),H1,I1,rfl,q⟩)
def zno (xs:List V)(H:Hp)(Q:VK):Prop:=match xs with
 | [.int i]=>Q (.int (if i<0 then -i else i)) H
 | _=>False
theorem zei:z44 X (.builtin "abs") zno:=z72 zin fun xs H Q h=>by
 unfold zno at h
 split at h
 ·exact⟨_,rfl,h⟩
 ·exact h.elim
def zhd (xs:List V)(H:Hp)(Q:VK):Prop:=match xs with
 | [.int i,.int j]=>Q (.int (if j<i then j else i)) H
 | _=>False
theorem zkv (hc:X.calm=true:=by rfl):z44 X (.builtin "min") zhd:=z72 (zgk hc) fun xs H Q h=>by
 unfold zhd at h
 split at h
 ·exact⟨_,_,rfl,h⟩
 ·exact h.elim
def zmf (xs:List V)(H:Hp)(Q:VK):Prop:=match xs with
 | [.int i,.int j]=>Q (.int (if j>i then j else i)) H
 | _=>False
@[reducible] def zpg (K:y03)(xs:List V)(H:Hp)(Q:VK):Prop:=match xs with
 | [.ref p]=>∃ys,(SqL K H p ys∨SqT K H p ys)∧Q (.int ys.length) H
 | _=>False
theorem z1z:z44 X (.builtin "len") (zpg X.K):=z72 za7 fun xs H Q h=>by
 unfold zpg at h
 split at h
 ·obtain⟨ys,h1,h2⟩:=h
  exact⟨_,ys,rfl,h1,h2⟩
 ·exact h.elim
def zpl (xs:List V)(H:Hp)(Q:VK):Prop:=match xs with
 | [.int i]=>Q (.int i) H
 | [.bl k]=>Q (.int (if k then 1 else 0)) H
 | _=>False
@[reducible] def zl8 (K:y03)(xs:List V)(H:Hp)(Q:VK):Prop:=match xs with
 | [.ref p]=>∃ys,(SqL K H p ys∨SqT K H p ys)∧∀l,H l=none→Q (.ref l) (upd H l (.lst ys))
 | _=>False
theorem z7e:z44 X (.type "list") (zl8 X.K):=z72 z9s fun xs H Q h=>by
 unfold zl8 at h
 split at h
 ·obtain⟨ys,h1,h2⟩:=h
  exact⟨_,ys,rfl,h1,h2⟩
 ·exact h.elim
def tyN (H:Hp)(x:V):Option String:=match x with
 | .non=>some "NoneType"
 | .bl _=>some "bool"
 | .int _=>some "int"
 | .str _=>some "str"
 | .ref a=>match H a with
  | some (.lst _)=>some "list"
  | some (.tup _)=>some "tuple"
  | some (.dK _)=>some "dict"
  | _=>none
 | _=>none
def isB (t c:String):Bool:=t==c||(t == "bool"&&c == "int")
def okC (c:String):Bool:=["int","bool","str","list","tuple","dict"].contains c
theorem zl7 (K:y03){t c:String}(ht:t ∈ ["NoneType","bool","int","str","list","tuple","dict"])(hc:c ∈ ["int","bool","str","list","tuple","dict"]):y6z K (.type t) (.type c)=some (isB t c):=by
 simp only [y0m,y1c,or_false] at ht hc
 rcases ht with rfl | rfl | rfl | rfl | rfl | rfl | rfl<;>rcases hc with rfl | rfl | rfl | rfl | rfl | rfl<;>with_unfolding_all rfl
def zim (xs:List V)(H:Hp)(Q:VK):Prop:=match xs with
 | [x,.ty c]=>match tyN H x with
  | some t=>okC c=true∧Q (.bl (isB t c)) H
  | none=>False
 | _=>False
theorem z22:z44 X (.builtin "isinstance") zim:=by
 intro pins s σ H xs us Q I r h
 unfold zim at h
 split at h
 ·rename_i x c
  split at h
  ·rename_i t et
   obtain⟨hc,q⟩:=h
   obtain⟨u,w,rfl,rx,rc⟩:=zha r
   obtain rfl:w=Value.type c:=rc
   have hc':c ∈ ["int","bool","str","list","tuple","dict"]:=y1t.mp hc
   have fin:∀tk,EP X pins σ Q (.bool (isB t c)) { s with toks:=tk }:=fun tk=>⟨.bl (isB t c),H,I.tok tk,rfl,q⟩
   have go:∀ty:TyOf X.K H x (.type t),t ∈ ["NoneType","bool","int","str","list","tuple","dict"]→wpAny (model X.prog X.w) X.A (call (.builtin "isinstance") [u,.type c]) (EP X pins σ Q) X.xe s:=fun ty ht =>
    zgd I rx ty (zl7 X.K ht hc') fin
   unfold tyN at et
   split at et
   ·cases et; exact go .non (by decide)
   ·cases et; exact go (.bl _) (by decide)
   ·cases et; exact go (.int _) (by decide)
   ·cases et; exact go (.str _) (by decide)
   ·split at et
    ·rename_i a xs e
     cases et; exact go (.lst e) (by decide)
    ·rename_i a xs e
     cases et; exact go (.tup e) (by decide)
    ·rename_i a kvs e
     cases et; exact go (.dK e) (by decide)
    ·cases et
   ·cases et
  ·exact h.elim
 ·exact h.elim
@[reducible] def uIx (K:y03)(x y:V)(H:Hp)(Q:VK):Prop:=match x,y with
 | .ref p,.int i=>∃xs v,(SqL K H p xs∨SqT K H p xs)∧atI xs i=some v∧Q v H
 | _,_=>False
theorem z0l:IxR X (uIx X.K):=by
 intro value slice pins s σ H x y v u Q I rx ry h hs
 unfold uIx at h
 split at h
 ·obtain⟨xs,v',h1,h2,h3⟩:=h
  rcases h1 with h1 | h1
  ·exact zlt value slice pins s σ H _ _ v u Q I rx ry ⟨_,xs,_,v',rfl,rfl,h1,h2,h3⟩ hs
  ·exact zmk value slice pins s σ H _ _ v u Q I rx ry ⟨_,xs,_,v',rfl,rfl,h1,h2,h3⟩ hs
 ·exact h.elim
@[reducible] def uSl (K:y03)(x:V)(lo hi:Option Int)(H:Hp)(Q:VK):Prop:=match x with
 | .ref a=>∃xs,SqL K H a xs∧∀p,H p=none→Q (.ref p) (upd H p (.lst (zec xs lo hi)))
 | _=>False
def zkt (t:TE)(σ:St)(H:Hp)(Q:Option Int→Hp→Prop):Prop:=t σ H fun x H1=>match x with
 | .int i=>Q (some i) H1
 | _=>False
end
structure Def (P:Program)(w:World)(K:y03)(mg:Str→Option Value)(base:Heap)(x:Str)(k:Nat)(ps:List Str)(sp:Sp):Prop where
 is:∃(f:Addr) (fd:FuncData),FnOk P w K mg base CX0 k f fd ps sp∧Binds K fd ps []∧mg x=some (.ref f)∧y0i K (.ref f)=true
structure Top (K:y03)(mg:Str→Option Value)(x:Str)(st:Stmt)(ps:List Str):Prop where
 is:∃(f:Addr) (fd:FuncData),Fun K x x st f fd∧Binds K fd ps []∧mg x=some (.ref f)
section
variable {X:Cx}{x:Str}{k:Nat}{ps:List Str}{sp:Sp}{e:Expr}{es:List Expr}{t:TA}{p pos:Pos}
def zk0 (sp:Sp)(t:TA)(σ:St)(H:Hp)(Q:VK):Prop:=t σ H fun vs H1=>sp vs H1 Q E0
theorem z0k (D:Def X.prog X.w X.K X.mg X.base x k ps sp)(hr:Room k X.A)(ha:PA X (e::es) t)(hg:Gl X x:=by rfl)(hdb:(x==("__debug__":Str))=false:=by decide)
  (he:starEach (e::es) X.env=(false,eval e X.env)::starEach es X.env:=by rfl) (hpl:(backTo pos (starEach es X.env)).any (·.1)=false:=by rfl):PE X (.Call (.Name x p) (e::es) [] pos) (zk0 sp t):=by
 intro pins s σ H Q I h
 obtain⟨f,fd,F,hb,hm,hk⟩:=D.is
 refine wpAny_Call_Name_kw (zgu I hg hm ?_ hdb)
 refine y4i (h₀:=X.base) I.ok.mod.kin hk (thn (ha pos pins s σ H _ I h) fun us s1 h1=>?_) he hpl
 obtain⟨vs,H1,I1,r,q⟩:=h1
 exact⟨I1.kIn,zfy (dvs:=[]) F hr hb .nil zi9 I1 r (by rw [y2u]; exact q)⟩
variable {P:Program}{w:World}{K:y03}{mg:Str→Option Value}{base:Heap}{N:List Str}{st:Stmt}
theorem z1x (T:Top K mg x st ps)(S:FnScope N ps (z05 st))(len:∀vs H Q E,sp vs H Q E→vs.length=ps.length)
  (body:∀(f:Addr) (cdv:Value) (A:Around) (outer:List Env) (s:Shared) (H:Hp) (vs:List V) (Q:VK) (E:XK),Room k (A.deeper (envOfC x (z05 st) s.heap.objs.size f cdv))→sp vs H Q E →
   ∃t,PSs (zh8 CX0 P w K mg base N x (z05 st) f cdv A outer s H E).nox (z0e st) t∧t { nx:=fun _ H'=>Q .non H',rt:=Q } (start N vs) H):Def P w K mg base x (k+1) ps sp:=by
 obtain⟨f,fd,F,hb,hm⟩:=T.is
 exact⟨f,fd,F.ok S len fun cdv A outer s H vs Q E hr h=>body f cdv A outer s H vs Q E hr h,hb,hm,F.kp⟩
theorem rd {t:TS}{D:Ends}{σ σ':St}{H:Hp}(e:σ = σ')(h:t D σ' H):t D σ H:=e▸h
end
end L2.EX
set_option Elab.async false
set_option linter.all false
set_option maxRecDepth 100000
namespace L2.EX
open PySem PySem.Spec PyProof.Rows
def zbw (J:It)(g:TG)(tb:TS)(D:Ends)(σ:St)(H:Hp):Prop:=∃W:Nat→Nat→St→Hp→Prop,(∃m,W 0 m σ H)∧∀i m σ H,W i m σ H →
 (J.stop i H∧D.nx σ H)∨(J.go i H∧∃N:St→Hp→Prop,(∀ σ' H',N σ' H'→∃m',m'<m∧W (i+1) m' σ' H')∧∀x H',J.yld i H x H'→g x σ H' fun σ2 H2=>tb { D with nx:=N,ct:=N,bk:=D.nx } σ2 H2)
def zod (wi:TI)(g:TG)(tb:TS)(D:Ends)(σ:St)(H:Hp):Prop:=wi σ H fun J H1=>zbw J g tb D σ H1
def zn5 (c:TT)(tb:TS)(D:Ends)(σ:St)(H:Hp):Prop:=∃(Pv:St→Hp→Prop) (μ:St→Hp→Nat),Pv σ H∧∀ σ H,Pv σ H →
 c σ H fun b H1=>if b=true then tb { D with nx:=fun σ' H'=>Pv σ' H'∧μ σ' H' < μ σ H,ct:=fun σ' H'=>Pv σ' H'∧μ σ' H' < μ σ H,bk:=D.nx } σ H1 else D.nx σ H1
def Itp (lo st:Int)(n:Nat):It:=⟨fun i _=>i<n,fun i H x H'=>H'=H∧x = .int (lo+i*st),fun i _=>n≤i⟩
def znc (lo hi st:Int):Nat:=(Builtin.Range.rangeSize lo hi st).toNat
def zoz (K:y03)(tl:TE)(σ:St)(H:Hp)(R:It→Hp→Prop):Prop:=tl σ H fun x H1=>match x with
 | .ref a=>((∃xs,SqL K H1 a xs)∧R (Itl K a) H1)∨((∃xs,SqT K H1 a xs)∧R (Itt K a) H1)
 | _=>False
def xR1 (ta:TA)(σ:St)(H:Hp)(R:It→Hp→Prop):Prop:=ta σ H fun vs H1=>match vs with
 | [.int j]=>(-(2^62)≤j∧j<2^62)∧R (Itr 0 j.toNat) H1
 | _=>False
def xR2 (ta:TA)(σ:St)(H:Hp)(R:It→Hp→Prop):Prop:=ta σ H fun vs H1=>match vs with
 | [.int i,.int j]=>(-(2^62)≤i∧i<2^62∧-(2^62)≤j∧j<2^62)∧R (Itr i (j - i).toNat) H1
 | _=>False
def xR3 (ta:TA)(σ:St)(H:Hp)(R:It→Hp→Prop):Prop:=ta σ H fun vs H1=>match vs with
 | [.int i,.int j,.int c]=>((-(2^61)≤i∧i<2^61∧-(2^61)≤j∧j<2^61)∧0<c∧c<2^20)∧R (Itp i c (znc i j c)) H1
 | _=>False
section
variable {X:Cx}{tg:Expr}
theorem z1w {iter:Expr}{body:List Stmt}{wi:TI}{g:TG}{tb:TS}{pos:Pos}(hi:PI X tg iter wi)(hg:PG X tg g)(hb:PSs X body tb)(hp:PassesOwn (model X.prog X.w) X.A X.env X.xe:=by exact PassesOwn.never)(hc:X.calm=true:=by rfl)
  (hs:∀x,foldedSetIterable iter X.env x=pure x:=by intro _; rfl):PS X (.For tg iter body [] pos) (zod wi g tb):=zm8 hp hc hi hg hb hs
theorem zic {c:Expr}{body:List Stmt}{tc:TT}{tb:TS}{pos:Pos}(hc:PT X c tc)(hb:PSs X body tb)(hp:PassesOwn (model X.prog X.w) X.A X.env X.xe:=by exact PassesOwn.never):PS X (.While c body [] pos) (zn5 tc tb):=by
 intro pins s σ H D I h
 obtain⟨Pv,μ,p0,turn⟩:=h
 refine wpAny_While (codeAny_whileLoop (fun n s'=>∃ σ' H',Inv X pins σ' H' s'∧Pv σ' H'∧n = μ σ' H') ?_ (μ σ H) ⟨σ,H,I,p0,rfl⟩)
 rintro n s1 ⟨σ1,H1,I1,w1,rfl⟩
 refine wpAny_passesOwn hp (thn (hc pins s1 σ1 H1 _ I1 (turn σ1 H1 w1)) fun b s2 h2=>?_)
 obtain⟨H2,I2,q2⟩:=h2
 cases b with
 | true =>
  rw [if_pos rfl] at q2 ⊢
  refine wpAny_passesOwn hp (thn (hb pins s2 σ1 H2 _ I2 q2) fun f s3 q3=>?_)
  cases f with
  | next =>
   obtain⟨σ3,H3,I3,n3,l3⟩:=q3
   exact⟨_,l3,σ3,H3,I3,n3,rfl⟩
  | cont =>
   obtain⟨σ3,H3,I3,n3,l3⟩:=q3
   exact⟨_,l3,σ3,H3,I3,n3,rfl⟩
  | brk=>exact q3
  | ret v=>exact q3
 | false =>
  rw [if_neg y15] at q2 ⊢
  exact wpAny_execs_nil ⟨σ1,H2,I2,q2⟩
theorem z1o {l:Expr}{tl:TE}(hl:PE X l tl):PI X tg l (zoz X.K tl):=by
 intro pins s σ H R I h
 refine thn (hl pins s σ H _ I h) fun v s1 h1=>?_
 obtain⟨x,H1,I1,r1,q1⟩:=h1
 split at q1
 ·rename_i a
  cases r1
  rcases q1 with ⟨⟨xs,hq⟩,q⟩ | ⟨⟨xs,hq⟩,q⟩
  ·obtain⟨its,rv,p,hz⟩:=I1.list hq
   refine wpAny_pyIter_list p.isList ?_
   refine⟨s1.heap.objs.size,[s1.heap.objs.size],_,_,H1,rfl,I1.kept (t':=s1.toks) fun b o e=>Heap.get?_push_of_some _ e,zfj a _,⟨_,Heap.get?_push_size _ rfl,rfl,rfl⟩,fun b hb=>?_,q⟩
   have e:b=s1.heap.objs.size:=by simpa using hb
   subst e
   exact I1.fpOk (y0a _) (I1.hok.fresh (y0a _))
  ·obtain⟨its,rv,p,hz⟩:=I1.tuple hq
   refine wpAny_pyIter_tuple (show s1.heap.IsTuple a its.toArray from p) ?_
   refine⟨s1.heap.objs.size,[s1.heap.objs.size],_,_,H1,rfl,I1.kept (t':=s1.toks) fun b o e=>Heap.get?_push_of_some _ e,zdf a _,⟨_,Heap.get?_push_size _ rfl,rfl,rfl⟩,fun b hb=>?_,q⟩
   have e:b=s1.heap.objs.size:=by simpa using hb
   subst e
   exact I1.fpOk (y0a _) (I1.hok.fresh (y0a _))
 ·exact q1.elim
theorem zgz {a:Expr}{ta:TA}{p pos:Pos}(hm:X.mg "range"=none)(ha:PA X [a] ta)(hg:Gl X "range":=by rfl)(hs:starEach [a] X.env = [(false,eval a X.env)]:=by rfl):PI X tg (.Call (.Name "range" p) [a] [] pos) (xR1 ta):=by
 intro pins s σ H R I h
 refine Call_ (z5z I hg hm boot_range (y1s (thn (ha pos pins s σ H _ I h) fun us s1 h1=>?_) hs rfl))
 obtain⟨vs,H1,I1,r1,q1⟩:=h1
 split at q1
 ·obtain⟨u,rfl,t,rfl⟩:=z7a r1
  obtain⟨⟨q1,q2⟩,q⟩:=q1
  exact call_range_1 (zia I1 (by omega) (by omega) q1 q2 (by simpa using q))
 ·exact q1.elim
theorem zi5 {lo hi c:Int}(hc:0<c):0≤Builtin.Range.rangeSize lo hi c∧Builtin.Range.rangeSize lo hi c≤(hi - lo).toNat∧(∀i:Nat,(i:Int)<Builtin.Range.rangeSize lo hi c→lo+i*c<hi):=by
 unfold Builtin.Range.rangeSize
 rw [if_pos hc]
 split
 ·rename_i h
  have q0:0≤(hi - lo - 1) / c:=y6t (by omega) (by omega)
  have q1:(hi - lo - 1) / c≤hi - lo - 1:=Int.ediv_le_self _ (by omega)
  have q2:(hi - lo - 1) / c*c≤hi - lo - 1:=Int.ediv_mul_le _ (by omega)
  refine⟨by omega,by omega,fun i hi'=>?_⟩
  have q3:(i:Int)*c≤(hi - lo - 1) / c*c:=y1g (by omega) (by omega)
  omega
 ·exact⟨by omega,by omega,fun i hi'=>by omega⟩
theorem zj1 {a b c:Int}(ha:-(2^61)≤a)(ha':a<2^61)(hb:-(2^61)≤b)(hb':b<2^61)(hc:0<c)(hc':c<2^20):Builtin.Range.small a b c=true:=by
 obtain⟨h1,h2,_⟩:=zi5 (lo:=a) (hi:=b) hc
 unfold Builtin.Range.small
 simp only [Builtin.Range.rangeFitsLong,y1d,y5h,decide_eq_true_eq,beq_iff_eq,if_pos (show c>0 from hc)]
 refine⟨⟨⟨⟨by omega,by omega⟩,by omega,by omega⟩,by omega⟩,.inr ⟨by omega,by omega⟩⟩
end
section
variable {K:y03}{g:TG}{tb:TS}{D:Ends}{σ:St}{H:Hp}
theorem z3f {a:Addr}{xs:List V}(Pv:Nat→St→Hp→Prop)(h0:Pv 0 σ H)(hl:∀i σ H,i≤xs.length→Pv i σ H→SqL K H a xs)
  (hs:∀i x σ H,xs[i]?=some x→Pv i σ H→g x σ H fun σ2 H2=>tb { D with nx:=Pv (i+1),ct:=Pv (i+1),bk:=D.nx } σ2 H2) (hd:∀ σ H,Pv xs.length σ H→D.nx σ H):zbw (Itl K a) g tb D σ H:=zhu Pv h0 hl hs hd
theorem zj7 {a:Addr}{xs:List V}(Pv:Nat→St→Hp→Prop)(h0:Pv 0 σ H)(hl:∀i σ H,i≤xs.length→Pv i σ H→SqT K H a xs)
  (hs:∀i x σ H,xs[i]?=some x→Pv i σ H→g x σ H fun σ2 H2=>tb { D with nx:=Pv (i+1),ct:=Pv (i+1),bk:=D.nx } σ2 H2) (hd:∀ σ H,Pv xs.length σ H→D.nx σ H):zbw (Itt K a) g tb D σ H:=zl0 Pv h0 hl hs hd
theorem z9n {lo:Int}{n:Nat}(Pv:Nat→St→Hp→Prop)(h0:Pv 0 σ H)
  (hs:∀i σ H,i<n→Pv i σ H→g (.int (lo+i)) σ H fun σ2 H2=>tb { D with nx:=Pv (i+1),ct:=Pv (i+1),bk:=D.nx } σ2 H2) (hd:∀ σ H,Pv n σ H→D.nx σ H):zbw (Itr lo n) g tb D σ H:=zgw Pv h0 hs hd
end
section
variable {X:Cx}{pos:Pos}
def xT2 (K:y03)(i j:Nat)(v:V)(σ:St)(H:Hp)(Q:St→Hp→Prop):Prop:=match v with
 | .ref a=>∃x y,SqT K H a [x,y]∧Q ((σ.set i (some x)).set j (some y)) H
 | _=>False
def xT3 (K:y03)(i j k:Nat)(v:V)(σ:St)(H:Hp)(Q:St→Hp→Prop):Prop:=match v with
 | .ref a=>∃x y z,SqT K H a [x,y,z]∧Q (((σ.set i (some x)).set j (some y)).set k (some z)) H
 | _=>False
theorem z0b (i:Nat){x:Str}(hN:X.N.Nodup)(hi:X.N[i]?=some x:=by rfl)(hx:Loc X.env.scope x:=by first | exact y72 rfl | exact y6s rfl)(hf:X.fn x=true∨X.env.scope.names.lookup x=some .local:=by first | exact .inl rfl | exact .inr rfl):PG X (.Name x pos) (z3x i):=zkq hN hi hx hf
theorem z6u {x y:Str}{px py:Pos}{kt:Nat}{i j:Nat}(h1:PG X (.Name x px) (z3x i))(h2:PG X (.Name y py) (z3x j))(hc:X.calm=true:=by rfl):PG X (.Tuple [.Name x px,.Name y py] kt pos) (xT2 X.K i j) :=
 zjs (zjw hc (z5c h1 (z5c h2 zee))) fun v σ H Q h=>by
  unfold xT2 at h
  split at h
  ·obtain⟨u,w,h1,h2⟩:=h
   exact⟨_,_,rfl,h1,rfl,_,_,rfl,_,_,rfl,rfl,h2⟩
  ·exact h.elim
theorem zn6 {x y z:Str}{px py pz:Pos}{kt:Nat}{i j k:Nat}(h1:PG X (.Name x px) (z3x i))(h2:PG X (.Name y py) (z3x j))(h3:PG X (.Name z pz) (z3x k))(hc:X.calm=true:=by rfl):PG X (.Tuple [.Name x px,.Name y py,.Name z pz] kt pos) (xT3 X.K i j k) :=
 zjs (zjw hc (z5c h1 (z5c h2 (z5c h3 zee)))) fun v σ H Q h=>by
  unfold xT3 at h
  split at h
  ·obtain⟨u,w,r,h1,h2⟩:=h
   exact⟨_,_,rfl,h1,rfl,_,_,rfl,_,_,rfl,_,_,rfl,rfl,h2⟩
  ·exact h.elim
theorem z0c (i:Nat){x:Str}{e:Expr}{te:TE}{pos':Pos}(hN:X.N.Nodup)(he:PE X e te)(hi:X.N[i]?=some x:=by rfl)(hx:Loc X.env.scope x:=by first | exact y72 rfl | exact y6s rfl)(hs:swapsWith e (some (.Name x pos')) pos.line X.env=pure false:=by rfl)
  (hf:X.fn x=true∨X.env.scope.names.lookup x=some .local:=by first | exact .inl rfl | exact .inr rfl):PS X (.Assign [.Name x pos'] e pos) (zlb te (z3x i)):=zna hN hi hx he hs hf
def zpe (i j:Nat)(ta:TA)(D:Ends)(σ:St)(H:Hp):Prop:=ta σ H fun vs H1=>match vs with
 | [v,w]=>D.nx ((σ.set i (some v)).set j (some w)) H1
 | _=>False
end
end L2.EX
set_option Elab.async false
set_option linter.all false
set_option maxRecDepth 100000
namespace L2.EX
open PySem PySem.Spec PyProof.Rows
theorem zef:bootBuiltins "abs"=some (.builtin "abs"):=by decide +kernel
theorem zj8:bootBuiltins "min"=some (.builtin "min"):=by decide +kernel
theorem zj6:bootBuiltins "sum"=some (.builtin "sum"):=by decide +kernel
theorem zji:bootBuiltins "any"=some (.builtin "any"):=by decide +kernel
theorem z23:bootBuiltins "isinstance"=some (.builtin "isinstance"):=by decide +kernel
theorem zj4:bootBuiltins "int"=some (.type "int"):=by decide +kernel
theorem zgt:bootBuiltins "bool"=some (.type "bool"):=by decide +kernel
theorem z4r:bootBuiltins "list"=some (.type "list"):=by decide +kernel
theorem zki:bootBuiltins "dict"=some (.type "dict"):=by decide +kernel
theorem zb6:bootBuiltins "enumerate"=some (.type "enumerate"):=by decide +kernel
theorem zjk:bootBuiltins "zip"=some (.type "zip"):=by decide +kernel
section
variable {X:Cx}{x:Str}{p pos:Pos}{e:Expr}{es:List Expr}{t:TA}{id T:String}{r:List V→Hp→VK→Prop}
theorem z47 (hc:z44 X (.builtin id) r)(hm:X.mg x=none)(hv:bootBuiltins x=some (.builtin id))(ha:PA X (e::es) t)(hg:Gl X x:=by rfl)(hn:x ≠ "__name__":=by decide)(hdb:(x==("__debug__":Str))=false:=by decide)
  (he:starEach (e::es) X.env=(false,eval e X.env)::starEach es X.env:=by rfl) (hpl:(backTo pos (starEach es X.env)).any (·.1)=false:=by rfl):PE X (.Call (.Name x p) (e::es) [] pos) (tCB r t):=zio hc hg hm hv ha hn hdb he hpl
theorem zly (hc:z44 X (.type T) r)(hm:X.mg x=none)(hv:bootBuiltins x=some (.type T))(ha:PA X (e::es) t)(hg:Gl X x:=by rfl)(hn:x ≠ "__name__":=by decide)(hdb:(x==("__debug__":Str))=false:=by decide)
  (he:starEach (e::es) X.env=(false,eval e X.env)::starEach es X.env:=by rfl) (hpl:(backTo pos (starEach es X.env)).any (·.1)=false:=by rfl):PE X (.Call (.Name x p) (e::es) [] pos) (tCB r t):=zfe hc hg hm hv ha hn hdb he hpl
theorem zdw (hm:X.mg x=none)(hv:bootBuiltins x=some (.type T))(hg:Gl X x:=by rfl)(hn:x ≠ "__name__":=by decide)(hd:(x==("__debug__":Str))=false:=by decide):PE X (.Name x pos) (tC (.ty T)):=zko hg hm hv rfl hn hd
theorem z7z {es:List Expr}{t:TA}(h:PA X es t):PA X es (fun σ H Q=>∃R,t σ H R∧∀vs H1,R vs H1→Q vs H1):=by
 intro pos pins s σ H Q I hw
 obtain⟨R,h1,h2⟩:=hw
 refine thn (h pos pins s σ H R I h1) fun us s1 hq=>?_
 obtain⟨vs,H1,I1,r,q⟩:=hq
 exact⟨vs,H1,I1,r,h2 _ _ q⟩
theorem z1k {e:Expr}{t:TE}(h:PE X e t):PE X e (fun σ H Q=>∃R,t σ H R∧∀v H1,R v H1→Q v H1):=by
 intro pins s σ H Q I hw
 obtain⟨R,h1,h2⟩:=hw
 refine thn (h pins s σ H R I h1) fun us s1 hq=>?_
 obtain⟨v,H1,I1,r,q⟩:=hq
 exact⟨v,H1,I1,r,h2 _ _ q⟩
end
theorem zbv {i j:Int}{m n:Nat}(hi:Bd m i)(hj:Bd n j)(h:m+n≤134217728):IntMulOk i j:=IntMulOk.of_le (intBits_le_iff.mpr hi) (intBits_le_iff.mpr hj) h
theorem zjo {j:Int}{n:Nat}(h:Bd n j)(hn:n≤9000)(h0:j≠0):j.natAbs.log2<9000:=by
 have h1:j.natAbs<2^n:=h
 have h2:j.natAbs.log2<n:=(Nat.log2_lt (by omega)).mpr h1
 omega
theorem Bd.le {i:Int}{m n:Nat}(h:Bd m i)(k:m≤n):Bd n i:=y0p h (y5r (by decide) k)
theorem sz {n:Nat}(h:n≤1000):n≤sizeLine:=y5e (z0h h)
def zdz (K:y03):Sp:=fun vs H Q _=>∃(a:Addr) (ns:List Int),vs = [.ref a]∧SqL K H a (ns.map V.int)∧ns.length≤63∧∀H',Q (.bl true) H'
theorem z1y {K:y03}{mg:Str→Option Value}{h:Heap}{x:Str}{st:Stmt}{ps:List Str}{f:Addr}{oc:Value}{od an:Option Addr}{osl:Array (Option Value)}{kV doc pm cdv ct:Value}(X:K.In h)(G:h.Ns mainGlobals mg)
  (a:y0r K mainGlobals x=some (some (.ref f))) (l:K.lookup f=some ⟨oc,od,.func (y0o x x (z0f st) (z0e st) (z05 st) .none kV doc pm an cdv ct),osl⟩)
  (c:y0k K cdv x=true) (k:y0i K (.ref f)=true)
  (b:∀(kV doc pm:Value) (an:Option Addr) (cdv ct:Value) (us:List Value),us.length=ps.length→bindArgs (y0o x x (z0f st) (z0e st) (z05 st) .none kV doc pm an cdv ct) ⟨us,[]⟩=pure (ps.zip us)):Top K mg x st ps :=
 ⟨f,_,z1g l c k,(z1g l c k).binds b,y62 X G a⟩
theorem znh {l:y4e}{w:World}{K:y03}{mg:Str→Option Value}{h:Heap}{st:Stmt}{fa f:Addr}{k:Nat}{oc:Value}{od an:Option Addr}{osl:Array (Option Value)}{kV doc pm cdv ct:Value}(X:K.In h)(G:h.Ns mainGlobals mg)
  (hfa:mg "law"=some (.ref fa)) (a:y0r K mainGlobals "law"=some (some (.ref f))) (lk:K.lookup f=some ⟨oc,od,.func (y0o "law" "law" (z0f st) (z0e st) (z05 st) .none kV doc pm an cdv ct),osl⟩)
  (c:y0k K cdv "law"=true) (kp:y0i K (.ref f)=true)
  (b:∀(s:Shared) (v:Value),BindsTo s (y0o "law" "law" (z0f st) (z0e st) (z05 st) .none kV doc pm an cdv ct) ⟨[v],[]⟩ [("_law_script",v)])
  (D:∀(f:Addr) (fd:FuncData),Fun K "law" "law" st f fd→∀base:Heap,FnOk l.prog w K mg base CX0 k f fd ["_law_script"] (zdz K)) :
  ∃fd:FuncData,(∀(s:Shared) (v:Value),BindsTo s fd ⟨[v],[]⟩ [("_law_script",v)])∧∀base:Heap,K.In base→base.Ns mainGlobals mg→FnOk l.prog w K mg base CX0 k fa fd ["_law_script"] (zdz K):=by
 have e:=hfa.symm.trans (y62 X G a)
 cases e
 exact⟨_,b,fun base _ _=>D _ _ (z1g lk c kp) base⟩
theorem walk {l:y4e}{q:Program}{loose:List Str}{XP:(Str→Option Value)→Heap→Prop}{YP:World→Heap→Prop}{d:DefRec}{K:Params→y03}(k:Nat)(hn:l.most=some 63)(hdf:d.params.defaults = [])(hr:Room k callerA)
  (hY:∀(w:World) (h:Heap),YP w h→(K w.params).In h)
  (F:∀(w:World) (mg:Str→Option Value) (fa:Addr) (h:Heap),(K w.params).In h→h.Ns mainGlobals mg→mg d.name=some (.ref fa) →
   ∃fd:FuncData,(∀(s:Shared) (u:Value),BindsTo s fd ⟨[u],[]⟩ [("_law_script",u)])∧∀base:Heap,(K w.params).In base→base.Ns mainGlobals mg→FnOk l.prog w (K w.params) mg base CX0 k fa fd ["_law_script"] (zdz (K w.params))) :
  y75 q loose XP YP l.row.toRowW d [] (fun f vs=>y71 f vs) :=
 L2.walk_of (n:=63) (k:=k) (x:="_law_script") (CX:=fun _=>CX0) (sp:=fun w=>zdz (K w.params)) hn (by decide) hdf hr hY F (fun _ _ a ns hl _ hS=>⟨a,ns,rfl,hS,hl,fun _=>rfl⟩) fun _ _ _ _ _ z=>z
end L2.EX
set_option Elab.async false
set_option linter.all false
set_option maxRecDepth 100000
namespace L2.EX
open PySem PySem.Spec PyProof.Rows
theorem zf4 {env:Env}:∀(ns:List (Str×NameKind)) (acc:List (Str×Addr)),(∀y∈ns,y.2 = .free→∃c,env.cells.lookup y.1=some c)→(∀x c,acc.lookup x=some c→env.cells.lookup x=some c) →
  ∃cl:List (Str×Addr),(forIn ns acc (fun (x:Str×NameKind) (r:List (Str×Addr))=>match x with | (name,kind)=>if (kind==NameKind.free)=true then do let c ←cellOf env name; pure (ForInStep.yield ((name,c)::r)) else pure (ForInStep.yield r)):Sem (List (Str×Addr)))=pure cl ∧
   (∀x c,cl.lookup x=some c→env.cells.lookup x=some c)∧(∀x c,acc.lookup x=some c→∃c',cl.lookup x=some c')∧∀y∈ns,y.2 = .free→∃c,cl.lookup y.1=some c
 | [],acc,_,h2=>⟨acc,rfl,h2,fun x c e=>⟨c,e⟩,fun y hy=>nomatch hy⟩
 | (n,k)::r,acc,h1,h2=>by
  have h1':∀y∈r,y.2 = .free→∃c,env.cells.lookup y.1=some c:=fun y hy=>h1 y (y0c _ hy)
  by_cases hk:k = .free
  ·subst hk
   obtain⟨c,hc⟩:=h1 (n,.free) y0d rfl
   have hc':env.cells.lookup n=some c:=hc
   have h2':∀x d,((n,c)::acc).lookup x=some d→env.cells.lookup x=some d:=fun x d e=>by
    rw [y1l] at e
    cases hx:x==n with
    | true =>
     rw [hx] at e
     cases e
     rw [beq_iff_eq.mp hx]
     exact hc'
    | false =>
     rw [hx] at e
     exact h2 x d e
   obtain⟨cl,e,a,b,d⟩:=zf4 r ((n,c)::acc) h1' h2'
   have kp:∀x c',acc.lookup x=some c'→∃c'',((n,c)::acc).lookup x=some c'':=fun x c' q=>by
    rw [y1l]
    cases hx:x==n with
    | true=>exact⟨c,rfl⟩
    | false=>exact⟨c',q⟩
   refine⟨cl,?_,a,fun x c' q=>let ⟨c'',q'⟩:=kp x c' q; b x c'' q',fun y hy hf=>?_⟩
   ·rw [y5i]
    have ec:cellOf env n=pure c:=by unfold cellOf; rw [hc']
    simp only [beq_self_eq_true,if_true,ec,pure_bind]
    exact e
   ·rcases y0m.mp hy with rfl | hy
    ·exact b n c (by rw [y1l]; simp)
    ·exact d y hy hf
  ·have hb:(k==NameKind.free)=false:=by simpa using hk
   obtain⟨cl,e,a,b,d⟩:=zf4 r acc h1' h2
   refine⟨cl,?_,a,b,fun y hy hf=>?_⟩
   ·rw [y5i]
    simp only [hb,y4j,if_false,pure_bind]
    exact e
   ·rcases y0m.mp hy with rfl | hy
    ·exact absurd hf hk
    ·exact d y hy hf
theorem zds {scope:Scope}{env:Env}(h:∀y∈scope.names,y.2 = .free→∃c,env.cells.lookup y.1=some c) :
  ∃cl,closureFor scope env=pure cl∧(∀x c,cl.lookup x=some c→env.cells.lookup x=some c)∧∀y∈scope.names,y.2 = .free→∃c,cl.lookup y.1=some c:=by
 obtain⟨cl,e,a,_,d⟩:=zf4 scope.names [] h (fun x c e=>by simp at e)
 refine⟨cl,?_,a,d⟩
 unfold closureFor
 exact(congrArg (· >>= pure) e).trans (pure_bind _ _)
section
variable {prog:Program}{w:World}{A:Around}{R:Result→Shared→Prop}{s:Shared}
abbrev NoE:Value→Shared→Prop:=fun _ _=>False
theorem zfp {elt target iter:Expr}{ifs:List Expr}{scope:Scope}{pos:Pos}{it acc:Value}{env:Env}(J:Nat→Shared→Prop)
  (turn:∀n s,J n s→wpAny (model prog w) A (pyNext it) (fun r s₁=>match r with
   | none=>R (.ok .next) s₁
   | some v=>wpAny (model prog w) A (letOwnedTupleGo target it v) (fun _ s₂=>wpAny (model prog w) A (assign target env v) (fun _ s₃ =>
     wpAny (model prog w) A (forIn ifs true fun c r=>if r=true then do let ok ←isTrue c env (eval c env); pure (ForInStep.yield ok) else pure (ForInStep.yield r)) (fun ok s₄ =>
      if ok=true then wpAny (model prog w) A (eval elt env) (fun x s₅=>wpAny (model prog w) A (call (.builtin "list.append") [acc,x]) (fun _ s₆=>∃m,m<n∧J m s₆) NoE s₅) NoE s₄
      else ∃m,m<n∧J m s₄) NoE s₃) NoE s₂) NoE s₁) NoE s)
  (n:Nat) (h:J n s):codeAny (model prog w) A (.compLoop (.ListComp elt [⟨target,iter,ifs,0⟩] scope pos) 0 it acc env) R s:=by
 refine codeAny_loop rfl J (fun n s hJ=>?_) n h
 refine wpAny_noted (m:=compTurn (.ListComp elt [⟨target,iter,ifs,0⟩] scope pos) 0 it acc env) ?_
 rw [compTurn_list]
 refine wpAny_bind (wpAny_standAt (wpAny_bind (wpAny_mono (turn n s hJ) (fun r s₁ h₁=>?_) fun _ _ z=>z.elim)))
 cases r with
 | none=>exact wpAny_pure h₁
 | some v =>
  refine wpAny_bind (wpAny_mono h₁ (fun _ s₂ h₂=>?_) fun _ _ z=>z.elim)
  refine wpAny_bind (wpAny_mono h₂ (fun _ s₃ h₃=>?_) fun _ _ z=>z.elim)
  refine wpAny_bind (wpAny_mono h₃ (fun ok s₄ h₄=>?_) fun _ _ z=>z.elim)
  cases ok with
  | false=>exact wpAny_pure ⟨rfl,h₄⟩
  | true =>
   refine wpAny_bind (wpAny_bind (wpAny_mono h₄ (fun x s₅ h₅=>?_) fun _ _ z=>z.elim))
   exact wpAny_bind (wpAny_mono h₅ (fun _ s₆ h₆=>wpAny_pure (wpAny_pure ⟨rfl,h₆⟩)) fun _ _ z=>z.elim)
end
theorem z6f {env:Env}{x:Str}{k':NameKind}:∀{names:List (Str×NameKind)},(names.map fun (n,k)=>if (k==NameKind.free&&env.scope.kind == .function&&env.kindOf n==some .cell) then (n,NameKind.cell) else (n,k)).lookup x=some k' →
  ∃k,names.lookup x=some k∧(k'=k∨(k = .free∧k' = .cell))
 | [],h=>nomatch h
 | (n,k)::r,h=>by
  have ih:=@z6f env x k' r
  rw [y0h] at h
  cases hx:x==n with
  | true =>
   refine⟨k,by simp [y1l,hx],?_⟩
   by_cases hc:(k==NameKind.free&&env.scope.kind == .function&&env.kindOf n==some .cell)=true
   ·have h':some NameKind.cell=some k':=by simpa [hc,y1l,hx] using h
    rw [y1d,y1d] at hc
    exact .inr ⟨beq_iff_eq.mp hc.1.1,(y12 h').symm⟩
   ·have h':some k=some k':=by simpa [hc,y1l,hx] using h
    exact .inl (y12 h').symm
  | false =>
   have h':(r.map fun (n,k)=>if (k==NameKind.free&&env.scope.kind == .function&&env.kindOf n==some .cell) then (n,NameKind.cell) else (n,k)).lookup x=some k':=by
    by_cases hc:(k==NameKind.free&&env.scope.kind == .function&&env.kindOf n==some .cell)=true
    ·simpa [hc,y1l,hx] using h
    ·simpa [hc,y1l,hx] using h
   obtain⟨k1,e1,e2⟩:=ih h'
   exact⟨k1,by simp [y1l,hx,e1],e2⟩
theorem z9v {env:Env}{x:Str}{names:List (Str×NameKind)}(h:names.lookup x=some .free) :
  (names.map fun (n,k)=>if (k==NameKind.free&&env.scope.kind == .function&&env.kindOf n==some .cell) then (n,NameKind.cell) else (n,k)).lookup x=some .cell ∨
  (names.map fun (n,k)=>if (k==NameKind.free&&env.scope.kind == .function&&env.kindOf n==some .cell) then (n,NameKind.cell) else (n,k)).lookup x=some .free:=by
 induction names with
 | nil=>exact nomatch h
 | cons p r ih =>
  obtain⟨n,k⟩:=p
  rw [y0h]
  cases hx:x==n with
  | true =>
   have hk:k = .free:=by simpa [y1l,hx] using h
   subst hk
   have go:∀c:Bool,(((if c=true then (n,NameKind.cell) else (n,NameKind.free))::(r.map fun (n,k)=>if (k==NameKind.free&&env.scope.kind == .function&&env.kindOf n==some .cell) then (n,NameKind.cell) else (n,k))).lookup x=some .cell) ∨
     (((if c=true then (n,NameKind.cell) else (n,NameKind.free))::(r.map fun (n,k)=>if (k==NameKind.free&&env.scope.kind == .function&&env.kindOf n==some .cell) then (n,NameKind.cell) else (n,k))).lookup x=some .free):=fun c=>by
    cases c
    ·right; simp [y1l,hx]
    ·left; simp [y1l,hx]
   exact go _
  | false =>
   have ih':=ih (by simpa [y1l,hx] using h)
   by_cases hc:(k==NameKind.free&&env.scope.kind == .function&&env.kindOf n==some .cell)=true
   ·simpa [hc,y1l,hx] using ih'
   ·simpa [hc,y1l,hx] using ih'
structure CC where
 cl:List (Str×Addr)
 C:Addr
 s:Shared
 H:Hp
 ex:List Addr
def z0u (X:Cx)(scope:Scope)(N:List Str)(c:CC):Cx where
 prog:=X.prog
 w:=X.w
 K:=X.K
 mg:=X.mg
 base:=X.base
 A:=X.A
 N:=N
 s₀:=c.s
 H₀:=c.H
 env:=compEnvC scope c.cl c.C X.env
 outer:=X.stack
 stack:=X.stack
 ex:=c.ex
 fn:=fun _=>false
 calm:=X.calm
 pn:=[]
 xe:=fun _ _=>False
def z50 (J:It)(g:TG)(tt:TT)(te:TE)(σ0:St)(Q:VK)(H:Hp):Prop:=∃W:Nat→Nat→List V→Hp→Prop,(∃m,W 0 m [] H)∧∀i m ys H,W i m ys H →
 (J.stop i H∧ys.length≤sizeLine∧∀l,H l=none→Q (.ref l) (upd H l (.lst ys))) ∨
 (J.go i H∧ys.length<sizeLine∧∀x H',J.yld i H x H'→g x σ0 H' fun σ2 H2=>tt σ2 H2 fun b H3=>if b=true then te σ2 H3 fun y H4=>∃m',m'<m∧W (i+1) m' (ys ++ [y]) H4 else ∃m',m'<m∧W (i+1) m' ys H3)
def za2 (wi:TI)(n:Nat)(fr:List Nat)(g:TG)(tt:TT)(te:TE)(σ:St)(H:Hp)(Q:VK):Prop:=wi σ H fun J H1=>z50 J g tt te (y05 n none++fr.map (sg σ)) Q H1
def FreeIn (env:Env):List Str→Prop
 | []=>True
 | x::r=>(env.kindOf x=some .cell∨env.kindOf x=some .free)∧FreeIn env r
theorem FreeIn.mem {env:Env}{x:Str}:∀{l:List Str},FreeIn env l→x∈l→env.kindOf x=some .cell∨env.kindOf x=some .free
 | _::_,h,hx=>by
  rcases y0m.mp hx with rfl | hx
  ·exact h.1
  ·exact FreeIn.mem h.2 hx
theorem zng {X:Cx}{pins:List (Addr×Obj)}{σ:St}{H:Hp}{s:Shared}{l:Addr}{o:HO}(I:Inv X pins σ H s)(hn:H l=none)(h1:X.s₀.heap.objs.size≤l)(hL:l≠X.env.locals)(h2:∀x c,X.env.cells.lookup x=some c→c≠l)(h3:∀p∈X.pn++pins,p.1≠l)
  (new:ObjOk X.prog X.w (upd H l o) s.heap l o):Inv X pins σ (upd H l o) s:=by
 have old:∀b u,H b=some u→upd H l o b=some u:=fun b u e=>by rw [z09 (z06 e hn)]; exact e
 refine⟨I.ok,I.os,I.bare,⟨I.base.keep,I.base.slot,fun b o' e n hx=>?_,I.base.there,fun b xs e=>old b _ (I.base.tups b xs e),fun b o' u e=>old b _ (I.base.frzs b o' u e),fun b ps e=>?_⟩,I.loc,I.cell,?_,fun x c e=>?_,fun p hp=>?_,fun b u e=>?_,I.len⟩
 ·rw [z09 (y10 (y0p (Heap.lt_size e) h1))]
  exact I.base.free b o' e n hx
 ·obtain⟨more,q⟩:=I.base.tbls b ps e
  exact⟨more,old b _ q⟩
 ·rw [z09 (Ne.symm hL)]; exact I.free
 ·rw [z09 (h2 x c e)]; exact I.freeC x c e
 ·obtain⟨e,n,r⟩:=I.pin p hp
  exact⟨e,by rw [z09 (h3 p hp)]; exact n,r⟩
 ·by_cases hb:b=l
  ·subst hb; rw [z01] at e; cases e; exact new
  ·rw [z09 hb] at e
   exact(I.hok b u e).stay (fun _ _ _ q=>q) (fun c q=>old c _ q) fun c xs q=>old c _ q
def GOk (n:Nat)(g:TG):Prop:=∀x σ H Q,g x σ H Q→g x σ H fun σ2 H2=>(∀i,n≤i→σ2[i]? = σ[i]?)∧Q σ2 H2
theorem z9e {n i:Nat}(h:i<n):GOk n (z3x i):=fun x σ H Q q=>⟨fun j hj=>y11 (by omega),q⟩
theorem zgx {n i j:Nat}{K:y03}(h1:i<n)(h2:j<n):GOk n (xT2 K i j):=fun x σ H Q q=>by
 unfold xT2 at q ⊢
 split at q
 ·obtain⟨u,v,q1,q2⟩:=q
  exact⟨u,v,q1,fun k hk=>by rw [y11 (by omega),y11 (by omega)],q2⟩
 ·exact q.elim
section
variable {X:Cx}
theorem zhs {scope:Scope}{N:List Str}{fr:List Nat}{n:Nat}{cl:List (Str×Addr)}{pins:List (Addr×Obj)}{σ:St}{H:Hp}{s:Shared}{C:Addr}{h₁:Heap}{m:Str→Option Value}{fp:List Addr}{tk:Nat}
  (I:Inv X pins σ H s) (hf:∀b∈fp,zfz X pins H b) (hfl:∀b∈fp,b<s.heap.objs.size) (hC:s.heap.objs.size≤C) (old:∀b o,s.heap.get? b=some o→h₁.get? b=some o) (hns:h₁.Ns C m)
  (hn:N.length=n+fr.length) (hfr:fr.map (fun i=>X.N[i]?)=(N.drop n).map some) (hsc:∀x∈N.drop n,scope.names.lookup x=some .free)
  (hkind:scope.kind = .function) (hcell:∀y∈scope.names,y.2 ≠ .cell) (hF:FreeIn X.env ((scope.names.filter fun y=>y.2 == .free).map (·.1)))
  (cl1:∀x c,cl.lookup x=some c→X.env.cells.lookup x=some c) (cl2:∀y∈scope.names,y.2 = .free→∃c,cl.lookup y.1=some c) :
  Inv (z0u X scope N ⟨cl,C,s,H,fp⟩) (X.pn++pins) (y05 n none++fr.map (sg σ)) H { s with heap:=h₁,toks:=tk }:=by
 have freeAt:∀x,scope.names.lookup x=some .free→X.env.kindOf x=some .cell∨X.env.kindOf x=some .free:=fun x e =>
  hF.mem (y1h.mpr ⟨(x,.free),y17.mpr ⟨y1z e,rfl⟩,rfl⟩)
 have kinds:∀x,((relabel scope X.env).names.lookup x=some .cell∨(relabel scope X.env).names.lookup x=some .free)→scope.names.lookup x=some .free:=fun x hx=>by
  rcases hx with hx | hx
  ·obtain⟨k,e,z⟩:=z6f (env:=X.env) hx
   rcases z with z | ⟨z,_⟩
   ·subst z; exact absurd rfl (hcell _ (y1z e))
   ·subst z; exact e
  ·obtain⟨k,e,z⟩:=z6f (env:=X.env) hx
   rcases z with z | ⟨z,z'⟩
   ·subst z; exact e
   ·cases z'
 have fsX:∀b,b≠X.env.locals→b ∉ X.fs→b ∉ frs X.stack:=fun b h1 h2 z=>(y0m.mp (I.stkSub b z)).elim h1 h2
 refine⟨⟨I.ok.mod,hkind,I.ok.glob,I.ok.blt,hC,fun x y c h1 h2=>I.ok.inj x y c (cl1 x c h1) (cl1 y c h2),fun x hx=>?_,fun x c hx=>absurd hx (by simp [z0u]),I.ok.hd,I.ok.frames,.inl rfl,fun b hb=>⟨?_,fun x c e=>(hf b hb).2.2.2.2.1 x c (cl1 x c e)⟩,I.bs,y1a I.ok.bsz I.sz,fun b o e hb=>?_,fun b hb=>fsX b (hf b hb).2.1 (hf b hb).2.2.1,I.stack,I.stkFree⟩,
  rfl,I.bare,Un.kept old,⟨m,hns,fun i x v e1 e2 e3=>?_⟩,fun x c e=>?_,I.hok.fresh hC,fun x c e=>I.freeC x c (cl1 x c e),fun p hp=>?_,I.hok.kept old,?_⟩
 ·obtain⟨c,e⟩:=cl2 (x,.free) (y1z (kinds x hx)) rfl
  exact⟨c,e⟩
 ·exact y10 (y0p (hfl b hb) hC)
 ·rcases (hf b hb).2.2.2.1 with z | z
  ·exact I.ok.noex b o e z
  ·exact absurd (y0p (Heap.lt_size e) (y1a I.ok.bsz z)) (y2q _)
 ·-- a slot of the block's frame that is known: one of the free names
  have hi:n≤i:=by
   rcases y3l i n with z | z
   ·rw [y0q (by simpa using z),y1f,if_pos z] at e2
    cases e2
   ·exact z
  rw [y0w (by simpa using hi),y0x,y06] at e2
  obtain⟨j,ej,e2'⟩:=y5c.mp e2
  have ex:X.N[j]?=some x:=by
   have q:=congrArg (fun l=>l[i - n]?) hfr
   simp only [y06,ej,y6u,y4k] at q
   have e1':N[n+(i - n)]?=some x:=by rw [show n+(i - n)=i by omega]; exact e1
   rw [e1'] at q
   simpa using q
  have hx:scope.names.lookup x=some .free:=hsc x (by
   have e1':N[n+(i - n)]?=some x:=by rw [show n+(i - n)=i by omega]; exact e1
   rw [←y4k] at e1'
   exact y02 e1')
  obtain⟨m',_,hl⟩:=I.loc
  have hv:Vis X.env.scope x:=by
   rcases freeAt x hx with z | z
   ·exact .inr (.inl z)
   ·exact .inr (.inr z)
  obtain⟨u,r,lk⟩:=hl j x v ex (zke e2') hv
  refine⟨u,r,.inr ⟨?_,?_⟩⟩
  ·rcases z9v (env:=X.env) hx with z | z
   ·exact .inl z
   ·exact .inr z
  ·obtain⟨c,ec⟩:=cl2 (x,.free) (y1z hx) rfl
   rcases lk with ⟨z,_⟩ | ⟨_,c',ec',o,ho,hd⟩
   ·rcases freeAt x hx with y | y
    ·rw [y] at z; cases z
    ·rw [y] at z; cases z
   ·have q:=cl1 x c ec
    rw [ec'] at q; cases q
    exact⟨c,ec,o,old _ _ ho,hd⟩
 ·obtain⟨v,o,ho,hd⟩:=I.cell x c (cl1 x c e)
  exact⟨v,o,old _ _ ho,hd⟩
 ·have hp':p∈X.pn++pins:=by simpa [z0u] using hp
  obtain⟨e,z,ne,nf,d⟩:=I.pin p hp'
  exact⟨old _ _ e,z,y10 (y0p (Heap.lt_size e) hC),fsX _ ne nf,d⟩
 ·show _=N.length
  rw [y0f,y0x,y04,hn]
end
end L2.EX
set_option Elab.async false
set_option linter.all false
set_option maxRecDepth 100000
namespace L2.EX
open PySem PySem.Spec PyProof.Rows
section
variable {X:Cx}
theorem z9r {elt tg iter:Expr}{ifs:List Expr}{scope:Scope}{pos pos1:Pos}{N:List Str}{fr:List Nat}{wi:TI}{g:TG}{tt:TT}{te:TE}{use:Option (Value→Sem Unit)}{QQ:Value→Shared→Prop}{pins:List (Addr×Obj)}{σ:St}{H:Hp}{s:Shared}{Q:VK}(n:Nat)
  (I:Inv X pins σ H s) (h:za2 wi n fr g tt te σ H Q)
  (hend:∀(s6:Shared) (H6:Hp) (l C:Addr) (oC:Obj) (mC:Str→Option Value),Inv X pins σ H6 s6→Q (.ref l) H6→s6.heap.get? C=some oC→LCg.NsObj oC mC→zfz X pins H6 C→compPost (model X.prog X.w) X.A X.xe use QQ (.ref l) C (.ok .next) s6)
  (hi:PI X tg iter wi) (hg:∀c:CC,PG (z0u X scope N c) tg g) (hgk:GOk n g)
  (ht:∀(c:CC) (pins:List (Addr×Obj)) (s:Shared) (σ:St) (H:Hp) (Q:Bool→Hp→Prop),Inv (z0u X scope N c) pins σ H s→tt σ H Q →
   wpAny (model X.prog X.w) X.A (forIn ifs true fun c' r=>if r=true then do let ok ←isTrue c' (compEnvC scope c.cl c.C X.env) (eval c' (compEnvC scope c.cl c.C X.env)); pure (ForInStep.yield ok) else pure (ForInStep.yield r)) (TP (z0u X scope N c) pins σ Q) NoE s)
  (he:∀c:CC,PE (z0u X scope N c) elt te) (hn:N.length=n+fr.length)
  (hfr:fr.map (fun i=>X.N[i]?)=(N.drop n).map some) (hsc:∀x∈N.drop n,scope.names.lookup x=some .free)
  (hF:FreeIn X.env ((scope.names.filter fun y=>y.2 == .free).map (·.1)))
  (hkind:scope.kind = .function) (hcell:∀y∈scope.names,y.2 ≠ .cell) (hnames:∀y∈scope.names,y.2 = .local→scope.names.lookup y.1=some .local) (hcalm:X.calm=true)
  (hs:∀x,foldedSetIterable iter X.env x=pure x):wpAny (model X.prog X.w) X.A (comprehension (.ListComp elt [⟨tg,iter,ifs,0⟩] scope pos) scope X.env pos1 (newList []) false (eval iter X.env) use) QQ X.xe s:=by
 have hcl0:∀y∈scope.names,y.2 = .free→∃c,X.env.cells.lookup y.1=some c:=fun y hy hf=>I.ok.has y.1 (hF.mem (y1h.mpr ⟨y,y17.mpr ⟨hy,by rw [hf]; rfl⟩,rfl⟩))
 obtain⟨cl,ecl,cl1,cl2⟩:=zds hcl0
 refine wpAny_comprehension_free (use:=use) rfl hs ecl hkind hnames (thn (hi pins s σ H _ I h) fun v s1 h1=>thn h1 fun itv s2 h2=>?_)
 obtain⟨it,fp,tn,J,H2,rfl,I2,T,st2,f2,W,⟨m0,w0⟩,turn⟩:=h2
 have hfl:∀b∈fp,b<s2.heap.objs.size:=fun b hb=>let ⟨o,e,_⟩:=T.obj _ _ st2 b hb; Heap.lt_size e
 refine wpAny_newObj_type (wpAny_newFunctionEnv hcell (by intro y hy; simp at hy) (fun h₁ hns₁ hsb₁=>?_) hkind)
 dsimp only at hns₁ hsb₁ ⊢
 generalize hH2:s2.heap.push { cls:=.type "list",dict:=none,data:=.seq ([]:List Value).toArray }=HA at hns₁ hsb₁ ⊢
 have hC:HA.objs.size=s2.heap.objs.size+1:=by rw [←hH2,Heap.size_push]
 have hlC:s2.heap.objs.size≠HA.objs.size:=by rw [hC]; exact y10 (y35 _)
 have hCle:s2.heap.objs.size≤HA.objs.size:=by rw [hC]; exact y53 _
 have old:∀b o,s2.heap.get? b=some o→h₁.get? b=some o:=fun b o e =>
  hsb₁.extBut b o (by rw [hC]; exact y10 (y4v (Heap.lt_size e))) (Heap.get?_push_of_some _ (hH2▸Heap.get?_push_of_some _ e))
 have hacc:h₁.PlainList s2.heap.objs.size #[]:=⟨_,hsb₁.extBut _ _ hlC (Heap.get?_push_of_some _ (hH2▸Heap.get?_push_size _ rfl))⟩
 generalize hl:s2.heap.objs.size=l at hacc hlC
 generalize hCe:HA.objs.size=C at hns₁ hsb₁ hlC hCle
 have hCl:s2.heap.objs.size≤C:=hCle
 have hll:s2.heap.objs.size≤l:=y6k hl
 let cc:CC:=⟨cl,C,s2,H2,fp⟩
 let σ0:St:=y05 n none++fr.map (sg σ)
 have I3:Inv (z0u X scope N cc) (X.pn++pins) σ0 H2 { s2 with heap:=h₁,toks:=s2.toks+([]:List (Str×Value)).length }:=zhs I2 f2 hfl hCl old hns₁ hn hfr hsc hkind hcell hF cl1 cl2
 have lfp:l ∉ fp:=fun z=>absurd (hfl l z) (y73.mpr hll)
 have lpin:∀p∈X.pn++pins,p.1≠l:=fun p hp=>by
  rw [←hl]; exact y10 (Heap.lt_size (I2.pin p hp).1)
 have lcell:∀x c,cl.lookup x=some c→c≠l:=fun x c e=>by
  obtain⟨v,q⟩:=I2.cell x c (cl1 x c e)
  rw [←hl]; exact y10 q.lt
 have lfs:l ∉ frs X.stack:=fun z=>by
  rcases y0m.mp (I2.stkSub l z) with z | z
  ·rw [z] at hll; exact absurd I2.lt (y73.mpr hll)
  ·exact I2.nofs hll z
 have fsX:∀b∈fp,b ∉ frs X.stack:=fun b hb z=>(y0m.mp (I2.stkSub b z)).elim (f2 b hb).2.1 (f2 b hb).2.2.1
 have stat:∀{H':Hp} {more:List (Addr×Obj)},(∀b∈fp,H' b=none)→(∀p∈more,p.1=l)→∀b∈fp,zfz (z0u X scope N cc) (X.pn++pins++more) H' b:=fun {H' more} hz hm b hb =>
  ⟨hz b hb,y10 (y0p (hfl b hb) hCl),fsX b hb,.inl hb,fun x c e=>(f2 b hb).2.2.2.2.1 x c (cl1 x c e),fun p hp=>by
   have hp':p∈X.pn++pins∨p∈more:=by simpa [z0u,y2z,or_assoc] using hp
   rcases hp' with z | z
   ·exact(f2 b hb).2.2.2.2.2 p z
   ·rw [hm p z]; exact fun q=>lfp (q▸hb)⟩
 have pinL:∀{H':Hp} {s':Shared} {σ':St} {o:Obj},Inv (z0u X scope N cc) (X.pn++pins) σ' H' s'→s'.heap.get? l=some o→(∀v,o.data ≠ .cell v)→H' l=none→Inv (z0u X scope N cc) (X.pn++pins ++ [(l,o)]) σ' H' s':=fun {H' s' σ' o} I' e d hz =>
  I'.pins_of fun p hp=>(y13.mp hp).elim (fun z=>I'.pin p (y14 _ z)) fun z=>by
   have q:p=(l,o):=y0e.mp z
   subst q
   exact⟨e,hz,hlC,lfs,d⟩
 have loop:∀s₃:Shared,s₃ = { s2 with heap:=h₁,toks:=s2.toks+([]:List (Str×Value)).length } →
   codeAny (model X.prog X.w) X.A (.compLoop (.ListComp elt [⟨tg,iter,ifs,0⟩] scope pos) 0 (.ref it) (.ref l) (compEnvC scope cl C X.env)) (compPost (model X.prog X.w) X.A X.xe use QQ (.ref l) C) s₃:=by
  rintro s₃ rfl
  refine zfp (fun m s'=>∃i ys H',Inv (z0u X scope N cc) (X.pn++pins) σ0 H' s'∧tn i s'.heap∧(∀b∈fp,H' b=none)∧W i m ys H'∧(∃its:List Value,Vals ys its∧s'.heap.PlainList l its.toArray)∧H' l=none) ?_ m0
   ⟨0,[],H2,I3,T.keep _ _ _ st2 fun b hb o e=>old b o e,fun b hb=>(f2 b hb).1,w0,⟨[],.nil,hacc⟩,by rw [←hl]; exact I2.hok.fresh (y0a _)⟩
  rintro m s5 ⟨i,ys,H5,I5,st5,fr5,w5,⟨its,rv,n5,hpl⟩,hl5⟩
  have I5':=pinL I5 hpl (fun v z=>by cases z) hl5
  have f5:=stat (more:=[(l,({ cls:=.type "list",data:=.seq its.toArray n5 }:Obj))]) fr5 (fun p hp=>congrArg Prod.fst (y0e.mp hp))
  rcases turn i m ys H5 w5 with ⟨stop,hz,q⟩ | ⟨go,hz,step⟩
  ·refine thn (T.done (z0u X scope N cc) rfl rfl rfl hcalm i _ s5 σ0 H5 NoE I5' f5 st5 stop) fun r s6 hq=>?_
   obtain⟨rfl,I6⟩:=hq
   have e6:s6.heap.get? l=some ({ cls:=.type "list",data:=.seq its.toArray n5 }:Obj):=(I6.pin (l,({ cls:=.type "list",data:=.seq its.toArray n5 }:Obj)) (y14 _ (y14 _ (y0e.mpr rfl)))).1
   obtain⟨mC,hnC,_⟩:=I6.loc
   have IA:Inv X pins σ H5 s6:=I2.call' (ch:=fp) I6.os I6.base I6.hok I6.bare fun b hb=>⟨(f2 b hb).2.2.2.1,(f2 b hb).2.1,(f2 b hb).2.2.2.2.1,(f2 b hb).2.2.2.2.2⟩
   have cl':∀x c,X.env.cells.lookup x=some c→c≠l:=fun x c e=>by
    obtain⟨v,z⟩:=I2.cell x c e
    rw [←hl]; exact y10 z.lt
   have IB:Inv X pins σ (upd H5 l (.lst ys)) s6:=zng IA hl5 (by rw [←hl]; exact I2.sz) (by rw [←hl]; exact y3a I2.lt) cl' lpin ⟨hz,its,n5,rv,e6⟩
   obtain⟨oC,eC,nC⟩:=LCg.ns_obj hnC
   refine hend s6 _ l C oC mC IB (q l hl5) eC nC (I2.fpOk hCl ?_)
   rw [z09 (Ne.symm hlC)]
   exact I6.free
  ·refine thn (T.item (z0u X scope N cc) rfl rfl rfl hcalm i _ s5 σ0 H5 NoE I5' f5 st5 go) fun r s6 hq=>?_
   obtain⟨u,rfl,hq⟩:=hq
   refine thn hq fun _ s7 hq7=>?_
   obtain⟨x,H7,I7,r7,y7,st7,fr7⟩:=hq7
   have I7':=I7.pinned (stat (more:=[(l,({ cls:=.type "list",data:=.seq its.toArray n5 }:Obj))]) fr7 (fun p hp=>congrArg Prod.fst (y0e.mp hp))) (T.obj _ _ st7)
   refine thn (hg cc _ s7 σ0 H7 x u _ I7' r7 (hgk x σ0 H7 _ (step x H7 y7))) fun _ s8 hq8=>?_
   obtain⟨σ8,H8,I8,k8,q8⟩:=hq8
   have back:∀{H':Hp} {s':Shared},Inv (z0u X scope N cc) (X.pn++pins ++ [(l,({ cls:=.type "list",data:=.seq its.toArray n5 }:Obj))]++zas fp s7.heap) σ8 H' s'→Inv (z0u X scope N cc) (X.pn++pins) σ0 H' s'∧tn (i+1) s'.heap∧(∀b∈fp,H' b=none)∧s'.heap.get? l=some ({ cls:=.type "list",data:=.seq its.toArray n5 }:Obj)∧H' l=none:=fun {H' s'} I'=>by
    have pf:∀b∈fp,∀o,s7.heap.get? b=some o→s'.heap.get? b=some o∧H' b=none:=fun b hb o e =>
     let z:=I'.pin (b,o) (y14 _ (y14 _ (z67 hb e)))
     ⟨z.1,z.2.1⟩
    have pl:=I'.pin (l,({ cls:=.type "list",data:=.seq its.toArray n5 }:Obj)) (y14 _ (y49 _ (y14 _ (y0e.mpr rfl))))
    refine⟨(I'.unpinned.unpinned).weak ?_ ?_,T.keep _ _ _ st7 fun b hb o e=>(pf b hb o e).1,fun b hb=>?_,pl.1,pl.2.1⟩
    ·rw [I3.len,I'.len]
    ·intro j v ej
     have hj:n≤j:=by
      rcases y3l j n with z | z
      ·have ej':(y05 n none++fr.map (sg σ))[j]?=some (some v):=ej
       rw [y0q (by simpa using z),y1f,if_pos z] at ej'
       cases ej'
      ·exact z
     rw [k8 j hj]; exact ej
    ·obtain⟨o,e,_⟩:=T.obj _ _ st7 b hb
     exact(pf b hb o e).2
   refine thn (ht cc _ s8 σ8 H8 _ I8 q8) fun ok s9 hq9=>?_
   obtain⟨H9,I9,q9⟩:=hq9
   cases ok with
   | false =>
    obtain⟨m',hm,w9⟩:=q9
    obtain⟨b1,b2,b3,b4,b5⟩:=back I9
    exact⟨m',hm,i+1,ys,H9,b1,b2,b3,w9,⟨its,rv,n5,b4⟩,b5⟩
   | true =>
    refine thn (he cc _ s9 σ8 H9 _ I9 q9) fun y sA hqA=>?_
    obtain⟨yv,HA',IA,rA,m',hm,wA⟩:=hqA
    obtain⟨b1,b2,b3,b4,b5⟩:=back IA
    refine wpAny_list_append_plain (items:=its.toArray) ⟨n5,b4⟩ (fun h' hp' hsb=>?_) (by have:=rv.length; rw [y0l]; omega)
    refine⟨m',hm,i+1,ys ++ [yv],HA',b1.turned (t':=sA.toks) (it:=l) (fun b o hb e=>hsb.extBut b o hb e) b5 hlC (.inr hll) lcell (fun p hp=>lpin p (by simpa [z0u] using hp)),?_,b3,wA,⟨its ++ [y],rv.append (.cons rA .nil),by simpa using hp'⟩,b5⟩
    exact T.keep _ _ _ b2 fun b hb o e=>hsb.extBut b o (fun z=>lfp (z▸hb)) e
 exact codeAny_compStart_list (loop _ rfl) (T.self _ 0 _ _ _ (T.keep _ _ _ st2 fun b hb o e=>old b o e) (loop _ rfl))
theorem zcy {elt tg iter:Expr}{ifs:List Expr}{scope:Scope}{pos:Pos}{N:List Str}{fr:List Nat}{wi:TI}{g:TG}{tt:TT}{te:TE}(n:Nat)
  (hi:PI X tg iter wi) (hg:∀c:CC,PG (z0u X scope N c) tg g) (hgk:GOk n g)
  (ht:∀(c:CC) (pins:List (Addr×Obj)) (s:Shared) (σ:St) (H:Hp) (Q:Bool→Hp→Prop),Inv (z0u X scope N c) pins σ H s→tt σ H Q →
   wpAny (model X.prog X.w) X.A (forIn ifs true fun c' r=>if r=true then do let ok ←isTrue c' (compEnvC scope c.cl c.C X.env) (eval c' (compEnvC scope c.cl c.C X.env)); pure (ForInStep.yield ok) else pure (ForInStep.yield r)) (TP (z0u X scope N c) pins σ Q) NoE s)
  (he:∀c:CC,PE (z0u X scope N c) elt te) (hn:N.length=n+fr.length)
  (hfr:fr.map (fun i=>X.N[i]?)=(N.drop n).map some) (hsc:∀x∈N.drop n,scope.names.lookup x=some .free)
  (hF:FreeIn X.env ((scope.names.filter fun y=>y.2 == .free).map (·.1)))
  (hkind:scope.kind = .function) (hcell:∀y∈scope.names,y.2 ≠ .cell) (hnames:∀y∈scope.names,y.2 = .local→scope.names.lookup y.1=some .local) (hcalm:X.calm=true)
  (hs:∀x,foldedSetIterable iter X.env x=pure x):PE X (.ListComp elt [⟨tg,iter,ifs,0⟩] scope pos) (za2 wi n fr g tt te):=by
 intro pins s σ H Q I h
 rw [eval_ListComp]
 refine z9r (use:=none) n I h (fun s6 H6 l C oC mC I6 q eC nC fC=>?_) hi hg hgk ht he hn hfr hsc hF hkind hcell hnames hcalm hs
 refine⟨mC,nC.ns eC,fun h' hsb=>⟨.ref l,H6,?_,rfl,q⟩⟩
 exact I6.turned (t':=s6.toks) (it:=C) (fun b o hb e=>hsb.extBut b o hb e) fC.1 fC.2.1 fC.2.2.2.1 fC.2.2.2.2.1 fC.2.2.2.2.2
theorem zix {elt tg iter:Expr}{ifs:List Expr}{scope:Scope}{pos spos py:Pos}{y:Str}{i:Nat}{N:List Str}{fr:List Nat}{wi:TI}{g:TG}{tt:TT}{te:TE}(n:Nat)
  (hN:X.N.Nodup) (hy:X.N[i]?=some y) (hly:X.env.scope.names.lookup y=some .local) (hsw:swapsWith (.ListComp elt [⟨tg,iter,ifs,0⟩] scope pos) (some (.Name y py)) spos.line X.env=pure true)
  (hi:PI X tg iter wi) (hg:∀c:CC,PG (z0u X scope N c) tg g) (hgk:GOk n g)
  (ht:∀(c:CC) (pins:List (Addr×Obj)) (s:Shared) (σ:St) (H:Hp) (Q:Bool→Hp→Prop),Inv (z0u X scope N c) pins σ H s→tt σ H Q →
   wpAny (model X.prog X.w) X.A (forIn ifs true fun c' r=>if r=true then do let ok ←isTrue c' (compEnvC scope c.cl c.C X.env) (eval c' (compEnvC scope c.cl c.C X.env)); pure (ForInStep.yield ok) else pure (ForInStep.yield r)) (TP (z0u X scope N c) pins σ Q) NoE s)
  (he:∀c:CC,PE (z0u X scope N c) elt te) (hn:N.length=n+fr.length)
  (hfr:fr.map (fun i=>X.N[i]?)=(N.drop n).map some) (hsc:∀x∈N.drop n,scope.names.lookup x=some .free)
  (hF:FreeIn X.env ((scope.names.filter fun y=>y.2 == .free).map (·.1)))
  (hkind:scope.kind = .function) (hcell:∀y∈scope.names,y.2 ≠ .cell) (hnames:∀y∈scope.names,y.2 = .local→scope.names.lookup y.1=some .local) (hcalm:X.calm=true)
  (hs:∀x,foldedSetIterable iter X.env x=pure x):PS X (.Assign [.Name y py] (.ListComp elt [⟨tg,iter,ifs,0⟩] scope pos) spos) (zlb (za2 wi n fr g tt te) (z3x i)):=by
 intro pins s σ H D I h
 rw [exec_Assign_Name_used _ _ _ _ hsw]
 refine wpAny_bind (wpAny_standAt (wpAny_bind ?_))
 show wpAny _ X.A (do let _ ←comprehension (.ListComp elt [⟨tg,iter,ifs,0⟩] scope pos) scope X.env _ (newList []) false (eval iter X.env) (some (assign (.Name y py) X.env))) _ _ s
 refine wpAny_bind (thn (z9r (QQ:=fun _ s'=>SP X pins D .next s') (use:=some (assign (.Name y py) X.env)) n I h (fun s6 H6 l C oC mC I6 q eC nC fC=>?_) hi hg hgk ht he hn hfr hsc hF hkind hcell hnames hcalm hs) fun _ s' hq=>wpAny_pure (wpAny_pure hq))
 show wpAny _ X.A (assign (.Name y py) X.env (.ref l)) _ _ s6
 have dC:∀v,oC.data ≠ .cell v:=fun v z=>by
  obtain⟨es,ep,hd,_⟩:=nC
  rw [hd] at z; cases z
 have I7:Inv X (pins ++ [(C,oC)]) σ H6 s6:=I6.pins_of fun p hp=>(y13.mp hp).elim (fun z=>I6.pin p (y14 _ z)) fun z=>by
  have e:p=(C,oC):=y0e.mp z
  subst e
  exact⟨eC,fC.1,fC.2.1,fC.2.2.1,dC⟩
 refine wpAny_assign_Name (z98 I7 hN hy (.inl hly) (v:=.ref l) rfl (fun s7 I8=>?_) (.inr hly))
 have e8:s7.heap.get? C=some oC:=(I8.pin (C,oC) (y14 _ (y14 _ (y0e.mpr rfl)))).1
 refine⟨mC,nC.ns e8,fun h' hsb=>⟨_,H6,?_,q⟩⟩
 exact I8.unpinned.turned (t':=s7.toks) (it:=C) (fun b o hb e=>hsb.extBut b o hb e) fC.1 fC.2.1 fC.2.2.2.1 fC.2.2.2.2.1 fC.2.2.2.2.2
def zh9:TT:=fun _ H Q=>Q true H
theorem z3m {elt tg iter:Expr}{scope:Scope}{pos:Pos}{N:List Str}{fr:List Nat}{wi:TI}{g:TG}{te:TE}(n:Nat)
  (hi:PI X tg iter wi) (hg:∀c:CC,N.Nodup→PG (z0u X scope N c) tg g) (he:∀c:CC,N.Nodup→PE (z0u X scope N c) elt te)
  (hN:N.Nodup:=by decide +kernel) (hgk:GOk n g:=by first | exact z9e (by decide) | exact zgx (by decide) (by decide) | exact gok_t3 (by decide) (by decide) (by decide)) (hn:N.length=n+fr.length:=by rfl)
  (hfr:fr.map (fun i=>X.N[i]?)=(N.drop n).map some:=by rfl) (hsc:∀x∈N.drop n,scope.names.lookup x=some .free:=by decide +kernel)
  (hF:FreeIn X.env ((scope.names.filter fun y=>y.2 == .free).map (·.1)):=by repeat (first | exact True.intro | refine y5j (y72 rfl) ?_ | refine y5j (y6s rfl) ?_))
  (hkind:scope.kind = .function:=by rfl) (hcell:∀y∈scope.names,y.2 ≠ .cell:=by decide +kernel) (hnames:∀y∈scope.names,y.2 = .local→scope.names.lookup y.1=some .local:=by decide +kernel) (hcalm:X.calm=true:=by rfl)
  (hs:∀x,foldedSetIterable iter X.env x=pure x:=by intro _; rfl):PE X (.ListComp elt [⟨tg,iter,[],0⟩] scope pos) (za2 wi n fr g zh9 te) :=
 zcy n hi (fun c=>hg c hN) hgk (fun c pins s σ H Q I q=>wpAny_tests_nil ⟨H,I,q⟩) (fun c=>he c hN) hn hfr hsc hF hkind hcell hnames hcalm hs
theorem z5n {elt tg iter c:Expr}{scope:Scope}{pos:Pos}{N:List Str}{fr:List Nat}{wi:TI}{g:TG}{tt:TT}{te:TE}(n:Nat)
  (hi:PI X tg iter wi) (hg:∀c:CC,N.Nodup→PG (z0u X scope N c) tg g) (ht:∀cc:CC,N.Nodup→PT (z0u X scope N cc) c tt) (he:∀c:CC,N.Nodup→PE (z0u X scope N c) elt te)
  (hN:N.Nodup:=by decide +kernel) (hgk:GOk n g:=by first | exact z9e (by decide) | exact zgx (by decide) (by decide) | exact gok_t3 (by decide) (by decide) (by decide)) (hn:N.length=n+fr.length:=by rfl)
  (hfr:fr.map (fun i=>X.N[i]?)=(N.drop n).map some:=by rfl) (hsc:∀x∈N.drop n,scope.names.lookup x=some .free:=by decide +kernel)
  (hF:FreeIn X.env ((scope.names.filter fun y=>y.2 == .free).map (·.1)):=by repeat (first | exact True.intro | refine y5j (y72 rfl) ?_ | refine y5j (y6s rfl) ?_))
  (hkind:scope.kind = .function:=by rfl) (hcell:∀y∈scope.names,y.2 ≠ .cell:=by decide +kernel) (hnames:∀y∈scope.names,y.2 = .local→scope.names.lookup y.1=some .local:=by decide +kernel) (hcalm:X.calm=true:=by rfl)
  (hs:∀x,foldedSetIterable iter X.env x=pure x:=by intro _; rfl):PE X (.ListComp elt [⟨tg,iter,[c],0⟩] scope pos) (za2 wi n fr g tt te) :=
 zcy n hi (fun c=>hg c hN) hgk (fun cc pins s σ H Q I q=>wpAny_tests_one (ht cc hN pins s σ H Q I q)) (fun c=>he c hN) hn hfr hsc hF hkind hcell hnames hcalm hs
theorem z7w (i:Nat){elt tg iter:Expr}{scope:Scope}{pos spos py:Pos}{y:Str}{N:List Str}{fr:List Nat}{wi:TI}{g:TG}{te:TE}(n:Nat)(hNX:X.N.Nodup)
  (hi:PI X tg iter wi) (hg:∀c:CC,N.Nodup→PG (z0u X scope N c) tg g) (he:∀c:CC,N.Nodup→PE (z0u X scope N c) elt te)
  (hN:N.Nodup:=by decide +kernel) (hgk:GOk n g:=by first | exact z9e (by decide) | exact zgx (by decide) (by decide) | exact gok_t3 (by decide) (by decide) (by decide)) (hn:N.length=n+fr.length:=by rfl)
  (hfr:fr.map (fun i=>X.N[i]?)=(N.drop n).map some:=by rfl) (hsc:∀x∈N.drop n,scope.names.lookup x=some .free:=by decide +kernel)
  (hF:FreeIn X.env ((scope.names.filter fun y=>y.2 == .free).map (·.1)):=by repeat (first | exact True.intro | refine y5j (y72 rfl) ?_ | refine y5j (y6s rfl) ?_))
  (hkind:scope.kind = .function:=by rfl) (hcell:∀y∈scope.names,y.2 ≠ .cell:=by decide +kernel) (hnames:∀y∈scope.names,y.2 = .local→scope.names.lookup y.1=some .local:=by decide +kernel) (hcalm:X.calm=true:=by rfl)
  (hs:∀x,foldedSetIterable iter X.env x=pure x:=by intro _; rfl) (hy:X.N[i]?=some y:=by rfl) (hly:X.env.scope.names.lookup y=some .local:=by rfl) (hsw:swapsWith (.ListComp elt [⟨tg,iter,[],0⟩] scope pos) (some (.Name y py)) spos.line X.env=pure true:=by rfl):PS X (.Assign [.Name y py] (.ListComp elt [⟨tg,iter,[],0⟩] scope pos) spos) (zlb (za2 wi n fr g zh9 te) (z3x i)) :=
 zix n hNX hy hly hsw hi (fun c=>hg c hN) hgk (fun c pins s σ H Q I q=>wpAny_tests_nil ⟨H,I,q⟩) (fun c=>he c hN) hn hfr hsc hF hkind hcell hnames hcalm hs
end
end L2.EX
set_option Elab.async false
set_option linter.all false
set_option maxRecDepth 100000
namespace L2.EX
open PySem PySem.Spec PyProof.Rows
section
variable {X:Cx}{pins:List (Addr×Obj)}{σ:St}{H:Hp}{s:Shared}{h':Heap}
theorem z59 {t':Nat}{ch:List Addr}(I:Inv X pins σ H s)(k:∀b o,b ∉ ch→s.heap.get? b=some o→h'.get? b=some o)(hf:∀b∈ch,zfz X pins H b):Inv X pins σ H { s with heap:=h',toks:=t' }:=by
 have nit:∀b u,H b=some u→b ∉ ch:=fun b u e z=>by rw [(hf b z).1] at e; cases e
 refine I.step (g':=s.gens) (d':=s.drawn) (ch:=ch) (fun b hb=>⟨(hf b hb).2.2.2.1,(hf b hb).2.1,(hf b hb).2.2.2.2.1,(hf b hb).2.2.2.2.2⟩) (fun b o _ _ hc e _=>k b o hc e) (fun b o _ _ hc e _=>⟨o.slots,k b o hc e⟩) (fun _ _ _ _ n=>n)
  (fun b o hc e=>⟨o,k b o hc e⟩) (fun _ _ e=>e) (fun _ _ _ e=>e) (fun b ps e=>⟨#[],by rw [e]; simp⟩) (fun m hm=>?_) (fun b u e=>?_) I.bare
 ·obtain⟨o,es,ep,ho,r⟩:=hm
  exact⟨o,es,ep,k _ o (fun z=>(hf _ z).2.1 rfl) ho,r⟩
 ·refine(I.hok b u e).stay (fun c v hc q=>k c v ?_ q) (fun _ q=>q) fun _ _ q=>q
  rcases hc with z | z
  ·rw [z]; exact nit b u e
  ·exact nit c _ z
theorem z8g {t':Nat}{ch:List Addr}{T:Addr}{xs:List V}{us:List Value}(I:Inv X pins σ H s)(k:∀b o,b ∉ ch→s.heap.get? b=some o→h'.get? b=some o)(hf:∀b∈ch,zfz X pins H b)(hT:s.heap.objs.size≤T)
  (r:Vals xs us) (hz:xs.length≤sizeLine) (e:IsTup h' T us.toArray):Inv X pins σ (upd H T (.tup xs)) { s with heap:=h',toks:=t' } :=
 zng (z59 I k hf) (I.hok.fresh hT) (y1a I.sz hT) (y3a (y0p I.lt hT)) (fun x c e z=>by
  obtain⟨v,q⟩:=I.cell x c e
  exact absurd (y0p q.lt (by rw [z]; exact hT)) (y2q _)) (fun p hp z=>absurd (y0p (Heap.lt_size (I.pin p hp).1) (by rw [z]; exact hT)) (y2q _)) ⟨hz,us,r,e⟩
end
def Ite (K:y03)(a:Addr):It :=
 ⟨fun i H=>∃xs x,SqL K H a xs∧xs[i]?=some x,fun i H x H'=>∃p v,H p=none∧x = .ref p∧H'=upd H p (.tup [.int i,v])∧∀xs,SqL K H a xs→xs[i]?=some v,fun i H=>∃xs,SqL K H a xs∧xs.length≤i⟩
theorem zmm:2≤sizeLine:=by decide
theorem zf5 {P:Program}{w:World}{K:y03}{elts:List Expr}{kt:Nat}{tp:Pos}(a e it:Addr)(hne:e≠it):Turn P w K (.Tuple elts kt tp) (Ite K a) [e,it] e (fun i h=>(∃old,IsEnum h e it i old)∧h.IsListIter it a i) where
 mem:=by simp
 obj:=fun i h st b hb=>by
  obtain⟨⟨old,he⟩,o,e1,c,d⟩:=st
  rcases y0m.mp hb with rfl | hb
  ·exact⟨_,he,fun v z=>by cases z⟩
  ·have e':b=it:=by simpa using hb
   subst e'
   exact⟨o,e1,fun v z=>by rw [d] at z; cases z⟩
 keep:=fun i h h' st k=>by
  obtain⟨⟨old,he⟩,hit⟩:=st
  exact⟨⟨old,k e (by simp) _ he⟩,hit.at fun o x=>k it (by simp) o x⟩
 item:=by
  intro X hP hw hK hc i pins s σ H E I hf st hg
  subst hP hw hK
  obtain⟨xs,x,hq,hx⟩:=hg
  obtain⟨⟨old,he⟩,hit⟩:=st
  obtain⟨its,rv,p,hz⟩:=I.list hq
  obtain⟨u,hu,ru⟩:=rv.get hx
  refine wpAny_pyNext_enum_item he hit p.isList (x:=u) (by simpa using hu) hne fun h1 ho hit1 hT hsz hk=>⟨_,rfl,?_⟩
  refine wpAny_letOwnedTupleGo_enum ho fun h2 he2 hs2=>?_
  have hTe:s.heap.objs.size≠e:=y3a (Heap.lt_size he)
  have kk:∀b o,b ∉ [e,it]→s.heap.get? b=some o→h2.get? b=some o:=fun b o hb eo =>
   hs2.extBut b o (fun z=>hb (by simp [z])) (hk b o (fun z=>hb (by simp [z])) (fun z=>hb (by simp [z])) eo)
  have I2:=z8g (t':=s.toks+1) (h':=h2) I kk (fun b hb=>hf b hb) (y0a _) (xs:=[.int i,x]) (us:=[.int i s.toks,u]) (.cons ⟨_,rfl⟩ (.cons ru .nil)) zmm ⟨_,hs2.extBut _ _ hTe hT,rfl,_,rfl⟩
  refine⟨.ref s.heap.objs.size,_,I2,rfl,⟨s.heap.objs.size,x,I.hok.fresh (y0a _),rfl,rfl,fun ys hy=>by rw [I.list_inj hy hq]; exact hx⟩,⟨⟨_,by simpa using he2⟩,hit1.at fun o x=>(hs2.2 it hne.symm).trans x⟩,fun b hb=>?_⟩
  have hbl:b≠s.heap.objs.size:=by
   rcases y0m.mp hb with rfl | hb
   ·exact y10 (Heap.lt_size he)
   ·have e':b=it:=by simpa using hb
    subst e'
    obtain⟨o,e1,_⟩:=hit
    exact y10 (Heap.lt_size e1)
  rw [z09 hbl]
  exact(hf b hb).1
 done:=by
  intro X hP hw hK hc i pins s σ H E I hf st hg
  subst hP hw hK
  obtain⟨xs,hq,hx⟩:=hg
  obtain⟨⟨old,he⟩,hit⟩:=st
  obtain⟨its,rv,p,hz⟩:=I.list hq
  have hl:=rv.length
  exact wpAny_pyNext_enum_end (I.ok.hd hc) he hit p.isList (by simp; omega) fun h1 hb=>⟨rfl,z59 (t':=s.toks) I (fun b o hb' eo=>hb b o (fun z=>hb' (by simp [z])) eo) fun b hb'=>hf b hb'⟩
 self:=fun _ _ _ _ _ st h=>by
  obtain⟨⟨old,he⟩,_⟩:=st
  exact wpAny_pyIter_enum he h
section
variable {X:Cx}
def zld (K:y03)(tl:TE)(σ:St)(H:Hp)(R:It→Hp→Prop):Prop:=tl σ H fun x H1=>match x with
 | .ref a=>(∃xs,SqL K H1 a xs)∧R (Ite K a) H1
 | _=>False
theorem z84 {l:Expr}{tl:TE}{elts:List Expr}{kt:Nat}{tp p pos:Pos}(hm:X.mg "enumerate"=none)(hl:PE X l tl)(hg:Gl X "enumerate":=by rfl)(hs:starEach [l] X.env = [(false,eval l X.env)]:=by rfl) :
  PI X (.Tuple elts kt tp) (.Call (.Name "enumerate" p) [l] [] pos) (zld X.K tl):=by
 intro pins s σ H R I h
 refine Call_ (z5z I hg hm zb6 (y1s (thn ((z00 (z1k hl) z04 hs) pos pins s σ H (fun vs H1=>∃x,vs = [x]∧(match x with
  | .ref a=>(∃xs,SqL X.K H1 a xs)∧R (Ite X.K a) H1
  | _=>False)) I ⟨_,h,fun v H1 q=>⟨v,rfl,q⟩⟩) fun us s1 h1=>?_) hs rfl))
 obtain⟨vs,H1,I1,r1,x,rfl,q1⟩:=h1
 obtain⟨u,rfl,rx⟩:=z7a r1
 split at q1
 ·rename_i a
  cases rx
  obtain⟨⟨xs,hq⟩,q⟩:=q1
  obtain⟨its,rv,pl,hz⟩:=I1.list hq
  refine call_enumerate_list pl.isList fun h1 he hit hsz hk=>wpAny_pyIter_enum he ?_
  have ne:s1.heap.objs.size+1≠s1.heap.objs.size:=Nat.succ_ne_self _
  refine⟨_,[s1.heap.objs.size+1,s1.heap.objs.size],_,_,H1,rfl,I1.kept (t':=s1.toks) hk,zf5 a (s1.heap.objs.size+1) s1.heap.objs.size ne,⟨⟨_,he⟩,hit⟩,fun b hb=>?_,q⟩
  have hb':s1.heap.objs.size≤b:=by
   rcases y0m.mp hb with e | e
   ·rw [e]; exact y53 _
   ·rw [y0e.mp e]; exact y0a _
  exact I1.fpOk hb' (I1.hok.fresh hb')
 ·exact q1.elim
theorem zcb {K:y03}{g:TG}{tb:TS}{D:Ends}{σ:St}{H:Hp}{a:Addr}{xs:List V}(Pv:Nat→St→Hp→Prop)(h0:Pv 0 σ H)(hl:∀i σ H,i≤xs.length→Pv i σ H→SqL K H a xs)
  (hs:∀i x σ H p,xs[i]?=some x→Pv i σ H→H p=none→g (.ref p) σ (upd H p (.tup [.int i,x])) fun σ2 H2=>tb { D with nx:=Pv (i+1),ct:=Pv (i+1),bk:=D.nx } σ2 H2) (hd:∀ σ H,Pv xs.length σ H→D.nx σ H):zbw (Ite K a) g tb D σ H:=by
 refine⟨fun i m σ H=>m=xs.length - i∧i≤xs.length∧Pv i σ H,⟨xs.length,by simp,y2g _,h0⟩,?_⟩
 rintro i m σ H ⟨rfl,hi,p⟩
 have q:=hl i σ H hi p
 by_cases hlt:i<xs.length
 ·refine .inr ⟨⟨xs,xs[i],q,by simp [hlt]⟩,Pv (i+1),fun σ' H' p'=>⟨xs.length - (i+1),by omega,rfl,hlt,p'⟩,fun x H' y=>?_⟩
  obtain⟨t,v,ht,e1,e2,e3⟩:=y
  subst e1 e2
  exact hs i v σ H t (e3 xs q) p ht
 ·have e:i=xs.length:=by omega
  subst e
  exact .inl ⟨⟨xs,q,y0a _⟩,hd σ H p⟩
end
end L2.EX
set_option Elab.async false
set_option linter.all false
set_option maxRecDepth 100000
namespace L2.EX
open PySem PySem.Spec PyProof.Rows
structure ClsF (K:y03)(C:Addr)(f:Str):Prop where
 cl:Cls K C
 no:NoAttr K C f
structure MDef (P:Program)(w:World)(K:y03)(mg:Str→Option Value)(base:Heap)(C:Addr)(m:Str)(k:Nat)(ps:List Str)(sp:Sp):Prop where
 is:∃(f:Addr) (fd:FuncData),FnOk P w K mg base CX0 k f fd ps sp∧Binds K fd ps []∧Meth K C m f
 cl:Cls K C
structure MTop (K:y03)(C:Addr)(m qual:Str)(st:Stmt)(ps:List Str):Prop where
 is:∃(f:Addr) (fd:FuncData),Fun K m qual st f fd∧Binds K fd ps []∧Meth K C m f
 cl:Cls K C
structure CDef (P:Program)(w:World)(K:y03)(mg:Str→Option Value)(base:Heap)(x:Str)(C:Addr)(k:Nat)(ps:List Str)(sp:Sp):Prop where
 is:∃(f:Addr) (fd:FuncData),FnOk P w K mg base CX0 k f fd ps sp∧Binds K fd ps []∧Mk K C f
 mg:mg x=some (.ref C)
section
variable {X:Cx}{C:Addr}{f m:Str}{e o value:Expr}{es:List Expr}{ta tv:TE}{t:TA}{pos pos' apos cpos p:Pos}{k:Nat}{ps:List Str}{sp:Sp}{x:Str}
def zob (C:Addr)(f:Str)(t:TE)(σ:St)(H:Hp)(Q:VK):Prop:=t σ H fun x H1=>match x with
 | .ref a=>∃dx fs v,H1 a=some (.ins C dx fs)∧fs.lookup f=some v∧Q v H1
 | _=>False
theorem z1f (F:ClsF X.K C f)(he:PE X e ta)(hb:attributeBase e f X.env (eval e X.env)=eval e X.env:=by rfl):PE X (.Attribute e f pos) (zob C f ta) :=
 z4m (znd (z1k he) hb) fun σ H Q h=>⟨_,h,fun x H1 q=>by
  split at q
  ·obtain⟨dx,fs,v,h1,h2,h3⟩:=q
   exact⟨_,C,dx,fs,v,rfl,h1,F.cl,F.no,h2,h3⟩
  ·exact q.elim⟩
def zlq (C:Addr)(f:Str)(ta tv:TE)(D:Ends)(σ:St)(H:Hp):Prop:=tv σ H fun y H1=>ta σ H1 fun x H2=>match x with
 | .ref a=>∃dx fs,H2 a=some (.ins C dx fs)∧fs.length<1000∧D.nx σ (upd H2 a (.ins C dx (z77 f y fs)))
 | _=>False
theorem zak (F:ClsF X.K C f)(ha:PE X o ta)(hv:PE X value tv)(hs:swapsWith value (some (.Attribute o f pos')) pos.line X.env=pure false:=by rfl):PS X (.Assign [.Attribute o f pos'] value pos) (zlq C f ta tv) :=
 zmx (zm0 (z1k ha) (z1k hv) hs) fun D σ H h=>⟨_,h,fun y H1 q=>⟨_,q,fun x H2 q2=>by
  split at q2
  ·obtain⟨dx,fs,h1,h2,h3⟩:=q2
   exact⟨_,C,dx,fs,rfl,h1,F.cl,F.no,h2,h3⟩
  ·exact q2.elim⟩⟩
def zid (C:Addr)(m:Str)(sp:Sp)(ta:TE)(t:TA)(σ:St)(H:Hp)(Q:VK):Prop:=ta σ H fun x H1=>match x with
 | .ref a=>∃dx fs,H1 a=some (.ins C dx fs)∧fs.lookup m=none∧t σ H1 fun vs H2=>sp (.ref a::vs) H2 Q E0
 | _=>False
theorem z2a {pl:Sem Bool}(D:MDef X.prog X.w X.K X.mg X.base C m k ps sp)(hr:Room k X.A)(he:PE X o ta)(ha:PA X (e::es) t)
  (hst:starEach (e::es) X.env=(false,eval e X.env)::starEach es X.env:=by rfl) (hpl:(backTo pos (starEach es X.env)).any (·.1)=false:=by rfl)
  (ht:eval (.Call (.Attribute o m apos) (e::es) [] pos) X.env=(do
   let ov ←eval o X.env
   standAt apos.atName
   let (f,first) ←holding [ov] (getMethod ov m pl)
   callWith pos f first (backTo pos (starEach (e::es) X.env)) (backToKw pos (keywordEach [] X.env))):=by rfl) :
  PE X (.Call (.Attribute o m apos) (e::es) [] pos) (zid C m sp ta t):=by
 obtain⟨f,fd,F,hb,hm⟩:=D.is
 refine z4m (zle (pl:=pl) (dvs:=[]) (z1k he) D.cl hm F hr hb .nil zi9 (z7z ha) hst hpl ht) fun σ H Q h=>⟨_,h,fun x H1 q=>?_⟩
 split at q
 ·obtain⟨dx,fs,h1,h2,h3⟩:=q
  exact⟨_,dx,fs,rfl,h1,h2,_,h3,fun vs H2 q2=>by
   show sp (V.ref _::(vs ++ [])) H2 Q E0
   rw [y2u]
   exact q2⟩
 ·exact q.elim
theorem z5g {pl:Sem Bool}(D:MDef X.prog X.w X.K X.mg X.base C m k ps sp)(hr:Room k X.A)(he:PE X o ta)
  (ht:eval (.Call (.Attribute o m apos) [] [] pos) X.env=(do
   let ov ←eval o X.env
   standAt apos.atName
   let (f,first) ←holding [ov] (getMethod ov m pl)
   callWith pos f first (backTo pos (starEach [] X.env)) (backToKw pos (keywordEach [] X.env))):=by rfl) :
  PE X (.Call (.Attribute o m apos) [] [] pos) (zid C m sp ta zka):=by
 obtain⟨f,fd,F,hb,hm⟩:=D.is
 refine z4m (zhn (pl:=pl) (dvs:=[]) (z1k he) D.cl hm F hr hb .nil zi9 ht) fun σ H Q h=>⟨_,h,fun x H1 q=>?_⟩
 split at q
 ·obtain⟨dx,fs,h1,h2,h3⟩:=q
  exact⟨_,dx,fs,rfl,h1,h2,h3⟩
 ·exact q.elim
def zk4 (C:Addr)(sp:Sp)(t:TA)(σ:St)(H:Hp)(Q:VK):Prop:=t σ H fun vs H1=>∀x dx,H1 x=none→H1 dx=none→dx≠x →
 sp (.ref x::vs) (upd (upd H1 dx (.own x)) x (.ins C dx [])) (fun v H2=>v = .non∧Q (.ref x) H2) E0
theorem zk9 (D:CDef X.prog X.w X.K X.mg X.base x C k ps sp)(hr:Room (k+1) X.A)(ha:PA X (e::es) t)(hg:Gl X x:=by rfl)
  (hdb:(x==("__debug__":Str))=false:=by decide) (he:starEach (e::es) X.env=(false,eval e X.env)::starEach es X.env:=by rfl) (hpl:(backTo pos (starEach es X.env)).any (·.1)=false:=by rfl) :
  PE X (.Call (.Name x p) (e::es) [] pos) (zk4 C sp t):=by
 obtain⟨f,fd,F,hb,M⟩:=D.is
 exact z4m (zk8 (dvs:=[]) M F hr hg D.mg hb .nil zi9 (z7z ha) hdb he hpl) fun σ H Q h=>⟨_,h,fun vs H1 q y dy h1 h2 h3=>by rw [y2u]; exact q y dy h1 h2 h3⟩
variable {P:Program}{w:World}{K:y03}{mg:Str→Option Value}{base:Heap}{N:List Str}{st:Stmt}{qual:Str}
theorem z2r (T:MTop K C m qual st ps)(S:FnScope N ps (z05 st))(len:∀vs H Q E,sp vs H Q E→vs.length=ps.length)
  (body:∀(f:Addr) (cdv:Value) (A:Around) (outer:List Env) (s:Shared) (H:Hp) (vs:List V) (Q:VK) (E:XK),Room k (A.deeper (envOfC qual (z05 st) s.heap.objs.size f cdv))→sp vs H Q E →
   ∃t,PSs (zh8 CX0 P w K mg base N qual (z05 st) f cdv A outer s H E).nox (z0e st) t∧t { nx:=fun _ H'=>Q .non H',rt:=Q } (start N vs) H):MDef P w K mg base C m (k+1) ps sp:=by
 obtain⟨f,fd,F,hb,hm⟩:=T.is
 exact⟨⟨f,fd,F.ok S len fun cdv A outer s H vs Q E hr h=>body f cdv A outer s H vs Q E hr h,hb,hm⟩,T.cl⟩
@[reducible] def zpj (o i v:V)(H:Hp)(Q:Hp→Prop):Prop:=match o,i with
 | .ref p,.int k=>∃xs j,H p=some (.lst xs)∧ixN xs.length k=some j∧Q (upd H p (.lst (xs.set j v)))
 | _,_=>False
theorem z4e:zns X zpj:=by
 intro pins s σ H o i v ov iv u Q I ro ri rv h
 unfold zpj at h
 split at h
 ·obtain⟨xs,j,h1,h2,h3⟩:=h
  exact zj0 pins s σ H _ _ v ov iv u Q I ro ri rv ⟨_,xs,_,j,rfl,rfl,h1,h2,h3⟩
 ·exact h.elim
def znu (o i:V)(H:Hp)(Q:VK):Prop:=match o,i with
 | .ref p,.int k=>∃xs v,H p=some (.lst xs)∧0≤k∧xs[k.toNat]?=some v∧Q v H
 | _,_=>False
theorem z7h:zpd X znu:=by
 intro pins s σ H o i ov iv Q I ro ri h
 unfold znu at h
 split at h
 ·rename_i p k
  obtain⟨xs,v,h1,h2,h3,h4⟩:=h
  cases ro
  obtain⟨t,rfl⟩:=ri
  obtain⟨its,r,pl,hz⟩:=I.list (SqL.of h1)
  obtain⟨w,ew,rw'⟩:=r.get h3
  have hl:=r.length
  have hn:=zay
  have hk:k.toNat<xs.length:=(y00.mp h3).1
  exact wpAny_getItem_list pl.isList h2 (by omega) (by simpa using ew) ⟨v,H,I,rw',h4⟩
 ·exact h.elim
def zck (x y:V)(H:Hp)(Q:VK):Prop:=match x,y with
 | .int i,.int j=>Q (.int (i+j)) H
 | _,_=>False
def zdc (x y:V)(H:Hp)(Q:VK):Prop:=match x,y with
 | .int i,.int j=>Q (.int (i - j)) H
 | _,_=>False
theorem zbl:PIp X .Add zck:=by
 intro pins s σ H x y v u Q I r1 r2 h
 unfold zck at h
 split at h
 ·exact zmg pins s σ H _ _ v u Q I r1 r2 ⟨_,_,rfl,rfl,h⟩
 ·exact h.elim
theorem z9h:PIp X .Sub zdc:=by
 intro pins s σ H x y v u Q I r1 r2 h
 unfold zdc at h
 split at h
 ·exact zn7 pins s σ H _ _ v u Q I r1 r2 ⟨_,_,rfl,rfl,h⟩
 ·exact h.elim
def zp1 (ta:TE)(t:TA)(σ:St)(H:Hp)(Q:VK):Prop:=ta σ H fun x H1=>match x with
 | .ref l=>(∃xs,H1 l=some (.lst xs))∧t σ H1 fun vs H2=>match vs with
  | [y]=>∃xs,H2 l=some (.lst xs)∧xs.length<sizeLine∧Q .non (upd H2 l (.lst (xs ++ [y])))
  | _=>False
 | _=>False
theorem z0z (ho:PE X o ta)(ha:PA X (e::es) t)(hbase:attributeBase o "append" X.env (eval o X.env)=eval o X.env:=by rfl)
  (hfew:((backTo cpos (starEach (e::es) X.env)).all (fun x=>!x.1)&&(backToKw cpos (keywordEach [] X.env)).all (fun x=>x.1.isSome)
  &&decide ((e::es).length+([]:List Keyword).length+(if ([]:List Keyword).isEmpty then 0 else 1)<30))=true:=by rfl)
  (hline:(apos.endLine==cpos.line)=true:=by rfl) (hs:starEach (e::es) X.env=(false,eval e X.env)::starEach es X.env:=by rfl) (hplain:(backTo cpos (starEach es X.env)).any (·.1)=false:=by rfl) :
  PE X (.Call (.Attribute o "append" apos) (e::es) [] cpos) (zp1 ta t) :=
 z4m (zlk y2r PySem.F.slot_list_append PySem.F.type_list_append zgb (z1k ho) (z7z ha) hbase hfew hline hs hplain) fun σ H Q h=>⟨_,h,fun x H1 q=>by
  split at q
  ·obtain⟨⟨xs,h1⟩,h2⟩:=q
   refine⟨.inl ⟨rfl,_,SqL.of h1⟩,_,h2,fun vs H2 q2=>?_⟩
   split at q2
   ·obtain⟨ys,h3,h4,h5⟩:=q2
    exact⟨_,ys,_,rfl,rfl,h3,h4,h5⟩
   ·exact q2.elim
  ·exact q.elim⟩
def zox (ta:TE)(σ:St)(H:Hp)(Q:VK):Prop:=ta σ H fun x H1=>match x with
 | .ref l=>∃xs y,H1 l=some (.lst xs)∧xs[xs.length - 1]?=some y∧Q y (upd H1 l (.lst xs.dropLast))
 | _=>False
theorem z7n (ho:PE X o ta)(hbase:attributeBase o "pop" X.env (eval o X.env)=eval o X.env:=by rfl)(hline:(apos.endLine==cpos.line)=true:=by rfl):PE X (.Call (.Attribute o "pop" apos) [] [] cpos) (zox ta) :=
 z4m (zja y2r PySem.F.slot_list_pop PySem.F.type_list_pop zmz (z1k ho) hbase hline) fun σ H Q h=>⟨_,h,fun x H1 q=>by
  split at q
  ·obtain⟨xs,y,h1,h2,h3⟩:=q
   exact⟨.inl ⟨rfl,_,SqL.of h1⟩,_,xs,y,rfl,rfl,h1,h2,h3⟩
  ·exact q.elim⟩
def zf9 (ta:TE)(σ:St)(H:Hp)(Q:VK):Prop:=ta σ H fun x H1=>match x with
 | .ref l=>∃xs,H1 l=some (.lst xs)∧Q .non (upd H1 l (.lst []))
 | _=>False
theorem zbk (ho:PE X o ta)(hbase:attributeBase o "clear" X.env (eval o X.env)=eval o X.env:=by rfl)(hline:(apos.endLine==cpos.line)=true:=by rfl):PE X (.Call (.Attribute o "clear" apos) [] [] cpos) (zf9 ta) :=
 z4m (zja y2r PySem.F.slot_list_clear PySem.F.type_list_clear zhm (z1k ho) hbase hline) fun σ H Q h=>⟨_,h,fun x H1 q=>by
  split at q
  ·obtain⟨xs,h1,h2⟩:=q
   exact⟨.inl ⟨rfl,_,SqL.of h1⟩,_,xs,rfl,rfl,h1,h2⟩
  ·exact q.elim⟩
theorem z3h (h:PE X e ta):PO X (some e) (zkt ta):=by
 intro pins s σ H Q I hq
 have g:=zk6 (z1k h) pins s σ H Q I ⟨_,hq,fun x H1 q=>by
  split at q
  ·exact⟨_,rfl,q⟩
  ·exact q.elim⟩
 exact g
theorem zov:SlR X (uSl X.K):=by
 intro pins s σ H x v vl vu lo hi sl Q I rx hs pl pu q
 unfold uSl at q
 split at q
 ·obtain⟨xs,h1,h2⟩:=q
  exact zkk pins s σ H _ v vl vu lo hi sl Q I rx hs pl pu ⟨_,xs,rfl,h1,h2⟩
 ·exact q.elim
def xSl (K:y03)(te:TE)(tl th:TO)(σ:St)(H:Hp)(Q:VK):Prop:=te σ H fun x H1=>tl σ H1 fun l H2=>th σ H2 fun u H3=>uSl K x l u H3 Q
theorem ziv {lo hi:Option Expr}{p2:Pos}{tl th:TO}(he:PE X e ta)(hl:PO X lo tl)(hu:PO X hi th):PE X (.Subscript e (.Slice lo hi none p2) pos) (xSl X.K ta tl th):=zhp zov he hl hu
end
end L2.EX
set_option Elab.async false
set_option linter.all false
set_option maxRecDepth 100000
namespace L2.EX
open PySem PySem.Spec PyProof.Rows
theorem z03 {H:Hp}{p:Addr}(h:H p=none)(o:HO):Same H (upd H p o):=fun b u q=>by rw [z09 (z06 q h)]; exact q
mutual
def Is (K:y03)(H:Hp):V→PyData→Prop
 | v,.none=>v = .non
 | v,.bool b=>v = .bl b
 | v,.int i=>v = .int i
 | v,.str x=>v = .str x
 | v,.list ds=>∃a xs,v = .ref a∧H a=some (.lst xs)∧IsAll K H xs ds
 | v,.tuple ds=>∃a xs,v = .ref a∧H a=some (.tup xs)∧IsAll K H xs ds
 | _,.dict _=>False
def IsAll (K:y03)(H:Hp):List V→List PyData→Prop
 | xs,[]=>xs = []
 | xs,d::ds=>∃v vs,xs=v::vs∧Is K H v d∧IsAll K H vs ds
end
mutual
theorem Is.same {K:y03}{H H':Hp}(s:Same H H'):∀(d:PyData) (v:V),Is K H v d→Is K H' v d
 | .none,v,h=>by simp only [Is] at h ⊢; exact h
 | .bool b,v,h=>by simp only [Is] at h ⊢; exact h
 | .int i,v,h=>by simp only [Is] at h ⊢; exact h
 | .str x,v,h=>by simp only [Is] at h ⊢; exact h
 | .list ds,v,h=>by
  simp only [Is] at h ⊢
  obtain⟨a,xs,e,q,r⟩:=h
  exact⟨a,xs,e,s _ _ q,IsAll.same s ds xs r⟩
 | .tuple ds,v,h=>by
  simp only [Is] at h ⊢
  obtain⟨a,xs,e,q,r⟩:=h
  exact⟨a,xs,e,s _ _ q,IsAll.same s ds xs r⟩
 | .dict _,v,h=>by simp only [Is] at h
theorem IsAll.same {K:y03}{H H':Hp}(s:Same H H'):∀(ds:List PyData) (xs:List V),IsAll K H xs ds→IsAll K H' xs ds
 | [],xs,h=>by simp only [IsAll] at h ⊢; exact h
 | d::ds,xs,h=>by
  simp only [IsAll] at h ⊢
  obtain⟨v,vs,e,q,r⟩:=h
  exact⟨v,vs,e,Is.same s d v q,IsAll.same s ds vs r⟩
end
section
variable {X:Cx}{pins:List (Addr×Obj)}{σ:St}{H:Hp}{s:Shared}
mutual
theorem Is.reads (I:Inv X pins σ H s):∀(d:PyData) (v:V) (u:Value),Is X.K H v d→RelV v u→∃as,Reads s.heap u d as
 | .none,v,u,h,r=>by
  simp only [Is] at h
  subst h
  cases r
  exact⟨_,.none⟩
 | .bool b,v,u,h,r=>by
  simp only [Is] at h
  subst h
  cases r
  exact⟨_,.bool b⟩
 | .int i,v,u,h,r=>by
  simp only [Is] at h
  subst h
  obtain⟨t,rfl⟩:=r
  exact⟨_,.int i t⟩
 | .str x,v,u,h,r=>by
  simp only [Is] at h
  subst h
  obtain⟨t,rfl⟩:=r
  exact⟨_,.str x t⟩
 | .list ds,v,u,h,r=>by
  simp only [Is] at h
  obtain⟨a,xs,rfl,q,al⟩:=h
  cases r
  obtain⟨its,rv,⟨o,n,e,c,_,hd⟩,_⟩:=I.list (SqL.of q)
  obtain⟨as,ra⟩:=IsAll.reads I ds xs its al rv
  exact⟨_,.list e c hd (by simpa using ra)⟩
 | .tuple ds,v,u,h,r=>by
  simp only [Is] at h
  obtain⟨a,xs,rfl,q,al⟩:=h
  cases r
  obtain⟨its,rv,⟨o,e,c,n,hd⟩,_⟩:=I.tuple (SqT.of q)
  obtain⟨as,ra⟩:=IsAll.reads I ds xs its al rv
  exact⟨_,.tuple e c hd (by simpa using ra)⟩
 | .dict _,v,u,h,r=>by simp only [Is] at h
theorem IsAll.reads (I:Inv X pins σ H s):∀(ds:List PyData) (xs:List V) (us:List Value),IsAll X.K H xs ds→Vals xs us→∃as,ReadsAll s.heap us ds as
 | [],xs,us,h,r=>by
  simp only [IsAll] at h
  subst h
  cases r
  exact⟨_,.nil⟩
 | d::ds,xs,us,h,r=>by
  simp only [IsAll] at h
  obtain⟨v,vs,rfl,q,al⟩:=h
  cases r with
  | cons r1 r2 =>
   obtain⟨as,ra⟩:=Is.reads I d v _ q r1
   obtain⟨bs,rb⟩:=IsAll.reads I ds vs _ al r2
   exact⟨_,.cons ra rb⟩
end
end
theorem z0i {K:y03}{H:Hp}:∀{ds:List PyData} {xs:List V},IsAll K H xs ds→xs.length=ds.length
 | [],xs,h=>by simp only [IsAll] at h; subst h; rfl
 | d::ds,xs,h=>by
  simp only [IsAll] at h
  obtain⟨v,vs,rfl,q,al⟩:=h
  simp [z0i al]
theorem z4c {K:y03}{H:Hp}:∀{ds:List PyData} {xs:List V} {i:Nat} {x:V},IsAll K H xs ds→xs[i]?=some x→∃d,ds[i]?=some d∧Is K H x d
 | [],xs,i,x,h,e=>by simp only [IsAll] at h; subst h; simp at e
 | d::ds,xs,i,x,h,e=>by
  simp only [IsAll] at h
  obtain⟨v,vs,rfl,q,al⟩:=h
  cases i with
  | zero=>simp at e; subst e; exact⟨d,rfl,q⟩
  | succ i =>
   obtain⟨d',h1,h2⟩:=z4c (i:=i) al (by simpa using e)
   exact⟨d',by simpa using h1,h2⟩
theorem z21 {K:y03}{H:Hp}:∀{ds:List PyData} {xs:List V} {i:Nat} {d:PyData},IsAll K H xs ds→ds[i]?=some d→∃x,xs[i]?=some x∧Is K H x d
 | [],xs,i,x,h,e=>by simp at e
 | d::ds,xs,i,x,h,e=>by
  simp only [IsAll] at h
  obtain⟨v,vs,rfl,q,al⟩:=h
  cases i with
  | zero=>simp at e; subst e; exact⟨v,rfl,q⟩
  | succ i =>
   obtain⟨d',h1,h2⟩:=z21 (i:=i) al (by simpa using e)
   exact⟨d',by simpa using h1,h2⟩
theorem z7v {K:y03}{H:Hp}:∀{ds es:List PyData} {xs ys:List V},IsAll K H xs ds→IsAll K H ys es→IsAll K H (xs++ys) (ds++es)
 | [],es,xs,ys,h,g=>by simp only [IsAll] at h; subst h; exact g
 | d::ds,es,xs,ys,h,g=>by
  simp only [IsAll] at h
  obtain⟨v,vs,rfl,q,al⟩:=h
  show IsAll K H (v::(vs++ys)) (d::(ds++es))
  simp only [IsAll]
  exact⟨v,vs++ys,rfl,q,z7v al g⟩
theorem z4k {K:y03}{H:Hp}{v:V}{d:PyData}(h:Is K H v d):IsAll K H [v] [d]:=by
 simp only [IsAll]
 exact⟨v,[],rfl,h,rfl⟩
theorem z0q {K:y03}{H:Hp}:IsAll K H [] []:=by simp only [IsAll]
theorem z1c {K:y03}{H:Hp}{v:V}{vs:List V}{d:PyData}{ds:List PyData}(h:Is K H v d)(g:IsAll K H vs ds):IsAll K H (v::vs) (d::ds):=by
 simp only [IsAll]
 exact⟨v,vs,rfl,h,g⟩
theorem z26 {K:y03}{H:Hp}{v:V}{vs:List V}{d:PyData}{ds:List PyData}(g:IsAll K H vs ds)(h:Is K H v d):IsAll K H (vs ++ [v]) (ds ++ [d]):=z7v g (z4k h)
theorem z2u {K:y03}{H:Hp}:∀(ns:List Int),IsAll K H (ns.map V.int) (ns.map PyData.int)
 | []=>z0q
 | n::ns=>z1c (by simp only [Is]) (z2u ns)
theorem z8y {K:y03}{H:Hp}:∀{ns:List Int} {xs:List V},IsAll K H xs (ns.map PyData.int)→xs=ns.map V.int
 | [],xs,h=>by simpa only [IsAll,y3c] using h
 | n::ns,xs,h=>by
  simp only [IsAll,y0h,Is] at h
  obtain⟨v,vs,rfl,rfl,al⟩:=h
  rw [z8y al]
  rfl
theorem z8t {K:y03}{H:Hp}:∀{ds:List PyData} {xs:List V} (n:Nat),IsAll K H xs ds→IsAll K H (xs.take n) (ds.take n)
 | [],xs,n,h=>by simp only [IsAll] at h; subst h; simp [z0q]
 | d::ds,xs,n,h=>by
  simp only [IsAll] at h
  obtain⟨v,vs,rfl,q,al⟩:=h
  cases n with
  | zero=>simp [z0q]
  | succ n=>simpa using z1c q (z8t n al)
theorem is_int {K:y03}{H:Hp}{v:V}{i:Int}:Is K H v (.int i)↔v = .int i:=by simp only [Is]
theorem is_list {K:y03}{H:Hp}{v:V}{ds:List PyData}:Is K H v (.list ds)↔∃a xs,v = .ref a∧H a=some (.lst xs)∧IsAll K H xs ds:=by simp only [Is]
theorem is_tuple {K:y03}{H:Hp}{v:V}{ds:List PyData}:Is K H v (.tuple ds)↔∃a xs,v = .ref a∧H a=some (.tup xs)∧IsAll K H xs ds:=by simp only [Is]
def z9o (n d:Int):PyData:=.tuple [.int n,.int d]
theorem is_frac {K:y03}{H:Hp}{v:V}{n d:Int}:Is K H v (z9o n d)↔∃a,v = .ref a∧H a=some (.tup [.int n,.int d]):=by
 unfold z9o
 rw [is_tuple]
 constructor
 ·rintro⟨a,xs,rfl,h,al⟩
  simp only [IsAll,Is] at al
  obtain⟨_,_,rfl,rfl,_,_,rfl,rfl,rfl⟩:=al
  exact⟨a,rfl,h⟩
 ·rintro⟨a,rfl,h⟩
  exact⟨a,_,rfl,h,z2u [n,d]⟩
def Sh (n:Nat)(d:PyData):Prop:=d.canLay0=true∧d.depth≤n
theorem z8d {n:Nat}(i:Int):Sh n (.int i):=⟨by simp only [PyData.canLay0],by simp only [PyData.depth]; omega⟩
theorem zj9 {n:Nat}{ds:List PyData}(h:∀d∈ds,Sh n d):PyData.canLayAll0 ds=true∧PyData.depthAll ds≤n:=by
 induction ds with
 | nil=>exact⟨by simp only [PyData.canLayAll0],by simp only [PyData.depthAll]; omega⟩
 | cons d ds ih =>
  obtain⟨h1,h2⟩:=h d y0d
  obtain⟨h3,h4⟩:=ih fun x hx=>h x (y0c _ hx)
  refine⟨by simp only [PyData.canLayAll0,h1,h3,Bool.and_self],?_⟩
  simp only [PyData.depthAll]
  omega
theorem z6b {n:Nat}{ds:List PyData}(h:∀d∈ds,Sh n d):Sh (n+1) (.list ds):=⟨by simp only [PyData.canLay0]; exact(zj9 h).1,by simp only [PyData.depth]; have:=(zj9 h).2; omega⟩
theorem zlu {n:Nat}(ns:List Int):Sh (n+1) (.list (ns.map PyData.int)):=z6b fun d hd=>by
 obtain⟨i,_,rfl⟩:=y1h.mp hd
 exact z8d _
theorem Sh.shaped {d:PyData}(h:Sh 60 d):y63 d=true:=by
 unfold y63
 rw [h.1,decide_eq_true (y1a h.2 (by decide))]
 rfl
theorem Sh.le {m n:Nat}{d:PyData}(h:Sh m d)(k:m≤n):Sh n d:=⟨h.1,y1a h.2 k⟩
theorem z6z {d:PyData}(h:Sh 60 d):PyData.eqv d d=true:=PySem.SeqAt.eqv_refl d h.1
theorem zhr (a b c d:Int):PyData.eqv (z9o a b) (z9o c d)=(decide (a=c)&&decide (b=d)):=by
 unfold z9o
 simp only [PyData.eqv,PyData.eqvAll]
 rw [y27]
 simp
section
variable {X:Cx}
def zp2 (K:y03)(x y:V)(H:Hp)(Q:VK):Prop:=∃d d',Is K H x d∧Is K H y d'∧Sh 60 d∧Sh 60 d'∧Q (.bl (PyData.eqv d d')) H
def zph (K:y03)(x y:V)(H:Hp)(Q:VK):Prop:=∃d d',Is K H x d∧Is K H y d'∧Sh 60 d∧Sh 60 d'∧Q (.bl (!PyData.eqv d d')) H
theorem zof {k:Nat}{A:Around}(hr:Room k A):A.units+64<cLine:=by have:=hr.un; omega
theorem zfr {k:Nat}(hr:Room k X.A):OpR X (compareOp .Eq) (zp2 X.K):=by
 intro pins s σ H x y v u Q I rx ry h
 obtain⟨d,d',h1,h2,s1,s2,q⟩:=h
 obtain⟨as,ra⟩:=Is.reads I d x v h1 rx
 obtain⟨bs,rb⟩:=Is.reads I d' y u h2 ry
 exact PySem.SeqAt.compareEq_shaped ra rb s1.shaped s2.shaped (zof hr) ⟨.bl (PyData.eqv d d'),H,I,rfl,q⟩
def zeg:TS:=fun _ _ _=>False
theorem zil {st:Stmt}:PS X st zeg:=fun _ _ _ _ _ _ h=>h.elim
def zc4 (c:TT)(tb:TS)(D:Ends)(σ:St)(H:Hp):Prop:=∃W:Nat→St→Hp→Prop,(∃m,W m σ H)∧∀m σ H,W m σ H →
 c σ H fun b H1=>if b=true then tb { D with nx:=fun σ' H'=>∃m',m'<m∧W m' σ' H',ct:=fun σ' H'=>∃m',m'<m∧W m' σ' H',bk:=D.nx } σ H1 else D.nx σ H1
theorem z3y {c:Expr}{body:List Stmt}{tc:TT}{tb:TS}{pos:Pos}(hc:PT X c tc)(hb:PSs X body tb)(hp:PassesOwn (model X.prog X.w) X.A X.env X.xe:=by exact PassesOwn.never):PS X (.While c body [] pos) (zc4 tc tb):=by
 intro pins s σ H D I h
 obtain⟨W,⟨m0,w0⟩,turn⟩:=h
 refine wpAny_While (codeAny_whileLoop (fun n s'=>∃ σ' H',Inv X pins σ' H' s'∧W n σ' H') ?_ m0 ⟨σ,H,I,w0⟩)
 rintro n s1 ⟨σ1,H1,I1,w1⟩
 refine wpAny_passesOwn hp (thn (hc pins s1 σ1 H1 _ I1 (turn n σ1 H1 w1)) fun b s2 h2=>?_)
 obtain⟨H2,I2,q2⟩:=h2
 cases b with
 | true =>
  rw [if_pos rfl] at q2 ⊢
  refine wpAny_passesOwn hp (thn (hb pins s2 σ1 H2 _ I2 q2) fun f s3 q3=>?_)
  cases f with
  | next =>
   obtain⟨σ3,H3,I3,m',l3,n3⟩:=q3
   exact⟨m',l3,σ3,H3,I3,n3⟩
  | cont =>
   obtain⟨σ3,H3,I3,m',l3,n3⟩:=q3
   exact⟨m',l3,σ3,H3,I3,n3⟩
  | brk=>exact q3
  | ret v=>exact q3
 | false =>
  rw [if_neg y15] at q2 ⊢
  exact wpAny_execs_nil ⟨σ1,H2,I2,q2⟩
end
end L2.EX
set_option Elab.async false
set_option linter.all false
set_option maxRecDepth 100000
namespace L2.EX
open PySem PySem.Spec PyProof.Rows
section
variable {X:Cx}
theorem zf3 {A:Around}(h:A.handled=none):A.in1.handled=none:=h
theorem walked {pins:List (Addr×Obj)}{σ:St}{H:Hp}{s:Shared}(I:Inv X pins σ H s){o:Obj}{h':Heap}{tk:Nat}(hk:∀b ob,b ∉ [s.heap.objs.size]→(s.heap.push o).get? b=some ob→h'.get? b=some ob):Inv X pins σ H { s with heap:=h',toks:=tk } :=
 I.kept (t':=tk) fun b ob e=>hk b ob (by
  intro z
  have e1:b=s.heap.objs.size:=y0e.mp z
  have e2:=Heap.lt_size e
  rw [e1] at e2
  exact y2q _ e2) (Heap.get?_push_of_some _ e)
theorem zg1:∀{bs:List Bool} {us:List Value},Vals (bs.map V.bl) us→us=bs.map Value.bool
 | [],_,.nil=>rfl
 | b::bs,_,.cons r t=>by
  cases r
  rw [zg1 t]
  rfl
theorem z3g:∀{ns:List Int} {us:List Value} {i:Nat} {u:Value},Vals (ns.map V.int) us→us[i]?=some u→∃t,u = .int (ns.getD i 0) t
 | [],_,_,_,.nil,h=>by simp at h
 | n::ns,_,0,_,.cons r t,h=>by
  simp at h
  subst h
  exact r
 | n::ns,_,i+1,_,.cons r t,h=>by
  obtain⟨t',e⟩:=z3g (i:=i) t (by simpa using h)
  exact⟨t',by simpa using e⟩
def znm (K:y03)(xs:List V)(H:Hp)(Q:VK):Prop:=match xs with
 | [.ref p]=>∃bs:List Bool,SqL K H p (bs.map V.bl)∧Q (.bl (bs.any id)) H
 | _=>False
theorem zfs (bs:List Bool):((y0b bs.length).any fun i=>bs.getD i false)=bs.any id:=by
 rw [y27,y1r,y1r]
 constructor
 ·rintro⟨i,hi,e⟩
  have hl:=y1e.mp hi
  refine⟨true,?_,rfl⟩
  have:bs[i]?=some true:=by
   rw [y07,y01 hl] at e
   rw [y01 hl]
   exact congrArg some e
  exact y02 this
 ·rintro⟨b,hb,e⟩
  obtain⟨i,hi⟩:=y09 hb
  refine⟨i,y1e.mpr (y00.mp hi).1,?_⟩
  rw [y07,hi]
  exact e
theorem zjg (hc:X.calm=true:=by rfl):z44 X (.builtin "any") (znm X.K):=by
 intro pins s σ H xs us Q I r h
 unfold znm at h
 split at h
 ·rename_i p
  obtain⟨bs,hS,q⟩:=h
  obtain⟨u,rfl,ru⟩:=z7a r
  cases ru
  obtain⟨its,rv,pl,hz⟩:=I.list hS
  have e:=zg1 rv
  subst e
  have hlt:p<s.heap.objs.size:=by
   obtain⟨o,n,e,_⟩:=pl
   exact Heap.lt_size e
  refine call_any_walk (wpAny_pyIter_list pl.isList ?_)
  refine⟨s.heap.objs.size,_,_,_,_,_,fun i=>bs.getD i false,rfl,Walks.list (zf3 (I.ok.hd hc)) s.heap.objs.size p (y10 hlt) _,⟨⟨_,Heap.get?_push_size _ rfl,rfl,rfl⟩,pl.isList.push _⟩,fun i v s' Q' E' hv hq=>?_,fun h' tk hk=>?_⟩
  ·have hv':(bs.map Value.bool)[i]?=some v:=by simpa using hv
   rw [y06] at hv'
   cases hb:bs[i]? with
   | none=>rw [hb] at hv'; cases hv'
   | some b =>
    rw [hb] at hv'
    cases hv'
    have hq':Q' (bs.getD i false) s':=hq
    rw [y07,hb] at hq'
    exact wpAny_truthy_bool hq'
  ·refine⟨.bl (bs.any id),H,walked I hk,?_,q⟩
   rw [←zfs bs]
   simp [RelV]
 ·exact h.elim
@[reducible] def zpm (K:y03)(xs:List V)(H:Hp)(Q:VK):Prop:=match xs with
 | [.ref p]=>∃ns:List Int,(SqL K H p (ns.map V.int))∧Q (.int ns.sum) H
 | _=>False
theorem z82 (ns:List Int):∀n,n≤ns.length→preSum (fun i=>ns.getD i 0) n=(ns.take n).sum
 | 0,_=>by simp [preSum]
 | n+1,h=>by
  have ih:=z82 ns n (by omega)
  have hn:n<ns.length:=by omega
  have e:ns.take (n+1)=ns.take n ++ [ns[n]]:=(y4w hn).symm
  rw [preSum,ih,y07,y01 hn,e,y20]
  simp
theorem ze9 (ns:List Int):preSum (fun i=>ns.getD i 0) ns.length=ns.sum:=by
 rw [z82 ns _ (y0a _),List.take_length]
theorem zjj (hc:X.calm=true:=by rfl):z44 X (.builtin "sum") (zpm X.K):=by
 intro pins s σ H xs us Q I r h
 unfold zpm at h
 split at h
 ·rename_i p
  obtain⟨ns,hS,q⟩:=h
  obtain⟨u,rfl,ru⟩:=z7a r
  cases ru
  obtain⟨its,rv,pl,hz⟩:=I.list hS
  have hlen:=rv.length
  have hlt:p<s.heap.objs.size:=by
   obtain⟨o,n,e,_⟩:=pl
   exact Heap.lt_size e
  refine call_sum_walkG (wpAny_pyIter_list pl.isList ?_)
  refine⟨s.heap.objs.size,_,_,_,_,_,fun i=>ns.getD i 0,rfl,Walks.list (zf3 (I.ok.hd hc)) s.heap.objs.size p (y10 hlt) _,⟨⟨_,Heap.get?_push_size _ rfl,rfl,rfl⟩,pl.isList.push _⟩,fun b hb=>?_,fun i v hv=>?_,fun h' tk t' hk=>?_⟩
  ·rw [Heap.size_push]
   simp only [y0m,y1c,or_false] at hb
   rcases hb with rfl | rfl
   ·exact y35 _
   ·exact y4v hlt
  ·exact z3g rv (by simpa using hv)
  ·refine⟨.int ns.sum,H,walked I hk,⟨t',?_⟩,q⟩
   have e:its.toArray.size=ns.length:=by simpa using hlen.symm
   rw [e,ze9]
 ·exact h.elim
@[reducible] def zmd (K:y03)(xs:List V)(H:Hp)(Q:VK):Prop:=match xs with
 | [.ref p]=>∃ns:List Int,SqL K H p (ns.map V.int)∧ns ≠ []∧∀z,z∈ns→(∀y∈ns,z≤y)→Q (.int z) H
 | _=>False
theorem z91 (bt:Nat→Nat→Bool):∀k,argBest bt k≤k
 | 0=>y0a _
 | k+1=>by
  have:=z91 bt k
  unfold argBest
  split<;>omega
theorem z5y (ns:List Int):∀k,∀j≤k,ns.getD (argBest (fun i j=>decide (ns.getD i 0<ns.getD j 0)) k) 0≤ns.getD j 0
 | 0,j,h=>by
  have:j=0:=by omega
  subst this
  exact y1u _
 | k+1,j,h=>by
  have ih:=z5y ns k
  unfold argBest
  split
  ·rename_i c
   have c':=of_decide_eq_true c
   by_cases e:j=k+1
   ·subst e; exact y1u _
   ·have:=ih j (by omega)
    omega
  ·rename_i c
   by_cases e:j=k+1
   ·subst e
    have:¬ns.getD (k+1) 0<ns.getD (argBest (fun i j=>decide (ns.getD i 0<ns.getD j 0)) k) 0:=fun z=>c (decide_eq_true z)
    omega
   ·exact ih j (by omega)
theorem zmw (hc:X.calm=true:=by rfl):z44 X (.builtin "min") (zmd X.K):=by
 intro pins s σ H xs us Q I r h
 unfold zmd at h
 split at h
 ·rename_i p
  obtain⟨ns,hS,hne,q⟩:=h
  obtain⟨u,rfl,ru⟩:=z7a r
  cases ru
  obtain⟨its,rv,pl,hz⟩:=I.list hS
  have hlen:=rv.length
  have esz:its.toArray.size=ns.length:=by simpa using hlen.symm
  have hpos:0<ns.length:=y0s.mpr hne
  have hlt:p<s.heap.objs.size:=by
   obtain⟨o,n,e,_⟩:=pl
   exact Heap.lt_size e
  refine call_min_walk (wpAny_pyIter_list pl.isList ?_)
  refine⟨s.heap.objs.size,_,_,_,_,_,fun i j=>decide (ns.getD i 0<ns.getD j 0),rfl,Walks.list (zf3 (I.ok.hd hc)) s.heap.objs.size p (y10 hlt) _,⟨⟨_,Heap.get?_push_size _ rfl,rfl,rfl⟩,pl.isList.push _⟩,fun b hb=>?_,by omega,fun i j vi vj s' Q' E' hi hj hq=>?_,fun v h' tk hv hk=>?_⟩
  ·rw [Heap.size_push]
   simp only [y0m,y1c,or_false] at hb
   rcases hb with rfl | rfl
   ·exact y35 _
   ·exact y4v hlt
  ·obtain⟨t1,rfl⟩:=z3g rv (by simpa using hi)
   obtain⟨t2,rfl⟩:=z3g rv (by simpa using hj)
   exact lt_int hq
  ·have hv':its[argBest (fun i j=>decide (ns.getD i 0<ns.getD j 0)) (its.length - 1)]?=some v:=by simpa using hv
   obtain⟨t,rfl⟩:=z3g rv hv'
   have esz':its.length=ns.length:=by simpa using esz
   rw [esz']
   have hb:=z91 (fun i j=>decide (ns.getD i 0<ns.getD j 0)) (ns.length - 1)
   refine⟨.int _,H,walked I hk,⟨t,rfl⟩,q _ ?_ fun y hy=>?_⟩
   ·rw [y07,y01 (by omega)]
    exact y36 _
   ·obtain⟨j,hj⟩:=y09 hy
    have hjl:=(y00.mp hj).1
    have:=z5y ns (ns.length - 1) j (by omega)
    rw [show ns.getD j 0=y by rw [y07,hj]; rfl] at this
    exact this
 ·exact h.elim
end
end L2.EX
namespace PM
structure Net where
 G:Nat
 nE:Nat
 ends:List (Nat×Nat)
 at':List (List Nat)
structure Net.WF (N:Net):Prop where
 gle:N.G≤N.nE
 len:N.at'.length=N.nE
 lo:∀(k:Nat) p,N.ends[k]?=some p→p.1<N.G∧N.G≤p.2∧p.2<N.nE
 mem:∀(e:Nat) l k,N.at'[e]?=some l→(k∈l↔∃p,N.ends[k]?=some p∧(p.1=e∨p.2=e))
def inc (p:Nat×Nat)(e:Nat):Bool:=decide (p.1=e∨p.2=e)
def load:List (Nat×Nat)→List Int→Nat→Int
 | p::r,s::q,e=>(if inc p e then s else 0)+load r q e
 | _,_,_=>0
theorem zd5:∀{ends:List (Nat×Nat)} {sent:List Int} {k:Nat} {v s:Int} {p:Nat×Nat} {e:Nat},ends[k]?=some p→sent[k]?=some s→load ends (sent.set k v) e=load ends sent e+(if inc p e then v - s else 0)
 | [],_,_,_,_,_,_,h,_=>by simp at h
 | _::_,[],_,_,_,_,_,_,h=>by simp at h
 | p::r,s::q,0,v,s',p',e,h1,h2=>by
  simp at h1 h2
  subst h1 h2
  simp only [y3n,load]
  split<;>omega
 | p::r,s::q,k+1,v,s',p',e,h1,h2=>by
  have ih:=zd5 (ends:=r) (sent:=q) (k:=k) (v:=v) (s:=s') (p:=p') (e:=e) (by simpa using h1) (by simpa using h2)
  simp only [y3o,load,ih]
  omega
def addAll (a:Int)(sent:List Int)(l:List Nat):List Int:=l.foldl (fun s k=>s.set k (s.getD k 0+a)) sent
theorem addAll_len (a:Int):∀(l:List Nat) (sent:List Int),(addAll a sent l).length=sent.length
 | [],_=>rfl
 | k::r,sent=>by
  show(addAll a (sent.set k _) r).length=_
  rw [addAll_len a r,y22]
def z38 (ends:List (Nat×Nat))(e:Nat):List Nat→Int
 | []=>0
 | k::r=>(match ends[k]? with | some p=>if inc p e then 1 else 0 | none=>0)+z38 ends e r
theorem z52 {ends:List (Nat×Nat)}{a:Int}{e:Nat}:∀{l:List Nat} {sent:List Int},sent.length=ends.length→(∀k∈l,k<ends.length)→load ends (addAll a sent l) e=load ends sent e+a*z38 ends e l
 | [],sent,_,_=>by simp [addAll,z38]
 | k::r,sent,hl,hk=>by
  have hk0:k<ends.length:=hk k y0d
  have hs:sent[k]?=some (sent[k]'(by omega)):=y01 (by omega)
  have hp:ends[k]?=some ends[k]:=y01 hk0
  have ih:=z52 (ends:=ends) (a:=a) (e:=e) (l:=r) (sent:=sent.set k (sent.getD k 0+a)) (by simpa using hl) (fun j hj=>hk j (y0c _ hj))
  show load ends (addAll a (sent.set k (sent.getD k 0+a)) r) e=_
  rw [ih,zd5 hp hs,z38,hp]
  have hg:sent.getD k 0=sent[k]'(by omega):=by simp [y1k,hs]
  rw [hg]
  by_cases hc:inc ends[k] e=true
  ·simp only [hc,if_true,y54,y3u]; omega
  ·simp only [hc,if_false,y54,Int.mul_zero]; simp
theorem z5o {a:Int}:∀{l:List Nat} {sent:List Int} {k:Nat} {s:Int},sent[k]?=some s→(addAll a sent l)[k]?=some (s+a*(l.count k:Int))
 | [],sent,k,s,h=>by simp [addAll,h]
 | j::r,sent,k,s,h=>by
  have hk:k<sent.length:=(y00.mp h).1
  show(addAll a (sent.set j (sent.getD j 0+a)) r)[k]?=_
  by_cases e:j=k
  ·subst e
   have h':(sent.set j (sent.getD j 0+a))[j]?=some (s+a):=by
    rw [y0t hk]; simp [y1k,h]
   rw [z5o h',List.count_cons_self]
   push_cast
   rw [y54]
   simp; omega
  ·have h':(sent.set j (sent.getD j 0+a))[k]?=some s:=by rw [y11 e]; exact h
   rw [z5o h',List.count_cons_of_ne (by simpa using e)]
def alt {α:Type}:Bool→List α→List α
 | _,[]=>[]
 | true,x::r=>x::alt false r
 | false,_::r=>alt true r
theorem alt_mem {α:Type}{x:α}:∀{b:Bool} {l:List α},x∈alt b l→x∈l
 | _,[],h=>by cases ‹Bool›<;>simp [alt] at h
 | true,y::r,h=>by
  rcases y0m.mp h with rfl | h
  ·exact y0d
  ·exact y0c _ (alt_mem h)
 | false,y::r,h=>y0c _ (alt_mem (b:=true) h)
theorem zcj {α:Type}{x:α}:∀{b:Bool} {l:List α},x∈alt b l→∃i,l[i]?=some x∧i % 2=(if b then 0 else 1)
 | b,[],h=>by cases b<;>simp [alt] at h
 | true,y::r,h=>by
  rcases y0m.mp h with rfl | h
  ·exact⟨0,rfl,rfl⟩
  ·obtain⟨i,h1,h2⟩:=zcj (b:=false) h
   exact⟨i+1,by simpa using h1,by simp at h2 ⊢; omega⟩
 | false,y::r,h=>by
  obtain⟨i,h1,h2⟩:=zcj (b:=true) h
  exact⟨i+1,by simpa using h1,by simp at h2 ⊢; omega⟩
theorem zga {l:List Nat}(hn:l.Nodup)(b:Bool)(k:Nat):(alt b l).count k≤1:=by
 have hs:∀(b:Bool) (l:List Nat),(alt b l).Sublist l:=by
  intro b l
  induction l generalizing b with
  | nil=>cases b<;>simp [alt]
  | cons x r ih =>
   cases b
   ·exact List.Sublist.cons _ (ih true)
   ·exact List.Sublist.cons_cons _ (ih false)
 exact y4a.mp (hn.sublist (hs b l)) k
def Tie (N:Net)(a k b:Nat):Prop:=∃p,N.ends[k]?=some p∧((p.1=a∧p.2=b)∨(p.2=a∧p.1=b))
def zkc (N:Net):Nat→List Nat→Nat→Prop
 | e,[],f=>e=f
 | e,k::r,f=>∃b,Tie N e k b∧zkc N b r f
def one (c:Prop) [Decidable c]:Int:=if c then 1 else 0
theorem zlc {N:Net}(W:N.WF){a k b x:Nat}(h:Tie N a k b):(match N.ends[k]? with | some p=>if inc p x then (1:Int) else 0 | none=>0)=one (x=a)+one (x=b):=by
 obtain⟨p,e,h⟩:=h
 have hw:=W.lo k p e
 rw [e]
 simp only [inc,one,decide_eq_true_eq]
 rcases h with ⟨rfl,rfl⟩ | ⟨rfl,rfl⟩
 ·by_cases h1:p.1=x<;>by_cases h2:p.2=x<;>simp [h1,h2,eq_comm]<;>omega
 ·by_cases h1:p.1=x<;>by_cases h2:p.2=x<;>simp [h1,h2,eq_comm]<;>omega
theorem z7r {N:Net}(W:N.WF){f x:Nat}:∀{way:List Nat} {e:Nat},zkc N e way f→z38 N.ends x (alt true way) - z38 N.ends x (alt false way)=one (x=e)+(if way.length % 2=0 then - one (x=f) else one (x=f))
 | [],e,h=>by
  have h':e=f:=h
  subst h'
  simp [alt,z38]; omega
 | k::r,e,h=>by
  obtain⟨b,t,c⟩:=h
  have ih:=z7r W (x:=x) c
  have hi:=zlc W (x:=x) t
  show((match N.ends[k]? with | some p=>if inc p x then (1:Int) else 0 | none=>0)+z38 N.ends x (alt false r)) - z38 N.ends x (alt true r)=_
  rw [hi]
  simp only [y1b]
  by_cases hp:r.length % 2=0
  ·rw [if_pos hp] at ih
   rw [if_neg (by omega)]
   omega
  ·rw [if_neg hp] at ih
   rw [if_pos (by omega)]
   omega
structure Flow (N:Net)(cap sent spare:List Int):Prop where
 ls:sent.length=N.ends.length
 lc:cap.length=N.nE
 lp:spare.length=N.nE
 nn:∀(k:Nat) s,sent[k]?=some s→0≤s
 eq:∀(e:Nat) c s,cap[e]?=some c→spare[e]?=some s→s=c - load N.ends sent e
 sp:∀(e:Nat) s,spare[e]?=some s→0≤s
def Go (N:Net)(sent:List Int)(a k:Nat):Prop:=a<N.G∨∃s,sent[k]?=some s∧0<s
def Lv (steps:List Int)(e:Nat):Int:=steps.getD e (-1)
structure Path (N:Net)(steps sent:List Int)(es way:List Nat):Prop where
 len:es.length=way.length+1
 link:∀(i:Nat) k,way[i]?=some k→∃a b,es[i]?=some a∧es[i+1]?=some b∧Tie N a k b∧Go N sent a k∧Lv steps b=Lv steps a+1
theorem zd0 {N:Net}:∀{way es:List Nat} {g f:Nat},es.length=way.length+1→es[0]?=some g→es[way.length]?=some f→(∀(i:Nat) k,way[i]?=some k→∃a b,es[i]?=some a∧es[i+1]?=some b∧Tie N a k b)→zkc N g way f
 | [],es,g,f,_,h0,h1,_=>by
  have h1':es[0]?=some f:=h1
  rw [h0] at h1'
  exact y12 h1'
 | k::r,[],g,f,hl,_,_,_=>by simp at hl
 | k::r,e::es,g,f,hl,h0,h1,h=>by
  obtain⟨a,b,ea,eb,t⟩:=h 0 k rfl
  have e1:e=g:=by simpa using h0
  have e2:e=a:=by simpa using ea
  subst e1 e2
  refine⟨b,t,zd0 (es:=es) (by simpa using hl) (by simpa using eb) (by simpa using h1) fun i k' hk=>?_⟩
  obtain⟨a',b',ea',eb',t'⟩:=h (i+1) k' (by simpa using hk)
  exact⟨a',b',by simpa using ea',by simpa using eb',t'⟩
theorem Path.lev {N:Net}{steps sent:List Int}{es way:List Nat}(P:Path N steps sent es way){g:Nat}(h0:es[0]?=some g):∀{i e:Nat},es[i]?=some e→Lv steps e=Lv steps g+i
 | 0,e,h=>by
  rw [h0] at h
  cases h
  simp
 | i+1,e,h=>by
  have hi:i+1<es.length:=(y00.mp h).1
  have hw:i<way.length:=by have:=P.len; omega
  obtain⟨a,b,ea,eb,_,_,hl⟩:=P.link i way[i] (y01 hw)
  rw [h] at eb
  cases eb
  have:=P.lev h0 ea
  rw [hl,this]
  push_cast
  omega
theorem Tie.side {N:Net}(W:N.WF){a k b:Nat}(t:Tie N a k b):(a<N.G↔¬b<N.G):=by
 obtain⟨p,e,h⟩:=t
 have:=W.lo k p e
 rcases h with ⟨rfl,rfl⟩ | ⟨rfl,rfl⟩<;>omega
theorem Path.side {N:Net}(W:N.WF){steps sent:List Int}{es way:List Nat}(P:Path N steps sent es way){g:Nat}(h0:es[0]?=some g)(hg:g<N.G):∀{i e:Nat},es[i]?=some e→(e<N.G↔i % 2=0)
 | 0,e,h=>by
  rw [h0] at h
  cases h
  simp [hg]
 | i+1,e,h=>by
  have hi:i+1<es.length:=(y00.mp h).1
  have hw:i<way.length:=by have:=P.len; omega
  obtain⟨a,b,ea,eb,t,_,_⟩:=P.link i way[i] (y01 hw)
  rw [h] at eb
  cases eb
  have h1:=P.side W h0 hg ea
  have h2:=t.side W
  by_cases ha:a<N.G
  ·have:¬e<N.G:=h2.mp ha
   have:i % 2=0:=h1.mp ha
   constructor<;>intro q<;>omega
  ·have q1:e<N.G:=Classical.byContradiction fun z=>ha (h2.mpr z)
   have q2:¬i % 2=0:=fun z=>ha (h1.mpr z)
   constructor
   ·intro _; omega
   ·intro _; exact q1
theorem Path.nodup {N:Net}{steps sent:List Int}{es way:List Nat}(P:Path N steps sent es way):way.Nodup:=by
 cases h0:es[0]? with
 | none =>
  have:=P.len
  rw [y3j] at h0
  omega
 | some g =>
  rw [List.Nodup,y23]
  intro i j hi hj hij e
  obtain⟨a,b,ea,eb,⟨p,ep,hp⟩,_,l1⟩:=P.link i way[i] (y01 hi)
  obtain⟨c,d,ec,ed,⟨q,eq,hq⟩,_,l2⟩:=P.link j way[j] (y01 hj)
  rw [←e,ep] at eq
  cases eq
  have v1:=P.lev h0 ea
  have v2:=P.lev h0 ec
  rcases hp with ⟨rfl,rfl⟩ | ⟨rfl,rfl⟩<;>rcases hq with ⟨rfl,rfl⟩ | ⟨rfl,rfl⟩<;>omega
theorem Path.lt {N:Net}{steps sent:List Int}{es way:List Nat}(P:Path N steps sent es way){k:Nat}(h:k∈way):k<N.ends.length:=by
 obtain⟨i,hi⟩:=y09 h
 obtain⟨a,b,_,_,⟨p,ep,_⟩,_,_⟩:=P.link i k hi
 exact(y00.mp ep).1
def sendBy (a:Int)(sent:List Int)(way:List Nat):List Int:=addAll (-a) (addAll a sent (alt true way)) (alt false way)
theorem send_len (a:Int)(sent:List Int)(way:List Nat):(sendBy a sent way).length=sent.length:=by
 unfold sendBy; rw [addAll_len,addAll_len]
theorem zgi {N:Net}(W:N.WF){steps sent:List Int}{es way:List Nat}(P:Path N steps sent es way){g f:Nat}{a:Int}(h0:es[0]?=some g)(h1:es[way.length]?=some f)(hg:g<N.G)(hf:¬f<N.G)(hl:sent.length=N.ends.length)(x:Nat) :
  load N.ends (sendBy a sent way) x=load N.ends sent x+a*(one (x=g)+one (x=f)):=by
 have c:=zd0 P.len h0 h1 fun i k hk=>let ⟨a,b,e1,e2,t,_⟩:=P.link i k hk; ⟨a,b,e1,e2,t⟩
 have d:=z7r W (x:=x) c
 have hodd:way.length % 2=1:=by
  have:=P.side W h0 hg h1
  have:¬way.length % 2=0:=fun z=>hf (this.mpr z)
  omega
 rw [if_neg (by omega)] at d
 unfold sendBy
 rw [z52 (by rw [addAll_len]; exact hl) (fun k hk=>P.lt (alt_mem hk)),z52 hl (fun k hk=>P.lt (alt_mem hk))]
 rw [←d,Int.mul_sub,y55]
 omega
theorem zes {a:Int}{sent:List Int}{way:List Nat}{k:Nat}{s:Int}(h:sent[k]?=some s):(sendBy a sent way)[k]?=some (s+a*((alt true way).count k:Int) - a*((alt false way).count k:Int)):=by
 unfold sendBy
 rw [z5o (z5o h),y55]
 rfl
theorem Flow.send {N:Net}(W:N.WF){cap steps sent spare:List Int}{es way:List Nat}(F:Flow N cap sent spare)(P:Path N steps sent es way){g f:Nat}{a x y:Int}(h0:es[0]?=some g)(h1:es[way.length]?=some f)(hg:g<N.G)(hf:¬f<N.G)
  (hx:spare[g]?=some x) (hy:spare[f]?=some y) (ha:0≤a) (hax:a≤x) (hay:a≤y) (hb:∀k∈alt false way,∀s,sent[k]?=some s→a≤s):Flow N cap (sendBy a sent way) ((spare.set g (x - a)).set f (y - a)):=by
 have hne:g≠f:=by omega
 have hgl:g<spare.length:=(y00.mp hx).1
 have hfl:f<spare.length:=(y00.mp hy).1
 refine⟨by rw [send_len]; exact F.ls,F.lc,by simpa using F.lp,fun k s' h=>?_,fun e c s' hc h=>?_,fun e s' h=>?_⟩
 ·have hk:k<sent.length:=by
   have:=(y00.mp h).1
   rw [send_len] at this
   exact this
  have hs:sent[k]?=some sent[k]:=y01 hk
  rw [zes hs] at h
  cases h
  have n0:=F.nn k _ hs
  have c1:(0:Int)≤a*((alt true way).count k:Int):=y2j ha (y64 _)
  by_cases hm:k∈alt false way
  ·have hq:=hb k hm _ hs
   have h2:=zga P.nodup false k
   have c2:a*((alt false way).count k:Int)≤a*1:=y1v (by omega) ha
   omega
  ·have z:(alt false way).count k=0:=y65.mpr hm
   rw [z]
   simp
   omega
 ·rw [zgi W P h0 h1 hg hf F.ls]
  by_cases e1:e=f
  ·subst e1
   rw [y0t (by simpa using hfl)] at h
   cases h
   have:=F.eq e c y hc hy
   simp [one,Ne.symm hne]
   omega
  ·rw [y11 (Ne.symm e1)] at h
   by_cases e2:e=g
   ·subst e2
    rw [y0t hgl] at h
    cases h
    have:=F.eq e c x hc hx
    simp [one,hne]
    omega
   ·rw [y11 (Ne.symm e2)] at h
    have:=F.eq e c s' hc h
    simp [one,e1,e2]
    omega
 ·by_cases e1:e=f
  ·subst e1
   rw [y0t (by simpa using hfl)] at h
   cases h
   omega
  ·rw [y11 (Ne.symm e1)] at h
   by_cases e2:e=g
   ·subst e2
    rw [y0t hgl] at h
    cases h
    omega
   ·rw [y11 (Ne.symm e2)] at h
    exact F.sp e s' h
structure Steps (N:Net)(sent spare steps:List Int):Prop where
 len:steps.length=N.nE
 zero:∀e,Lv steps e=0→e<N.G∧∃x,spare[e]?=some x∧0<x
 src:∀(g:Nat) x,g<N.G→spare[g]?=some x→0<x→Lv steps g=0
 pred:∀e,1≤Lv steps e→∃a k,Tie N a k e∧Go N sent a k∧Lv steps a+1=Lv steps e
def Room (N:Net)(spare:List Int)(e:Nat):Prop:=N.G≤e∧∃x,spare[e]?=some x∧0<x
def zme (N:Net)(sent steps:List Int):Prop:=∀a k b,Tie N a k b→Go N sent a k→0≤Lv steps a→0≤Lv steps b
def Leads (N:Net)(sent steps:List Int)(a k b:Nat):Prop:=Tie N a k b∧Go N sent a k∧Lv steps b=Lv steps a+1
def Exh (N:Net)(spare tried:List Int)(e:Nat):Prop:=¬Room N spare e∧∃l,N.at'[e]?=some l∧tried[e]?=some (l.length:Int)
def Dead (N:Net)(sent spare steps tried:List Int):Prop:=∀(e:Nat) l (j:Nat) k t,N.at'[e]?=some l→l[j]?=some k→tried[e]?=some t→(j:Int)<t→∀b,Leads N sent steps e k b→Exh N spare tried b
theorem Tie.mem {N:Net}(W:N.WF){a k b:Nat}{l:List Nat}(t:Tie N a k b)(h:N.at'[a]?=some l):k∈l:=by
 obtain⟨p,e,q⟩:=t
 refine(W.mem a l k h).mpr ⟨p,e,?_⟩
 rcases q with ⟨q,_⟩ | ⟨q,_⟩
 ·exact .inl q
 ·exact .inr q
theorem Dead.next {N:Net}(W:N.WF){sent spare steps tried:List Int}(D:Dead N sent spare steps tried){a k b:Nat}(x:Exh N spare tried a)(h:Leads N sent steps a k b):Exh N spare tried b:=by
 obtain⟨_,l,h1,h2⟩:=x
 have hm:=h.1.mem W h1
 obtain⟨j,hj⟩:=y09 hm
 have hjl:j<l.length:=(y00.mp hj).1
 exact D a l j k _ h1 hj h2 (by omega) b h
theorem Dead.all {N:Net}(W:N.WF){sent spare steps tried:List Int}(S:Steps N sent spare steps)(D:Dead N sent spare steps tried)(h:∀g,Lv steps g=0→Exh N spare tried g):∀(d:Nat) e,Lv steps e=d→Exh N spare tried e
 | 0,e,he=>h e (by simpa using he)
 | d+1,e,he=>by
  obtain⟨a,k,t,g,l⟩:=S.pred e (by rw [he]; push_cast; omega)
  have ha:Lv steps a=d:=by push_cast at he; omega
  exact D.next W (Dead.all W S D h d a ha) ⟨t,g,by omega⟩
theorem Steps.least {N:Net}{sent spare steps:List Int}(S:Steps N sent spare steps)(T:Nat→Prop)(h1:∀(g:Nat) x,g<N.G→spare[g]?=some x→0<x→T g)(h2:∀a k b,Tie N a k b→Go N sent a k→T a→T b):∀(d:Nat) e,Lv steps e=d→T e
 | 0,e,he=>by
  obtain⟨hg,x,hx,h0⟩:=S.zero e (by simpa using he)
  exact h1 e x hg hx h0
 | d+1,e,he=>by
  obtain⟨a,k,t,g,l⟩:=S.pred e (by rw [he]; push_cast; omega)
  exact h2 a k e t g (Steps.least S T h1 h2 d a (by push_cast at he; omega))
theorem Tie.symm {N:Net}{a k b:Nat}(t:Tie N a k b):Tie N b k a:=by
 obtain⟨p,e,h⟩:=t
 exact⟨p,e,h.symm.imp (fun z=>⟨z.2,z.1⟩) (fun z=>⟨z.2,z.1⟩)⟩
structure Rows (N:Net)(sent spare:List Int)(d:Nat)(row:List Nat)(steps:List Int):Prop where
 st:Steps N sent spare steps
 row:∀e,e∈row↔Lv steps e=d
 top:∀e,Lv steps e≤d
 exp:∀a k b,Tie N a k b→Go N sent a k→0≤Lv steps a→Lv steps a<d→0≤Lv steps b
 dry:∀e,0≤Lv steps e→Lv steps e<d→¬Room N spare e
structure Behind (N:Net)(sent:List Int)(d:Nat)(row:List Nat)(steps0:List Int)(done:Nat→Nat→Prop)(steps:List Int)(behind:List Nat):Prop where
 len:steps.length=steps0.length
 old:∀e,0≤Lv steps0 e→Lv steps e=Lv steps0 e
 new:∀e,Lv steps0 e<0→(Lv steps e=d+1∧e∈behind∧∃a k,a∈row∧Tie N a k e∧Go N sent a k)∨(Lv steps e<0∧e ∉ behind)
 beh:∀e∈behind,Lv steps0 e<0
 cl:∀a k b,done a k→Tie N a k b→Go N sent a k→0≤Lv steps b
theorem lv_set {steps:List Int}{i e:Nat}{v:Int}(h:i<steps.length):Lv (steps.set i v) e=if e=i then v else Lv steps e:=by
 unfold Lv
 rw [y07,y07]
 by_cases he:e=i
 ·subst he
  rw [y0t h,if_pos rfl]; rfl
 ·rw [y11 (Ne.symm he),if_neg he]
theorem Behind.start {N:Net}{sent:List Int}{d:Nat}{row:List Nat}{steps0:List Int}:Behind N sent d row steps0 (fun _ _=>False) steps0 [] :=
 ⟨rfl,fun _ _=>rfl,fun e h=>.inr ⟨h,by simp⟩,fun e h=>by simp at h,fun _ _ _ h=>h.elim⟩
theorem Behind.weak {N:Net}{sent:List Int}{d:Nat}{row:List Nat}{steps0 steps:List Int}{behind:List Nat}{P Q:Nat→Nat→Prop}(B:Behind N sent d row steps0 P steps behind)(h:∀a k,Q a k→P a k):Behind N sent d row steps0 Q steps behind :=
 ⟨B.len,B.old,B.new,B.beh,fun a k b q=>B.cl a k b (h a k q)⟩
theorem Behind.skip {N:Net}(W:N.WF){sent:List Int}{d:Nat}{row:List Nat}{steps0 steps:List Int}{behind:List Nat}{P:Nat→Nat→Prop}{a k b:Nat}(B:Behind N sent d row steps0 P steps behind)(t:Tie N a k b)(h:0≤Lv steps b∨¬Go N sent a k) :
  Behind N sent d row steps0 (fun x y=>P x y∨(x=a∧y=k)) steps behind:=by
 refine⟨B.len,B.old,B.new,B.beh,fun x y z q t' g=>?_⟩
 rcases q with q | ⟨rfl,rfl⟩
 ·exact B.cl x y z q t' g
 ·have e:z=b:=by
   obtain⟨p,e1,h1⟩:=t
   obtain⟨p',e2,h2⟩:=t'
   rw [e1] at e2
   cases e2
   have:=W.lo y p e1
   rcases h1 with ⟨h1,h1'⟩ | ⟨h1,h1'⟩<;>rcases h2 with ⟨h2,h2'⟩ | ⟨h2,h2'⟩<;>omega
  subst e
  rcases h with h | h
  ·exact h
  ·exact absurd g h
theorem Behind.mark {N:Net}(W:N.WF){sent:List Int}{d:Nat}{row:List Nat}{steps0 steps:List Int}{behind:List Nat}{P:Nat→Nat→Prop}{a k b:Nat}(B:Behind N sent d row steps0 P steps behind)(t:Tie N a k b)(g:Go N sent a k)(ha:a∈row)(hb:Lv steps b<0)(hl:b<steps.length) :
  Behind N sent d row steps0 (fun x y=>P x y∨(x=a∧y=k)) (steps.set b (d+1)) (behind ++ [b]):=by
 have hb0:Lv steps0 b<0:=by
  rcases y2k (Lv steps0 b) 0 with z | z
  ·exact z
  ·have:=B.old b z
   omega
 refine⟨by simpa using B.len,fun e he=>?_,fun e he=>?_,fun e he=>?_,fun x y z q t' g'=>?_⟩
 ·rw [lv_set hl,if_neg (by rintro rfl; omega)]
  exact B.old e he
 ·rw [lv_set hl]
  by_cases e1:e=b
  ·subst e1
   rw [if_pos rfl]
   exact .inl ⟨rfl,by simp,a,k,ha,t,g⟩
  ·rw [if_neg e1]
   rcases B.new e he with ⟨h1,h2,h3⟩ | ⟨h1,h2⟩
   ·exact .inl ⟨h1,by simp [h2],h3⟩
   ·exact .inr ⟨h1,by simp [h2,e1]⟩
 ·rcases y13.mp he with he | he
  ·exact B.beh e he
  ·have:e=b:=by simpa using he
   subst this
   exact hb0
 ·rw [lv_set hl]
  split
  ·omega
  ·rename_i hz
   rcases q with q | ⟨rfl,rfl⟩
   ·exact B.cl x y z q t' g'
   ·exfalso
    apply hz
    obtain⟨p,e1,h1⟩:=t
    obtain⟨p',e2,h2⟩:=t'
    rw [e1] at e2
    cases e2
    have:=W.lo y p e1
    rcases h1 with ⟨h1,h1'⟩ | ⟨h1,h1'⟩<;>rcases h2 with ⟨h2,h2'⟩ | ⟨h2,h2'⟩<;>omega
theorem Rows.next {N:Net}{sent spare:List Int}{d:Nat}{row:List Nat}{steps0 steps:List Int}{behind:List Nat}(R:Rows N sent spare d row steps0)(B:Behind N sent d row steps0 (fun a _=>a∈row) steps behind)(hd:∀e∈row,¬Room N spare e):Rows N sent spare (d+1) behind steps:=by
 have up:∀e,0≤Lv steps e→0≤Lv steps0 e∨(Lv steps e=d+1∧e∈behind∧∃a k,a∈row∧Tie N a k e∧Go N sent a k):=fun e he=>by
  rcases y2k (Lv steps0 e) 0 with z | z
  ·rcases B.new e z with h | ⟨h,_⟩
   ·exact .inr h
   ·omega
  ·exact .inl z
 refine⟨⟨by rw [B.len]; exact R.st.len,fun e he=>?_,fun g x hg hx h0=>?_,fun e he=>?_⟩,fun e=>⟨fun he=>?_,fun he=>?_⟩,fun e=>?_,fun a k b t g h0 h1=>?_,fun e h0 h1=>?_⟩
 ·rcases up e (by omega) with z | ⟨z,_⟩
  ·exact R.st.zero e (by rw [←B.old e z]; exact he)
  ·omega
 ·have:=R.st.src g x hg hx h0
  rw [B.old g (by omega)]
  exact this
 ·rcases up e (by omega) with z | ⟨z,_,a,k,ha,t,g⟩
  ·obtain⟨a,k,t,g,l⟩:=R.st.pred e (by rw [←B.old e z]; exact he)
   have h1:=B.old e z
   have h2:=B.old a (by omega)
   exact⟨a,k,t,g,by omega⟩
  ·have h1:=(R.row a).mp ha
   have h2:=B.old a (by omega)
   exact⟨a,k,t,g,by omega⟩
 ·rcases B.new e (B.beh e he) with ⟨h,_⟩ | ⟨_,h⟩
  ·push_cast; exact h
  ·exact absurd he h
 ·push_cast at he
  rcases up e (by omega) with z | ⟨_,z,_⟩
  ·have:=B.old e z
   have:=R.top e
   omega
  ·exact z
 ·rcases y2k (Lv steps e) 0 with z | z
  ·omega
  ·rcases up e z with z' | ⟨z',_⟩
   ·have:=B.old e z'
    have:=R.top e
    push_cast; omega
   ·push_cast; omega
 ·push_cast at h1
  rcases up a h0 with z | ⟨z,_⟩
  ·have h2:=B.old a z
   rcases y2k (Lv steps a) d with h3 | h3
   ·have:=R.exp a k b t g z (by omega)
    have:=B.old b this
    omega
   ·exact B.cl a k b ((R.row a).mpr (by omega)) t g
  ·omega
 ·push_cast at h1
  rcases up e h0 with z | ⟨z,_⟩
  ·have h2:=B.old e z
   rcases y2k (Lv steps e) d with h3 | h3
   ·exact R.dry e z (by omega)
   ·exact hd e ((R.row e).mpr (by omega))
  ·omega
def unr (steps:List Int):Nat:=steps.countP fun s=>decide (s<0)
end PM
set_option linter.all false
namespace PM
structure Tr (N:Net)(tried:List Int):Prop where
 len:tried.length=N.nE
 ok:∀(e:Nat) l t,N.at'[e]?=some l→tried[e]?=some t→0≤t∧t≤l.length
theorem set_at {l:List Int}{e b:Nat}{v:Int}(h:b≠e):(l.set e v)[b]?=l[b]?:=y11 (Ne.symm h)
theorem Exh.keep {N:Net}{spare tried:List Int}{e b:Nat}{l:List Nat}{t v:Int}(x:Exh N spare tried b)(h1:N.at'[e]?=some l)(h2:tried[e]?=some t)(h3:t<l.length):Exh N spare (tried.set e v) b:=by
 obtain⟨n,l',h4,h5⟩:=x
 refine⟨n,l',h4,?_⟩
 have hne:b≠e:=by
  rintro rfl
  rw [h1] at h4
  cases h4
  rw [h2] at h5
  cases h5
  omega
 rw [set_at hne]
 exact h5
theorem Dead.step {N:Net}{sent spare steps tried:List Int}(D:Dead N sent spare steps tried){e:Nat}{l:List Nat}{t k:Nat}(h1:N.at'[e]?=some l)(h2:tried[e]?=some (t:Int))(h3:l[t]?=some k)
  (h:∀b,Leads N sent steps e k b→Exh N spare tried b):Dead N sent spare steps (tried.set e ((t:Int)+1)):=by
 have hl:t<l.length:=(y00.mp h3).1
 have he:e<tried.length:=(y00.mp h2).1
 intro e' l' j k' t' g1 g2 g3 g4 b L
 have kp:Exh N spare tried b→Exh N spare (tried.set e ((t:Int)+1)) b:=fun x=>x.keep h1 h2 (by omega)
 by_cases q:e'=e
 ·subst q
  rw [h1] at g1
  cases g1
  rw [y0t he] at g3
  cases g3
  by_cases q:j=t
  ·subst q
   rw [h3] at g2
   cases g2
   exact kp (h b L)
  ·exact kp (D e' l j k' t h1 g2 h2 (by omega) b L)
 ·rw [set_at q] at g3
  exact kp (D e' l' j k' t' g1 g2 g3 g4 b L)
theorem Tr.step {N:Net}{tried:List Int}(T:Tr N tried){e:Nat}{l:List Nat}{t:Nat}(h1:N.at'[e]?=some l)(h2:tried[e]?=some (t:Int))(h3:t<l.length):Tr N (tried.set e ((t:Int)+1)):=by
 have he:e<tried.length:=(y00.mp h2).1
 refine⟨by simpa using T.len,fun e' l' t' g1 g2=>?_⟩
 by_cases q:e'=e
 ·subst q
  rw [h1] at g1
  cases g1
  rw [y0t he] at g2
  cases g2
  constructor<;>omega
 ·rw [set_at q] at g2
  exact T.ok e' l' t' g1 g2
def pot:List (List Nat)→List Int→Nat
 | l::r,t::q=>(l.length - t.toNat)+pot r q
 | _,_=>0
theorem pot_step:∀{at':List (List Nat)} {tried:List Int} {e:Nat} {l:List Nat} {t:Nat},at'[e]?=some l→tried[e]?=some (t:Int)→t<l.length→pot at' (tried.set e ((t:Int)+1))+1=pot at' tried
 | [],_,_,_,_,h,_,_=>by simp at h
 | _::_,[],_,_,_,_,h,_=>by simp at h
 | l::r,x::q,0,l',t,h1,h2,h3=>by
  simp at h1 h2
  subst h1 h2
  simp only [y3n,pot]
  omega
 | l::r,x::q,e+1,l',t,h1,h2,h3=>by
  have ih:=pot_step (at':=r) (tried:=q) (e:=e) (l:=l') (t:=t) (by simpa using h1) (by simpa using h2) h3
  simp only [y3o,pot]
  omega
theorem lv_top:∀(steps:List Int),∃B:Nat,∀e,Lv steps e≤B
 | []=>⟨0,fun e=>by simp [Lv]⟩
 | x::r=>by
  obtain⟨B,h⟩:=lv_top r
  refine⟨B+x.toNat,fun e=>?_⟩
  cases e with
  | zero=>simp [Lv]; omega
  | succ e =>
   have:=h e
   simp [Lv] at this ⊢
   omega
structure Walk (N:Net)(sent spare steps:List Int)(g:Nat)(tried:List Int)(es way:List Nat):Prop where
 tr:Tr N tried
 dead:Dead N sent spare steps tried
 path:es ≠ []→Path N steps sent es way∧es[0]?=some g
 none:es = []→way = []∧Exh N spare tried g
 on:∀(i:Nat) k e,way[i]?=some k→es[i]?=some e→¬Room N spare e∧∃l t,N.at'[e]?=some l∧tried[e]?=some ((t:Nat):Int)∧l[t]?=some k
theorem Tie.uniq {N:Net}(W:N.WF){a k b c:Nat}(t:Tie N a k b)(t':Tie N a k c):b=c:=by
 obtain⟨p,e1,h1⟩:=t
 obtain⟨p',e2,h2⟩:=t'
 rw [e1] at e2
 cases e2
 have:=W.lo k p e1
 rcases h1 with ⟨h1,h1'⟩ | ⟨h1,h1'⟩<;>rcases h2 with ⟨h2,h2'⟩ | ⟨h2,h2'⟩<;>omega
theorem Path.inj {N:Net}{steps sent:List Int}{es way:List Nat}(P:Path N steps sent es way){g:Nat}(h0:es[0]?=some g){i j e:Nat}(h1:es[i]?=some e)(h2:es[j]?=some e):i=j:=by
 have a:=P.lev h0 h1
 have b:=P.lev h0 h2
 omega
theorem Walk.skip {N:Net}{sent spare steps tried:List Int}{g:Nat}{es way:List Nat}(w:Walk N sent spare steps g tried es way){e:Nat}{l:List Nat}{t k:Nat}(he:es.getLast?=some e)(h1:N.at'[e]?=some l)(h2:tried[e]?=some (t:Int))(h3:l[t]?=some k)
  (h:∀b,¬Leads N sent steps e k b):Walk N sent spare steps g (tried.set e ((t:Int)+1)) es way:=by
 have hl:t<l.length:=(y00.mp h3).1
 have hne:es ≠ []:=by
  rintro rfl
  simp at he
 obtain⟨P,h0⟩:=w.path hne
 refine⟨w.tr.step h1 h2 hl,w.dead.step h1 h2 h3 fun b L=>absurd L (h b),w.path,fun q=>absurd q hne,fun i k' e' hk hi=>?_⟩
 obtain⟨n,l',t',g1,g2,g3⟩:=w.on i k' e' hk hi
 refine⟨n,l',t',g1,?_,g3⟩
 have hw:i<way.length:=(y00.mp hk).1
 have hlast:es[way.length]?=some e:=by
  rw [y19] at he
  have:=P.len
  rw [show es.length - 1=way.length by omega] at he
  exact he
 rw [set_at (by rintro rfl; have:=P.inj h0 hi hlast; omega)]
 exact g2
theorem Walk.push {N:Net}{sent spare steps tried:List Int}{g:Nat}{es way:List Nat}(w:Walk N sent spare steps g tried es way){e b:Nat}{l:List Nat}{t k:Nat}(he:es.getLast?=some e)(h1:N.at'[e]?=some l)(h2:tried[e]?=some (t:Int))(h3:l[t]?=some k)
  (h:Leads N sent steps e k b) (hr:¬Room N spare e):Walk N sent spare steps g tried (es ++ [b]) (way ++ [k]):=by
 have hne:es ≠ []:=by
  rintro rfl
  simp at he
 obtain⟨P,h0⟩:=w.path hne
 have hlast:es[way.length]?=some e:=by
  rw [y19] at he
  have:=P.len
  rw [show es.length - 1=way.length by omega] at he
  exact he
 have hpos:0<es.length:=y0s.mpr hne
 refine⟨w.tr,w.dead,fun _=>⟨⟨by simp [P.len],fun i k' hk=>?_⟩,?_⟩,fun q=>absurd q (by simp),fun i k' e' hk hi=>?_⟩
 ·rcases y2s i way.length with q | q | q
  ·rw [y0q q] at hk
   obtain⟨a,c,ea,ec,r⟩:=P.link i k' hk
   have:=P.len
   exact⟨a,c,by rw [y0q (by omega)]; exact ea,by rw [y0q (by omega)]; exact ec,r⟩
  ·subst q
   rw [y0w (y0a _)] at hk
   simp at hk
   subst hk
   have:=P.len
   refine⟨e,b,by rw [y0q (by omega)]; exact hlast,?_,h.1,h.2.1,h.2.2⟩
   rw [y0w (by omega),show way.length+1 - es.length=0 by omega]
   rfl
  ·rw [y0w (by omega)] at hk
   rw [y0z (by simp; omega)] at hk
   cases hk
 ·rw [y0q hpos]
  exact h0
 ·rcases y2s i way.length with q | q | q
  ·rw [y0q q] at hk
   have:=P.len
   rw [y0q (by omega)] at hi
   exact w.on i k' e' hk hi
  ·subst q
   rw [y0w (y0a _)] at hk
   simp at hk
   subst hk
   have:=P.len
   rw [y0q (by omega),hlast] at hi
   cases hi
   exact⟨hr,l,t,h1,h2,h3⟩
  ·rw [y0w (by omega)] at hk
   rw [y0z (by simp; omega)] at hk
   cases hk
theorem Walk.pop {N:Net}(W:N.WF){sent spare steps tried:List Int}{g:Nat}{es way:List Nat}(w:Walk N sent spare steps g tried es way){e f:Nat}{l:List Nat}(hes:es.getLast?=some e)(he:es.dropLast.getLast?=some f)(h1:N.at'[e]?=some l)(h2:tried[e]?=some (l.length:Int))
  (hr:¬Room N spare e):∃(t:Nat) (l':List Nat),N.at'[f]?=some l'∧tried[f]?=some (t:Int)∧t<l'.length∧Walk N sent spare steps g (tried.set f ((t:Int)+1)) es.dropLast way.dropLast:=by
 have hne:es ≠ []:=by
  rintro rfl
  simp at hes
 obtain⟨P,h0⟩:=w.path hne
 have pl:=P.len
 have hlast:es[way.length]?=some e:=by
  rw [y19] at hes
  rw [show es.length - 1=way.length by omega] at hes
  exact hes
 have hd:es.dropLast.length=way.length:=by simp; omega
 have hwpos:0<way.length:=by
  rcases y1x way.length with z | z
  ·rw [z] at hd
   rw [y1j.mp hd] at he
   simp at he
  ·exact z
 have hf:es[way.length - 1]?=some f:=by
  rw [y19,hd] at he
  rw [y2e,if_pos (by omega)] at he
  exact he
 obtain⟨k,hk⟩:∃k,way[way.length - 1]?=some k:=⟨_,y01 (by omega)⟩
 obtain⟨a,b,ea,eb,t,gg,lv⟩:=P.link _ k hk
 rw [hf] at ea
 cases ea
 rw [show way.length - 1+1=way.length by omega,hlast] at eb
 cases eb
 obtain⟨n,l',t',g1,g2,g3⟩:=w.on _ k f hk hf
 have htl:t'<l'.length:=(y00.mp g3).1
 have hx:Exh N spare tried e:=⟨hr,l,h1,h2⟩
 refine⟨t',l',g1,g2,htl,w.tr.step g1 g2 htl,w.dead.step g1 g2 g3 fun b L=>?_,fun _=>⟨⟨by simp; omega,fun i k' hk'=>?_⟩,?_⟩,fun q=>?_,fun i k' e' hk' hi=>?_⟩
 ·have:=t.uniq W L.1
  subst this
  exact hx
 ·rw [y2e] at hk'
  split at hk'
  ·rename_i hi
   obtain⟨a,c,ea,ec,r⟩:=P.link i k' hk'
   exact⟨a,c,by rw [y2e,if_pos (by omega)]; exact ea,by rw [y2e,if_pos (by omega)]; exact ec,r⟩
  ·cases hk'
 ·rw [y2e,if_pos (by omega)]
  exact h0
 ·have:=congrArg y5w q
  simp at this
  omega
 ·rw [y2e] at hk' hi
  split at hk'
  ·rename_i hi'
   rw [if_pos (by omega)] at hi
   obtain⟨n',l2,t2,q1,q2,q3⟩:=w.on i k' e' hk' hi
   refine⟨n',l2,t2,q1,?_,q3⟩
   rw [set_at (by rintro rfl; have:=P.inj h0 hi hf; omega)]
   exact q2
  ·cases hk'
theorem Walk.fin {N:Net}{sent spare steps tried:List Int}{g:Nat}{es way:List Nat}(w:Walk N sent spare steps g tried es way){e:Nat}{l:List Nat}(hes:es.getLast?=some e)(he:es.dropLast = [])(h1:N.at'[e]?=some l)(h2:tried[e]?=some (l.length:Int))
  (hr:¬Room N spare e):way = []∧Walk N sent spare steps g tried [] []:=by
 have hne:es ≠ []:=by
  rintro rfl
  simp at hes
 obtain⟨P,h0⟩:=w.path hne
 have pl:=P.len
 have hl:es.length=1:=by
  have:=congrArg y5w he
  simp at this
  have:0<es.length:=y0s.mpr hne
  omega
 have hw:way = []:=y1j.mp (by omega)
 have hg:e=g:=by
  rw [y19,hl] at hes
  have:es[0]?=some e:=hes
  rw [h0] at this
  cases this
  rfl
 subst hg
 exact⟨hw,w.tr,w.dead,fun q=>absurd rfl q,fun _=>⟨rfl,hr,l,h1,h2⟩,fun i k e' hk=>by simp at hk⟩
theorem Walk.short {N:Net}{sent spare steps tried:List Int}{g:Nat}{es way:List Nat}(w:Walk N sent spare steps g tried es way)(hg:Lv steps g=0){B:Nat}(hB:∀e,Lv steps e≤B):es.length≤B+1:=by
 by_cases hne:es = []
 ·subst hne
  simp
 ·obtain⟨P,h0⟩:=w.path hne
  have hpos:0<es.length:=y0s.mpr hne
  have h:=P.lev h0 (i:=es.length - 1) (y01 (by omega))
  have:=hB (es[es.length - 1]'(by omega))
  omega
def wm (B:Nat)(at':List (List Nat))(tried:List Int)(es:List Nat):Nat:=if es = [] then 0 else pot at' tried*(B+3)+(B+2 - es.length)+1
end PM
set_option linter.all false
namespace PM
theorem zlm {α:Type}{x:α}{way:List α}(h:x∈alt false way):∃i,way[i]?=some x∧i % 2=1:=by
 obtain⟨i,h1,h2⟩:=zcj h
 exact⟨i,h1,by simpa using h2⟩
theorem zir {α:Type}{x:α}{way:List α}(h:x∈alt true way):∃i,way[i]?=some x∧i % 2=0:=by
 obtain⟨i,h1,h2⟩:=zcj h
 exact⟨i,h1,by simpa using h2⟩
theorem Path.back {N:Net}(W:N.WF){steps sent:List Int}{es way:List Nat}(P:Path N steps sent es way){g:Nat}(h0:es[0]?=some g)(hg:g<N.G){k:Nat}(h:k∈alt false way):∃s,sent[k]?=some s∧0<s:=by
 obtain⟨i,hk,hi⟩:=zlm h
 obtain⟨a,b,ea,eb,t,go,_⟩:=P.link i k hk
 have:=P.side W h0 hg ea
 rcases go with go | go
 ·omega
 ·exact go
theorem Leads.before {N:Net}(W:N.WF){steps sent:List Int}{es way:List Nat}(P:Path N steps sent es way){g:Nat}(h0:es[0]?=some g)(hg:g<N.G){x:Int}(hx:0≤x)(hl:sent.length=N.ends.length){a k b:Nat}(L:Leads N (sendBy x sent way) steps a k b):Leads N sent steps a k b:=by
 obtain⟨t,go,lv⟩:=L
 refine⟨t,?_,lv⟩
 rcases go with go | ⟨s',h1,h2⟩
 ·exact .inl go
 by_cases ha:a<N.G
 ·exact .inl ha
 have hk:k<sent.length:=by
  have:=(y00.mp h1).1
  rw [send_len] at this
  exact this
 have hs:sent[k]?=some sent[k]:=y01 hk
 refine .inr ⟨_,hs,?_⟩
 rw [zes hs] at h1
 cases h1
 have c2:(0:Int)≤x*((alt false way).count k:Int):=y2j hx (y64 _)
 by_cases hm:k∈alt true way
 ·exfalso
  obtain⟨i,hk',hi⟩:=zir hm
  obtain⟨c,d,ec,ed,t',_,lv'⟩:=P.link i k hk'
  have hc:c<N.G:=(P.side W h0 hg ec).mpr hi
  obtain⟨p,e1,q1⟩:=t
  obtain⟨p',e2,q2⟩:=t'
  rw [e1] at e2
  cases e2
  have:=W.lo k p e1
  have hcb:c=b∧d=a:=by
   rcases q1 with ⟨q1,q1'⟩ | ⟨q1,q1'⟩<;>rcases q2 with ⟨q2,q2'⟩ | ⟨q2,q2'⟩<;>constructor<;>omega
  obtain⟨rfl,rfl⟩:=hcb
  omega
 ·have z:(alt true way).count k=0:=y65.mpr hm
  rw [z] at h2
  simp at h2
  omega
theorem Room.le {N:Net}{spare spare':List Int}(h:∀(e:Nat) x y,spare[e]?=some x→spare'[e]?=some y→y≤x)(hl:spare.length=spare'.length){e:Nat}(r:Room N spare' e):Room N spare e:=by
 obtain⟨h1,y,h2,h3⟩:=r
 have he:e<spare.length:=by
  have:=(y00.mp h2).1
  omega
 have hx:spare[e]?=some spare[e]:=y01 he
 have:=h e _ _ hx h2
 exact⟨h1,_,hx,by omega⟩
theorem Dead.send {N:Net}(W:N.WF){steps sent spare spare' tried:List Int}{es way:List Nat}(P:Path N steps sent es way){g:Nat}(h0:es[0]?=some g)(hg:g<N.G){x:Int}(hx:0≤x)(hl:sent.length=N.ends.length)
  (h:∀(e:Nat) x y,spare[e]?=some x→spare'[e]?=some y→y≤x) (hl':spare.length=spare'.length) (D:Dead N sent spare steps tried):Dead N (sendBy x sent way) spare' steps tried:=by
 intro e l j k t h1 h2 h3 h4 b L
 obtain⟨n,r⟩:=D e l j k t h1 h2 h3 h4 b (L.before W P h0 hg hx hl)
 exact⟨fun q=>n (q.le h hl'),r⟩
theorem zbi:∀{l:List Int} {i:Nat} {x v:Int},l[i]?=some x→(l.set i v).sum=l.sum+v - x
 | [],_,_,_,h=>by simp at h
 | y::r,0,x,v,h=>by
  simp at h
  subst h
  simp only [y3n,y0n]
  omega
 | y::r,i+1,x,v,h=>by
  have ih:=zbi (l:=r) (i:=i) (x:=x) (v:=v) (by simpa using h)
  simp only [y3o,y0n,ih]
  omega
theorem sum_nn:∀{l:List Int},(∀(i:Nat) x,l[i]?=some x→0≤x)→0≤l.sum
 | [],_=>by simp
 | y::r,h=>by
  have h0:=h 0 y rfl
  have ih:=sum_nn (l:=r) fun i x hx=>h (i+1) x (by simpa using hx)
  simp only [y0n]
  omega
structure Sent (N:Net)(cap:List Int)(sent spare:List Int)(way:List Nat)(g f:Nat)(a:Int)(spare':List Int):Prop where
 flow:Flow N cap (sendBy a sent way) spare'
 le:∀(e:Nat) x y,spare[e]?=some x→spare'[e]?=some y→y≤x
 sum:spare'.sum=spare.sum - 2*a
theorem Flow.sent {N:Net}(W:N.WF){cap steps sent spare:List Int}{es way:List Nat}(F:Flow N cap sent spare)(P:Path N steps sent es way){g f:Nat}{a x y:Int}(h0:es[0]?=some g)(h1:es[way.length]?=some f)(hg:g<N.G)(hf:¬f<N.G)
  (hx:spare[g]?=some x) (hy:spare[f]?=some y) (ha:0≤a) (hax:a≤x) (hay:a≤y) (hb:∀k∈alt false way,∀s,sent[k]?=some s→a≤s):Sent N cap sent spare way g f a ((spare.set g (x - a)).set f (y - a)):=by
 have hne:f≠g:=by omega
 have hgl:g<spare.length:=(y00.mp hx).1
 have hfl:f<spare.length:=(y00.mp hy).1
 have hy':(spare.set g (x - a))[f]?=some y:=by rw [set_at hne]; exact hy
 refine⟨F.send W P h0 h1 hg hf hx hy ha hax hay hb,fun e u v hu hv=>?_,?_⟩
 ·by_cases e1:e=f
  ·subst e1
   rw [y0t (by simpa using hfl)] at hv
   cases hv
   rw [hy] at hu
   cases hu
   omega
  ·rw [set_at e1] at hv
   by_cases e2:e=g
   ·subst e2
    rw [y0t hgl] at hv
    cases hv
    rw [hx] at hu
    cases hu
    omega
   ·rw [set_at e2,hu] at hv
    cases hv
    omega
 ·rw [zbi hy',zbi hx]
  omega
structure Phase (N:Net)(cap steps sent0 spare0:List Int)(done:List Nat)(sent spare tried:List Int):Prop where
 flow:Flow N cap sent spare
 tr:Tr N tried
 dead:Dead N sent spare steps tried
 le:∀(e:Nat) x y,spare0[e]?=some x→spare[e]?=some y→y≤x
 prog:(sent=sent0∧spare=spare0∧∀g∈done,Exh N spare tried g)∨spare.sum<spare0.sum
theorem Phase.walked {N:Net}{cap steps sent0 spare0 sent spare tried tried':List Int}{done:List Nat}(p:Phase N cap steps sent0 spare0 done sent spare tried)(T:Tr N tried')(D:Dead N sent spare steps tried')(h:∀b,Exh N spare tried b→Exh N spare tried' b) :
  Phase N cap steps sent0 spare0 done sent spare tried' :=
 ⟨p.flow,T,D,p.le,p.prog.imp (fun ⟨a,b,c⟩=>⟨a,b,fun g hg=>h g (c g hg)⟩) id⟩
theorem Phase.sent {N:Net}(W:N.WF){cap steps sent0 spare0 sent spare tried spare':List Int}{done:List Nat}(p:Phase N cap steps sent0 spare0 done sent spare tried){es way:List Nat}(P:Path N steps sent es way){g f:Nat}{a:Int}(h0:es[0]?=some g)(hg:g<N.G)(ha:0<a)
  (S:Sent N cap sent spare way g f a spare'):Phase N cap steps sent0 spare0 done (sendBy a sent way) spare' tried:=by
 have hl:spare.length=spare'.length:=by rw [p.flow.lp,S.flow.lp]
 refine⟨S.flow,p.tr,p.dead.send W P h0 hg (y25 ha) p.flow.ls S.le hl,fun e x y hx hy=>?_,.inr ?_⟩
 ·have he:e<spare.length:=by
   have:=(y00.mp hy).1
   omega
  have hz:spare[e]?=some spare[e]:=y01 he
  have h1:=p.le e _ _ hx hz
  have h2:=S.le e _ _ hz hy
  omega
 ·have:=S.sum
  rcases p.prog with ⟨_,rfl,_⟩ | q
  ·omega
  ·omega
theorem Phase.one {N:Net}{cap steps sent0 spare0 sent spare tried:List Int}{done:List Nat}(p:Phase N cap steps sent0 spare0 done sent spare tried){g:Nat}(h:Exh N spare tried g∨spare.sum<spare0.sum):Phase N cap steps sent0 spare0 (done ++ [g]) sent spare tried:=by
 refine⟨p.flow,p.tr,p.dead,p.le,?_⟩
 rcases p.prog with ⟨a,b,c⟩ | q
 ·rcases h with h | h
  ·refine .inl ⟨a,b,fun x hx=>?_⟩
   rcases y13.mp hx with hx | hx
   ·exact c x hx
   ·have:x=g:=by simpa using hx
    subst this
    exact h
  ·exact .inr h
 ·exact .inr q
theorem Phase.less {N:Net}(W:N.WF){cap steps sent0 spare0 sent spare tried:List Int}{done:List Nat}(p:Phase N cap steps sent0 spare0 done sent spare tried)(S:Steps N sent0 spare0 steps)(hd:∀g,Lv steps g=0→g∈done){e:Nat}(he:0≤Lv steps e)(hr:Room N spare0 e):spare.sum<spare0.sum:=by
 rcases p.prog with ⟨rfl,rfl,c⟩ | q
 ·exact absurd hr (Dead.all W S p.dead (fun g hg=>c g (hd g hg)) (Lv steps e).toNat e (by omega)).1
 ·exact q
structure Done (N:Net)(cap sent spare steps:List Int):Prop where
 flow:Flow N cap sent spare
 st:Steps N sent spare steps
 cl:zme N sent steps
 dry:∀e,0≤Lv steps e→¬Room N spare e
theorem Rows.done {N:Net}{cap sent spare steps:List Int}{d:Nat}{row:List Nat}(R:Rows N sent spare d row steps)(F:Flow N cap sent spare)(h:row = []∨∃e∈row,Room N spare e)(hd:∀e,0≤Lv steps e→¬Room N spare e):Done N cap sent spare steps:=by
 have hr:row = []:=by
  rcases h with h | ⟨e,he,hr⟩
  ·exact h
  ·exact absurd hr (hd e (by rw [(R.row e).mp he]; omega))
 subst hr
 refine⟨F,R.st,fun a k b t g h0=>?_,hd⟩
 have h1:=R.top a
 have h2:Lv steps a≠d:=fun q=>by
  have:=(R.row a).mpr q
  simp at this
 exact R.exp a k b t g h0 (by omega)
def nr (steps:List Int)(e:Nat):Bool:=decide (0≤Lv steps e)
def upTo (f:Nat→Int):Nat→Int
 | 0=>0
 | n+1=>upTo f n+f n
theorem z95 (f g:Nat→Int):∀n,upTo (fun e=>f e+g e) n=upTo f n+upTo g n
 | 0=>rfl
 | n+1=>by
  simp only [upTo,z95 f g n]
  omega
theorem upTo_zero:∀n,upTo (fun _=>0) n=0
 | 0=>rfl
 | n+1=>by simp [upTo,upTo_zero n]
theorem z9l (a:Nat)(v:Int):∀n,upTo (fun e=>if e=a then v else 0) n=if a<n then v else 0
 | 0=>rfl
 | n+1=>by
  simp only [upTo,z9l a v n]
  by_cases h1:a<n
  ·have h2:n≠a:=by omega
   have h3:a<n+1:=by omega
   simp [h1,h2,h3]
  ·by_cases h2:n=a
   ·subst h2
    simp
   ·have h3:¬a<n+1:=by omega
    simp [h1,h2,h3]
theorem upTo_congr {f g:Nat→Int}:∀{n},(∀e<n,f e=g e)→upTo f n=upTo g n
 | 0,_=>rfl
 | n+1,h=>by
  simp only [upTo]
  rw [upTo_congr (n:=n) fun e he=>h e (by omega),h n (by omega)]
theorem load_over {S:Nat→Bool}{n:Nat}:∀{ends:List (Nat×Nat)} {sent:List Int},(∀p∈ends,p.1≠p.2∧p.1<n∧p.2<n)→sent.length=ends.length →
  upTo (fun e=>if S e then load ends sent e else 0) n=((ends.zip sent).map fun q=>(if S q.1.1 then q.2 else 0)+(if S q.1.2 then q.2 else 0)).sum
 | [],[],_,_=>by
  simp [load,upTo_zero]
 | [],_::_,_,h=>by simp at h
 | _::_,[],_,h=>by simp at h
 | p::r,s::q,h,hl=>by
  have ih:=load_over (S:=S) (n:=n) (ends:=r) (sent:=q) (fun x hx=>h x (y0c _ hx)) (by simpa using hl)
  obtain⟨h1,h2,h3⟩:=h p y0d
  have e:(fun e=>if S e then load (p::r) (s::q) e else 0)=fun e=>((if e=p.1 then (if S p.1 then s else 0) else 0)+(if e=p.2 then (if S p.2 then s else 0) else 0))+(if S e then load r q e else 0):=by
   funext e
   simp only [load,inc]
   by_cases a:e=p.1
   ·subst a
    by_cases c:S p.1=true<;>simp [c,h1]
   ·by_cases b:e=p.2
    ·subst b
     by_cases c:S p.2=true<;>simp [c,a]
    ·have a':¬p.1=e:=fun z=>a z.symm
     have b':¬p.2=e:=fun z=>b z.symm
     simp [a,b,a',b']
  rw [e,z95,z95,ih,z9l,z9l,if_pos h2,if_pos h3]
  simp
theorem z1h {α:Type}{f g:α→Int}:∀{l:List α},(∀x∈l,f x=g x)→(l.map f).sum=(l.map g).sum
 | [],_=>rfl
 | x::r,h=>by
  simp only [y0h,y0n]
  rw [h x y0d,z1h fun y hy=>h y (y0c _ hy)]
theorem zip_snd:∀{α:Type} {xs:List α} {ys:List Int},ys.length=xs.length→((xs.zip ys).map fun q=>q.2).sum=ys.sum
 | _,[],[],_=>rfl
 | _,[],_::_,h=>by simp at h
 | _,_::_,[],h=>by simp at h
 | _,x::r,y::q,h=>by
  have ih:=zip_snd (xs:=r) (ys:=q) (by simpa using h)
  simp only [y4l,y0h,y0n,ih]
theorem Done.bound {N:Net}(W:N.WF){cap sent spare steps:List Int}(D:Done N cap sent spare steps) :
  sent.sum=upTo (fun e=>if (if e<N.G then !nr steps e else nr steps e) then cap.getD e 0 else 0) N.nE:=by
 have hw:∀p∈N.ends,p.1≠p.2∧p.1<N.nE∧p.2<N.nE:=fun p hp=>by
  obtain⟨k,hk⟩:=y09 hp
  have:=W.lo k p hk
  have:=W.gle
  refine⟨?_,?_,?_⟩<;>omega
 have h1:upTo (fun e=>if (if e<N.G then !nr steps e else nr steps e) then cap.getD e 0 else 0) N.nE=upTo (fun e=>if (if e<N.G then !nr steps e else nr steps e) then load N.ends sent e else 0) N.nE:=by
  refine upTo_congr fun e he=>?_
  by_cases c:(if e<N.G then !nr steps e else nr steps e)=true
  ·rw [if_pos c,if_pos c]
   have hc:cap[e]?=some (cap[e]'(by rw [D.flow.lc]; exact he)):=y01 _
   have hs:spare[e]?=some (spare[e]'(by rw [D.flow.lp]; exact he)):=y01 _
   have q:=D.flow.eq e _ _ hc hs
   have n0:=D.flow.sp e _ hs
   have hz:(spare[e]'(by rw [D.flow.lp]; exact he))=0:=by
    by_cases hg:e<N.G
    ·rw [if_pos hg] at c
     have c':¬ 0≤Lv steps e:=by simpa [nr] using c
     rcases y2k 0 (spare[e]'(by rw [D.flow.lp]; exact he)) with z | z
     ·have:=D.st.src e _ hg hs z
      omega
     ·omega
    ·rw [if_neg hg] at c
     have c':0≤Lv steps e:=by simpa [nr] using c
     rcases y2k 0 (spare[e]'(by rw [D.flow.lp]; exact he)) with z | z
     ·exact absurd ⟨by omega,_,hs,z⟩ (D.dry e c')
     ·omega
   have:cap.getD e 0=cap[e]'(by rw [D.flow.lc]; exact he):=by simp [y1k,hc]
   omega
  ·rw [if_neg c,if_neg c]
 rw [h1,load_over hw D.flow.ls,←zip_snd D.flow.ls]
 refine z1h fun q hq=>?_
 obtain⟨k,hk⟩:=y09 hq
 obtain⟨p,s⟩:=q
 have hz:=y0u.mp hk
 obtain⟨hp,hs⟩:=hz
 have hlo:=W.lo k p hp
 have n0:=D.flow.nn k s hs
 have t:Tie N p.1 k p.2:=⟨p,hp,.inl ⟨rfl,rfl⟩⟩
 have c1:=D.cl p.1 k p.2 t (.inl hlo.1)
 have c2:0≤Lv steps p.2→0<s→0≤Lv steps p.1:=fun h z=>D.cl p.2 k p.1 t.symm (.inr ⟨s,hs,z⟩) h
 have g1:p.1<N.G:=hlo.1
 have g2:¬p.2<N.G:=by omega
 simp only [g1,g2,if_true,if_false,nr]
 by_cases a:0≤Lv steps p.1<;>by_cases b:0≤Lv steps p.2<;>simp [a,b]
 ·exact absurd (c1 a) b
 ·have:¬ 0<s:=fun z=>a (c2 b z)
  omega
end PM
set_option linter.all false
namespace PM
theorem z8j {α:Type}{f g:α→Int}:∀{l:List α},(∀x∈l,f x≤g x)→(l.map f).sum≤(l.map g).sum
 | [],_=>by simp
 | x::r,h=>by
  have:=h x y0d
  have:=z8j (f:=f) (g:=g) (l:=r) fun y hy=>h y (y0c _ hy)
  simp only [y0h,y0n]
  omega
theorem zjp {α:Type}{f g:α→Int}:∀{l:List α},(∀x∈l,f x≤g x)→(l.map g).sum≤(l.map f).sum→∀x∈l,f x=g x
 | [],_,_=>fun _ h=>by simp at h
 | x::r,h,e=>by
  have h0:=h x y0d
  have hr:∀y∈r,f y≤g y:=fun y hy=>h y (y0c _ hy)
  have h1:=z8j hr
  simp only [y0h,y0n] at e
  have ih:=zjp hr (by omega)
  intro y hy
  rcases y0m.mp hy with rfl | hy
  ·omega
  ·exact ih y hy
theorem z97 {f g:Nat→Int}:∀{n},(∀e<n,f e≤g e)→upTo f n≤upTo g n
 | 0,_=>y1u _
 | n+1,h=>by
  have:=z97 (f:=f) (g:=g) (n:=n) fun e he=>h e (by omega)
  have:=h n (by omega)
  simp only [upTo]
  omega
theorem z68 {f g:Nat→Int}:∀{n},(∀e<n,f e≤g e)→upTo g n≤upTo f n→∀e<n,f e=g e
 | 0,_,_=>fun e he=>by omega
 | n+1,h,q=>by
  have h0:∀e<n,f e≤g e:=fun e he=>h e (by omega)
  have h1:=z97 h0
  have h2:=h n (by omega)
  simp only [upTo] at q
  have ih:=z68 h0 (by omega)
  intro e he
  by_cases c:e=n
  ·subst c
   omega
  ·exact ih e (by omega)
def side (N:Net)(S:Nat→Bool)(e:Nat):Bool:=if e<N.G then !S e else S e
def bnd (N:Net)(cap:List Int)(S:Nat→Bool):Int:=upTo (fun e=>if side N S e then cap.getD e 0 else 0) N.nE
theorem Flow.load_le {N:Net}{cap sent spare:List Int}(F:Flow N cap sent spare){e:Nat}(he:e<N.nE):load N.ends sent e≤cap.getD e 0∧(spare.getD e 0=cap.getD e 0 - load N.ends sent e):=by
 have hc:cap[e]?=some (cap[e]'(by rw [F.lc]; exact he)):=y01 _
 have hs:spare[e]?=some (spare[e]'(by rw [F.lp]; exact he)):=y01 _
 have q:=F.eq e _ _ hc hs
 have n0:=F.sp e _ hs
 have:cap.getD e 0=cap[e]'(by rw [F.lc]; exact he):=by simp [y1k,hc]
 have:spare.getD e 0=spare[e]'(by rw [F.lp]; exact he):=by simp [y1k,hs]
 omega
theorem Net.WF.two {N:Net}(W:N.WF):∀p∈N.ends,p.1≠p.2∧p.1<N.nE∧p.2<N.nE:=fun p hp=>by
 obtain⟨k,hk⟩:=y09 hp
 have:=W.lo k p hk
 have:=W.gle
 refine⟨?_,?_,?_⟩<;>omega
theorem Done.bnd {N:Net}(W:N.WF){cap sent spare steps:List Int}(D:Done N cap sent spare steps):sent.sum=bnd N cap (nr steps):=D.bound W
theorem Done.ties {N:Net}{cap sent spare steps:List Int}(D:Done N cap sent spare steps):∀a k b,Tie N a k b→a<N.G→nr steps a=true→nr steps b=true:=fun a k b t hg h =>
 decide_eq_true (D.cl a k b t (.inl hg) (of_decide_eq_true h))
theorem Done.sub {N:Net}{cap sent spare steps:List Int}(D:Done N cap sent spare steps){S:Nat→Bool}(h1:∀(g:Nat) x,g<N.G→spare[g]?=some x→0<x→S g=true)(h2:∀a k b,Tie N a k b→Go N sent a k→S a=true→S b=true){e:Nat}(h:nr steps e=true):S e=true:=by
 have h':0≤Lv steps e:=of_decide_eq_true h
 exact D.st.least (fun e=>S e=true) h1 h2 (Lv steps e).toNat e (by omega)
end PM
set_option linter.all false
namespace PM
def z3j (f:Nat→Int)(S:Nat→Bool)(n:Nat):Int:=upTo (fun e=>if S e then f e else 0) n
theorem zkn {f g:Nat→Int}{S:Nat→Bool}{n:Nat}(h:∀e<n,S e=true→f e≤g e):z3j f S n≤z3j g S n:=z97 fun e he=>by
 by_cases c:S e=true
 ·simp only [c,if_true]; exact h e he c
 ·simp [c]
theorem zbu {f g:Nat→Int}{S:Nat→Bool}{n:Nat}(h:∀e<n,S e=true→f e=g e):z3j f S n=z3j g S n:=upTo_congr fun e he=>by
 by_cases c:S e=true
 ·simp only [c,if_true]; exact h e he c
 ·simp [c]
theorem z62 {N:Net}(W:N.WF){cap sent spare:List Int}(F:Flow N cap sent spare)(S T:Nat→Bool)(hS:∀e,S e=true→e<N.G)(hT:∀e,T e=true→¬e<N.G) :
  z3j (load N.ends sent) S N.nE=((N.ends.zip sent).map fun q=>if S q.1.1 then q.2 else 0).sum∧z3j (load N.ends sent) T N.nE=((N.ends.zip sent).map fun q=>if T q.1.2 then q.2 else 0).sum:=by
 constructor
 ·unfold z3j
  rw [load_over W.two F.ls]
  refine z1h fun q hq=>?_
  obtain⟨k,hk⟩:=y09 hq
  obtain⟨p,s⟩:=q
  obtain⟨hp,_⟩:=y0u.mp hk
  have:=W.lo k p hp
  have hn:S p.2=false:=by
   rcases y1n (S p.2) with z | z
   ·have:=hS _ z; omega
   ·exact z
  simp [hn]
 ·unfold z3j
  rw [load_over W.two F.ls]
  refine z1h fun q hq=>?_
  obtain⟨k,hk⟩:=y09 hq
  obtain⟨p,s⟩:=q
  obtain⟨hp,_⟩:=y0u.mp hk
  have:=W.lo k p hp
  have hn:T p.1=false:=by
   rcases y1n (T p.1) with z | z
   ·exact absurd this.1 (hT _ z)
   ·exact z
  simp [hn]
theorem Done.full {N:Net}(W:N.WF){cap sent spare steps:List Int}(D:Done N cap sent spare steps){e:Nat}(he:e<N.nE)(h:(e<N.G∧nr steps e=false)∨(¬e<N.G∧nr steps e=true)):load N.ends sent e=cap.getD e 0:=by
 have q:=(D.flow.load_le he).2
 have hs:spare[e]?=some (spare[e]'(by rw [D.flow.lp]; exact he)):=y01 _
 have n0:=D.flow.sp e _ hs
 have hg:spare.getD e 0=spare[e]'(by rw [D.flow.lp]; exact he):=by simp [y1k,hs]
 have hz:¬ 0<(spare[e]'(by rw [D.flow.lp]; exact he)):=fun z=>by
  rcases h with ⟨h1,h2⟩ | ⟨h1,h2⟩
  ·have:=D.st.src e _ h1 hs z
   have:¬ 0≤Lv steps e:=of_decide_eq_false h2
   omega
  ·exact D.dry e (of_decide_eq_true h2) ⟨by omega,_,hs,z⟩
 omega
theorem Done.none_sent {N:Net}(W:N.WF){cap sent spare steps:List Int}(D:Done N cap sent spare steps){k:Nat}{p:Nat×Nat}{s:Int}(hp:N.ends[k]?=some p)(hs:sent[k]?=some s)(h1:nr steps p.1=false)(h2:nr steps p.2=true):s=0:=by
 have n0:=D.flow.nn k s hs
 rcases y2k 0 s with z | z
 ·have t:Tie N p.2 k p.1:=⟨p,hp,.inr ⟨rfl,rfl⟩⟩
  have:=D.cl p.2 k p.1 t (.inr ⟨s,hs,z⟩) (of_decide_eq_true h2)
  have:¬ 0≤Lv steps p.1:=of_decide_eq_false h1
  omega
 ·omega
theorem Done.hi {N:Net}(W:N.WF){cap sent spare steps:List Int}(D:Done N cap sent spare steps)(S T:Nat→Bool)(hS:∀e,S e=true→e<N.G∧nr steps e=false)(hT:∀e,T e=true→¬e<N.G)
  (h:∀(k:Nat) (p:Nat×Nat),N.ends[k]?=some p→S p.1=true→nr steps p.2=false→T p.2=true):z3j (fun e=>cap.getD e 0) S N.nE≤z3j (fun e=>cap.getD e 0) T N.nE:=by
 obtain⟨l1,l2⟩:=z62 W D.flow S T (fun e he=>(hS e he).1) hT
 have e1:z3j (fun e=>cap.getD e 0) S N.nE=z3j (load N.ends sent) S N.nE:=zbu fun e he c=>(D.full W he (.inl (hS e c))).symm
 have e2:z3j (load N.ends sent) T N.nE≤z3j (fun e=>cap.getD e 0) T N.nE:=zkn fun e he _=>(D.flow.load_le he).1
 rw [e1,l1]
 refine y2x ?_ e2
 rw [l2]
 refine z8j fun q hq=>?_
 obtain⟨k,hk⟩:=y09 hq
 obtain⟨p,s⟩:=q
 obtain⟨hp,hs⟩:=y0u.mp hk
 have n0:=D.flow.nn k s hs
 by_cases a:S p.1=true
 ·rcases y1n (nr steps p.2) with z | z
  ·have:=D.none_sent W hp hs (hS _ a).2 z
   subst this
   simp
  ·have:=h k p hp a z
   simp [a,this]
 ·by_cases b:T p.2=true<;>simp [a,b]<;>omega
theorem Done.lo {N:Net}(W:N.WF){cap sent spare steps:List Int}(D:Done N cap sent spare steps)(S T:Nat→Bool)(hS:∀e,S e=true→e<N.G)(hT:∀e,T e=true→¬e<N.G∧nr steps e=true)
  (h:∀(k:Nat) (p:Nat×Nat),N.ends[k]?=some p→nr steps p.1=true→T p.2=true→S p.1=true) (hne:∃e,e<N.nE∧T e=true):z3j (fun e=>cap.getD e 0) T N.nE<z3j (fun e=>cap.getD e 0) S N.nE:=by
 obtain⟨l1,l2⟩:=z62 W D.flow S T hS (fun e he=>(hT e he).1)
 have e1:z3j (fun e=>cap.getD e 0) T N.nE=z3j (load N.ends sent) T N.nE:=zbu fun e he c=>(D.full W he (.inr (hT e c))).symm
 have le2:∀e<N.nE,(if S e then load N.ends sent e else 0)≤(if S e then cap.getD e 0 else 0):=fun e he=>by
  by_cases c:S e=true
  ·simp only [c,if_true]; exact(D.flow.load_le he).1
  ·simp [c]
 have e2:z3j (load N.ends sent) S N.nE≤z3j (fun e=>cap.getD e 0) S N.nE:=z97 le2
 have tm:∀q∈N.ends.zip sent,(if T q.1.2 then q.2 else 0)≤(if S q.1.1 then q.2 else 0):=fun q hq=>by
  obtain⟨k,hk⟩:=y09 hq
  obtain⟨p,s⟩:=q
  obtain⟨hp,hs⟩:=y0u.mp hk
  have n0:=D.flow.nn k s hs
  by_cases b:T p.2=true
  ·rcases y1n (nr steps p.1) with z | z
   ·have:=h k p hp z b
    simp [b,this]
   ·have:=D.none_sent W hp hs z (hT _ b).2
    subst this
    simp
  ·by_cases a:S p.1=true<;>simp [a,b]<;>omega
 have e3:=z8j tm
 rw [←l1,←l2] at e3
 rcases y2k (z3j (fun e=>cap.getD e 0) T N.nE) (z3j (fun e=>cap.getD e 0) S N.nE) with z | z
 ·exact z
 exfalso
 have q1:=z68 le2 (by show z3j _ S _≤z3j _ S _; omega)
 have q2:=zjp tm (by rw [←l1,←l2]; omega)
 obtain⟨t,ht,hTt⟩:=hne
 have near:=(hT t hTt).2
 have sub:=D.sub (S:=fun e=>nr steps e && !S e && !T e) (fun g x hg hx h0=>?_) (fun a k b tie go ha=>?_) near
 ·simp [hTt] at sub
 ·have n:nr steps g=true:=decide_eq_true (by rw [D.st.src g x hg hx h0]; exact y1u _)
  have hgl:g<N.nE:=by have:=W.gle; omega
  have nT:T g=false:=by
   rcases y1n (T g) with z | z
   ·exact absurd hg (hT g z).1
   ·exact z
  have nS:S g=false:=by
   rcases y1n (S g) with z | z
   ·have:=q1 g hgl
    simp only [z,if_true] at this
    have w:=(D.flow.load_le hgl).2
    have:spare.getD g 0=x:=by simp [y1k,hx]
    omega
   ·exact z
  simp [n,nT,nS]
 ·simp only [y1d,y4x] at ha ⊢
  obtain⟨⟨a1,a2⟩,a3⟩:=ha
  have nb:nr steps b=true:=decide_eq_true (D.cl a k b tie go (of_decide_eq_true a1))
  obtain⟨p,hp,q⟩:=tie
  have hlo:=W.lo k p hp
  refine⟨⟨nb,?_⟩,?_⟩
  ·rcases y1n (S b) with z | z
   ·exfalso
    have hb:=hS b z
    have hab:p.2=a∧p.1=b:=by
     rcases q with ⟨q1,q2⟩ | q
     ·omega
     ·exact q
    obtain⟨rfl,rfl⟩:=hab
    rcases go with go | ⟨s,hs,h0⟩
    ·omega
    ·have hm:(p,s)∈N.ends.zip sent:=y02 (i:=k) (y0u.mpr ⟨hp,hs⟩)
     have:=q2 _ hm
     simp only [z,a3,if_true] at this
     simp at this
     omega
   ·exact z
  ·rcases y1n (T b) with z | z
   ·exfalso
    have hb:=(hT b z).1
    have hab:p.1=a∧p.2=b:=by
     rcases q with q | ⟨q1,q2⟩
     ·exact q
     ·omega
    obtain⟨rfl,rfl⟩:=hab
    have:=h k p hp a1 z
    rw [a2] at this
    cases this
   ·exact z
theorem zij {N:Net}(W:N.WF){cap sent spare:List Int}(F:Flow N cap sent spare):z3j (load N.ends sent) (fun e=>decide (e<N.G)) N.nE=sent.sum∧z3j (load N.ends sent) (fun e=>!decide (e<N.G)) N.nE=sent.sum:=by
 obtain⟨l1,l2⟩:=z62 W F (fun e=>decide (e<N.G)) (fun e=>!decide (e<N.G)) (fun e h=>of_decide_eq_true h) (fun e h=>by simpa using h)
 have c1:((N.ends.zip sent).map fun q=>if (decide (q.1.1<N.G))=true then q.2 else 0).sum=sent.sum:=by
  rw [←zip_snd F.ls]
  refine z1h fun q hq=>?_
  obtain⟨k,hk⟩:=y09 hq
  obtain⟨p,s⟩:=q
  obtain⟨hp,hs⟩:=y0u.mp hk
  have:=W.lo k p hp
  simp [this.1]
 have c2:((N.ends.zip sent).map fun q=>if (!decide (q.1.2<N.G))=true then q.2 else 0).sum=sent.sum:=by
  rw [←zip_snd F.ls]
  refine z1h fun q hq=>?_
  obtain⟨k,hk⟩:=y09 hq
  obtain⟨p,s⟩:=q
  obtain⟨hp,hs⟩:=y0u.mp hk
  have:=W.lo k p hp
  have:¬p.2<N.G:=by omega
  simp [this]
 exact⟨l1.trans c1,l2.trans c2⟩
theorem Done.far {N:Net}(W:N.WF){cap sent spare steps:List Int}(D:Done N cap sent spare steps)(hs:z3j (fun e=>cap.getD e 0) (fun e=>decide (e<N.G)) N.nE≤z3j (fun e=>cap.getD e 0) (fun e=>!decide (e<N.G)) N.nE)
  (hn:∃e,nr steps e=true):∃e,¬e<N.G∧e<N.nE∧nr steps e=false:=by
 apply Classical.byContradiction
 intro hc
 have hall:∀e,¬e<N.G→e<N.nE→nr steps e=true:=fun e h1 h2=>by
  rcases y1n (nr steps e) with z | z
  ·exact z
  ·exact absurd ⟨e,h1,h2,z⟩ hc
 obtain⟨a1,a2⟩:=zij W D.flow
 have e1:z3j (fun e=>cap.getD e 0) (fun e=>!decide (e<N.G)) N.nE=sent.sum:=by
  rw [←a2]
  refine zbu fun e he c=>(D.full W he (.inr ⟨?_,hall e ?_ he⟩)).symm
  ·simpa using c
  ·simpa using c
 have le:∀e<N.nE,(if (decide (e<N.G))=true then load N.ends sent e else 0)≤(if (decide (e<N.G))=true then cap.getD e 0 else 0):=fun e he=>by
  by_cases c:(decide (e<N.G))=true
  ·simp only [c,if_true]; exact(D.flow.load_le he).1
  ·simp [c]
 have q:=z68 le (by show z3j _ _ _≤z3j _ _ _; rw [a1]; omega)
 obtain⟨e,he⟩:=hn
 have hl:0≤Lv steps e:=of_decide_eq_true he
 have:∀(d:Nat) e,Lv steps e=d→False:=by
  intro d
  induction d with
  | zero =>
   intro e h
   obtain⟨hg,x,hx,h0⟩:=D.st.zero e (by simpa using h)
   have hgl:e<N.nE:=by have:=W.gle; omega
   have:=q e hgl
   simp only [hg,decide_true,if_true] at this
   have w:=(D.flow.load_le hgl).2
   have:spare.getD e 0=x:=by simp [y1k,hx]
   omega
  | succ d ih =>
   intro e h
   obtain⟨a,k,t,g,l⟩:=D.st.pred e (by rw [h]; push_cast; omega)
   exact ih a (by push_cast at h; omega)
 exact this (Lv steps e).toNat e (by omega)
end PM
set_option linter.all false
namespace PM
theorem z8w (f:Nat→Int):∀n,upTo f (n+1)=f 0+upTo (fun e=>f (e+1)) n
 | 0=>by simp [upTo]
 | n+1=>by
  rw [upTo,z8w f n]
  simp only [upTo]
  omega
theorem upTo_split (f:Nat→Int)(a:Nat):∀b,upTo f (a+b)=upTo f a+upTo (fun e=>f (a+e)) b
 | 0=>by simp [upTo]
 | b+1=>by
  rw [←Nat.add_assoc,upTo,upTo_split f a b]
  simp only [upTo]
  omega
theorem upTo_list {φ:Nat→Int}:∀(l:List Nat),upTo (fun e=>φ (l.getD e 0)) l.length=(l.map φ).sum
 | []=>rfl
 | x::r=>by
  rw [y1b,z8w]
  have ih:=upTo_list (φ:=φ) r
  simp only [y0h,y0n,←ih]
  congr 1
def netOf (g t:Nat)(ties:List (Nat×Nat))(at':List (List Nat)):Net:=⟨g,g+t,ties.map fun p=>(p.1,g+p.2),at'⟩
theorem zej {f:Nat→Int}{A:Nat→Bool}{l:List Nat}{t:Nat}{φ:Nat→Int}(h:∀e<l.length,f e = φ (l.getD e 0)):z3j f (fun e=>decide (e<l.length)&&A (l.getD e 0)) (l.length+t)=(l.map fun c=>if A c then φ c else 0).sum:=by
 unfold z3j
 rw [upTo_split,←upTo_list (φ:=fun c=>if A c then φ c else 0)]
 have z:upTo (fun e=>if (decide (l.length+e<l.length)&&A (l.getD (l.length+e) 0))=true then f (l.length+e) else 0) t=0:=by
  refine(upTo_congr fun e _=>?_).trans (upTo_zero t)
  have:¬l.length+e<l.length:=by omega
  simp [this]
 rw [z,y5k]
 refine upTo_congr fun e he=>?_
 simp [he,h e he]
theorem zfo {f:Nat→Int}{A:Nat→Bool}{l:List Nat}{g:Nat}{φ:Nat→Int}(h:∀e<l.length,f (g+e) = φ (l.getD e 0)):z3j f (fun e=>!decide (e<g)&&A (l.getD (e - g) 0)) (g+l.length)=(l.map fun c=>if A c then φ c else 0).sum:=by
 unfold z3j
 rw [upTo_split,←upTo_list (φ:=fun c=>if A c then φ c else 0)]
 have z:upTo (fun e=>if (!decide (e<g)&&A (l.getD (e - g) 0))=true then f e else 0) g=0:=by
  refine(upTo_congr fun e he=>?_).trans (upTo_zero g)
  simp [he]
 rw [z,y33]
 refine upTo_congr fun e he=>?_
 have:¬g+e<g:=by omega
 have k:g+e - g=e:=by omega
 simp [this,k,h e he]
section
variable {wk:Nat→Int}{dr:Nat→List Nat}{hands chores:List Nat}
def TiesOk (dr:Nat→List Nat)(hands chores:List Nat)(ties:List (Nat×Nat)):Prop:=∀g t:Nat,(g,t)∈ties↔∃c h,chores[g]?=some c∧hands[t]?=some h∧h∈dr c
structure Cut (wk:Nat→Int)(dr:Nat→List Nat)(hands chores:List Nat)(m W:Int)(nc nh:Nat→Bool):Prop where
 up:∀c∈chores,∀h∈hands,h∈dr c→nc c=true→nh h=true
 hi:∀T:Nat→Bool,(chores.map fun c=>if (!nc c&&hands.all fun h=>(nh h || !(dr c).contains h||T h)) then wk c*m else 0).sum≤(hands.map fun h=>if (!nh h&&T h) then W else 0).sum
 lo:∀T:Nat→Bool,(∃h∈hands,nh h=true∧T h=true)→(hands.map fun h=>if (nh h&&T h) then W else 0).sum<(chores.map fun c=>if (nc c&&hands.any fun h=>((dr c).contains h&&T h)) then wk c*m else 0).sum
 far:(∃h∈hands,nh h=true)→∃h∈hands,nh h=false
theorem getD_of {l:List Nat}{i x:Nat}(h:l[i]?=some x):l.getD i 0=x:=by simp [y1k,h]
theorem get_of_lt {l:List Nat}{i:Nat}(h:i<l.length):l[i]?=some (l.getD i 0):=by
 rw [y01 h]; simp [y1k,y01 h]
theorem zq6 {m:Int}{W:Int}:(∀e<chores.length,(chores.map (fun c=>wk c*m)++y05 hands.length W).getD e 0=wk (chores.getD e 0)*m)∧∀e<hands.length,(chores.map (fun c=>wk c*m)++y05 hands.length W).getD (chores.length+e) 0=W:=by
 constructor
 ·intro e he
  rw [y07,y0q (by simpa using he),y06,get_of_lt he]
  rfl
 ·intro e he
  rw [y07,y0w (by simp),y04,Nat.add_sub_cancel_left,y1f,if_pos he]
  rfl
theorem cut_of {m W:Int}{ties:List (Nat×Nat)}{at':List (List Nat)}{sent spare steps:List Int}{nc nh:Nat→Bool}(hok:TiesOk dr hands chores ties)(WF:(netOf chores.length hands.length ties at').WF)
  (D:Done (netOf chores.length hands.length ties at') (chores.map (fun c=>wk c*m)++y05 hands.length W) sent spare steps) (hc:∀(i c:Nat),chores[i]?=some c→nc c=nr steps i) (hh:∀(i h:Nat),hands[i]?=some h→nh h=nr steps (chores.length+i))
  (hsum:(chores.map fun c=>wk c*m).sum=(hands.map fun _=>W).sum):Cut wk dr hands chores m W nc nh:=by
 obtain⟨cp1,cp2⟩:=zq6 (wk:=wk) (hands:=hands) (chores:=chores) (m:=m) (W:=W)
 have tie:∀(k:Nat) (p:Nat×Nat),(netOf chores.length hands.length ties at').ends[k]?=some p→∃t c h,p.2=chores.length+t∧chores[p.1]?=some c∧hands[t]?=some h∧h∈dr c:=fun k p hp=>by
  have hp':(ties.map fun p=>(p.1,chores.length+p.2))[k]?=some p:=hp
  rw [y06] at hp'
  cases q:ties[k]? with
  | none=>rw [q] at hp'; cases hp'
  | some x =>
   rw [q] at hp'
   cases hp'
   obtain⟨c,h,h1,h2,h3⟩:=(hok x.1 x.2).mp (y02 q)
   exact⟨x.2,c,h,rfl,h1,h2,h3⟩
 have mk:∀(g t c h:Nat),chores[g]?=some c→hands[t]?=some h→h∈dr c→∃k:Nat,(netOf chores.length hands.length ties at').ends[k]?=some (g,chores.length+t):=fun g t c h h1 h2 h3=>by
  obtain⟨k,hk⟩:=y09 ((hok g t).mpr ⟨c,h,h1,h2,h3⟩)
  refine⟨k,?_⟩
  show(ties.map fun p=>(p.1,chores.length+p.2))[k]?=_
  rw [y06,hk]
  rfl
 refine⟨fun c hc' h hh' hd hn=>?_,fun T=>?_,fun T hT=>?_,fun hn=>?_⟩
 ·obtain⟨g,hg⟩:=y09 hc'
  obtain⟨t,ht⟩:=y09 hh'
  obtain⟨k,hk⟩:=mk g t c h hg ht hd
  rw [hh t h ht]
  refine D.ties g k (chores.length+t) ⟨_,hk,.inl ⟨rfl,rfl⟩⟩ (y00.mp hg).1 ?_
  rw [←hc g c hg]
  exact hn
 ·have q:=D.hi WF (fun e=>decide (e<chores.length)&&(fun c=>!nc c&&hands.all fun h=>(nh h || !(dr c).contains h||T h)) (chores.getD e 0)) (fun e=>!decide (e<chores.length)&&(fun h=>!nh h&&T h) (hands.getD (e - chores.length) 0)) (fun e he=>?_) (fun e he=>?_) (fun k p hp hS hn=>?_)
  ·have g1:=zej (f:=fun e=>(chores.map (fun c=>wk c*m)++y05 hands.length W).getD e 0) (A:=fun c=>!nc c&&hands.all fun h=>(nh h || !(dr c).contains h||T h)) (l:=chores) (t:=hands.length) (φ:=fun c=>wk c*m) cp1
   have g2:=zfo (f:=fun e=>(chores.map (fun c=>wk c*m)++y05 hands.length W).getD e 0) (A:=fun h=>!nh h&&T h) (l:=hands) (g:=chores.length) (φ:=fun _=>W) cp2
   exact y2x (y3d g1.symm) (y2x q (y3d g2))
  ·rw [y1d] at he
   have h1:e<chores.length:=of_decide_eq_true he.1
   refine⟨h1,?_⟩
   have h2:=he.2
   simp only [y1d,y4x] at h2
   rw [←hc e _ (get_of_lt h1)]
   exact h2.1
  ·rw [y1d] at he
   show ¬e<chores.length
   simpa using he.1
  ·obtain⟨t,c,h,e2,h1,h2,h3⟩:=tie k p hp
   rw [y1d] at hS
   have hS2:=hS.2
   rw [getD_of h1] at hS2
   simp only [y1d,y2p,y5h,y4x] at hS2
   have nn:nh h=false:=by rw [hh t h h2,←e2]; exact hn
   have hx:=hS2.2 h (y02 h2)
   have hT:T h=true:=by
    rcases hx with (z | z) | z
    ·rw [nn] at z; cases z
    ·rw [y1t.mpr h3] at z; cases z
    ·exact z
   have hlt:¬p.2<chores.length:=by omega
   have hsub:p.2 - chores.length=t:=by omega
   show(!decide (p.2<chores.length)&&(!nh (hands.getD (p.2 - chores.length) 0)&&T (hands.getD (p.2 - chores.length) 0)))=true
   rw [hsub,getD_of h2,nn,hT,decide_eq_false hlt]
   rfl
 ·have q:=D.lo WF (fun e=>decide (e<chores.length)&&(fun c=>nc c&&hands.any fun h=>((dr c).contains h&&T h)) (chores.getD e 0)) (fun e=>!decide (e<chores.length)&&decide (e<chores.length+hands.length)&&(fun h=>nh h&&T h) (hands.getD (e - chores.length) 0)) (fun e he=>?_) (fun e he=>?_) (fun k p hp hn hS=>?_) ?_
  ·have g1:=zej (f:=fun e=>(chores.map (fun c=>wk c*m)++y05 hands.length W).getD e 0) (A:=fun c=>nc c&&hands.any fun h=>((dr c).contains h&&T h)) (l:=chores) (t:=hands.length) (φ:=fun c=>wk c*m) cp1
   have g2:=zfo (f:=fun e=>(chores.map (fun c=>wk c*m)++y05 hands.length W).getD e 0) (A:=fun h=>nh h&&T h) (l:=hands) (g:=chores.length) (φ:=fun _=>W) cp2
   have e2:z3j (fun e=>(chores.map (fun c=>wk c*m)++y05 hands.length W).getD e 0) (fun e=>!decide (e<chores.length)&&decide (e<chores.length+hands.length)&&(fun h=>nh h&&T h) (hands.getD (e - chores.length) 0)) (chores.length+hands.length)
    =z3j (fun e=>(chores.map (fun c=>wk c*m)++y05 hands.length W).getD e 0) (fun e=>!decide (e<chores.length)&&(fun h=>nh h&&T h) (hands.getD (e - chores.length) 0)) (chores.length+hands.length):=by
    refine upTo_congr fun e he=>?_
    simp [he]
   exact Int.lt_of_le_of_lt (y3d (g2.symm.trans e2.symm)) (y3p q (y3d g1))
  ·rw [y1d] at he
   exact of_decide_eq_true he.1
  ·rw [y1d,y1d] at he
   have h1:¬e<chores.length:=by simpa using he.1.1
   have h0:e<chores.length+hands.length:=of_decide_eq_true he.1.2
   refine⟨h1,?_⟩
   have h2:=he.2
   simp only [y1d] at h2
   have h3:=hh (e - chores.length) _ (get_of_lt (by omega))
   rw [show chores.length+(e - chores.length)=e by omega] at h3
   rw [←h3]
   exact h2.1
  ·obtain⟨t,c,h,e2,h1,h2,h3⟩:=tie k p hp
   rw [y1d] at hS
   have hS2:=hS.2
   have hsub:p.2 - chores.length=t:=by omega
   rw [hsub,getD_of h2] at hS2
   simp only [y1d] at hS2
   have hlt:p.1<chores.length:=(y00.mp h1).1
   have nc1:nc c=true:=by rw [hc p.1 c h1]; exact hn
   have an:(hands.any fun h=>((dr c).contains h&&T h))=true:=y1r.mpr ⟨h,y02 h2,by rw [y1t.mpr h3,hS2.2]; rfl⟩
   simp only [hlt,decide_true,y76,getD_of h1,nc1,an]
  ·obtain⟨h,h1,h2,h3⟩:=hT
   obtain⟨t,ht⟩:=y09 h1
   have htl:=(y00.mp ht).1
   refine⟨chores.length+t,by show _<chores.length+hands.length; omega,?_⟩
   have:¬chores.length+t<chores.length:=by omega
   have k2:chores.length+t - chores.length=t:=by omega
   have k3:chores.length+t<chores.length+hands.length:=by omega
   show(!decide (chores.length+t<chores.length)&&decide (chores.length+t<chores.length+hands.length)&&(nh (hands.getD (chores.length+t - chores.length) 0)&&T (hands.getD (chores.length+t - chores.length) 0)))=true
   rw [k2,getD_of ht,h2,h3,decide_eq_false this,decide_eq_true k3]
   rfl
 ·obtain⟨h,h1,h2⟩:=hn
  obtain⟨t,ht⟩:=y09 h1
  have hside:z3j (fun e=>(chores.map (fun c=>wk c*m)++y05 hands.length W).getD e 0) (fun e=>decide (e<(netOf chores.length hands.length ties at').G)) (netOf chores.length hands.length ties at').nE≤z3j (fun e=>(chores.map (fun c=>wk c*m)++y05 hands.length W).getD e 0) (fun e=>!decide (e<(netOf chores.length hands.length ties at').G)) (netOf chores.length hands.length ties at').nE:=by
   show z3j _ _ (chores.length+hands.length)≤z3j _ _ (chores.length+hands.length)
   have g1:=zej (f:=fun e=>(chores.map (fun c=>wk c*m)++y05 hands.length W).getD e 0) (A:=fun _=>true) (l:=chores) (t:=hands.length) (φ:=fun c=>wk c*m) cp1
   have g2:=zfo (f:=fun e=>(chores.map (fun c=>wk c*m)++y05 hands.length W).getD e 0) (A:=fun _=>true) (l:=hands) (g:=chores.length) (φ:=fun _=>W) cp2
   simp only [Bool.and_true,if_true] at g1 g2
   have g1':z3j (fun e=>(chores.map (fun c=>wk c*m)++y05 hands.length W).getD e 0) (fun e=>decide (e<(netOf chores.length hands.length ties at').G)) (chores.length+hands.length)=_:=g1
   have g2':z3j (fun e=>(chores.map (fun c=>wk c*m)++y05 hands.length W).getD e 0) (fun e=>!decide (e<(netOf chores.length hands.length ties at').G)) (chores.length+hands.length)=_:=g2
   rw [g1',g2',hsum]
   exact y1u _
  obtain⟨e,e1,e2,e3⟩:=D.far WF hside ⟨chores.length+t,by rw [←hh t h ht]; exact h2⟩
  have e1':¬e<chores.length:=e1
  have e2':e<chores.length+hands.length:=e2
  have hg:=get_of_lt (l:=hands) (i:=e - chores.length) (by omega)
  refine⟨_,y02 hg,?_⟩
  rw [hh _ _ hg,show chores.length+(e - chores.length)=e by omega]
  exact e3
end
end PM
set_option linter.all false
namespace PM
abbrev Cr:=List Nat×List Nat
section
variable (wk:Nat→Int)(dr:Nat→List Nat)
def ze8 (c:Cr)(T:Nat→Bool):Int:=(c.2.map fun x=>if (c.1.any fun h=>((dr x).contains h&&T h)) then wk x else 0).sum
def inside (c:Cr)(T:Nat→Bool):Int:=(c.2.map fun x=>if (c.1.all fun h=>(!(dr x).contains h||T h)) then wk x else 0).sum
def cnt (c:Cr)(T:Nat→Bool):Int:=(c.1.map fun h=>if T h then 1 else 0).sum
def tot (c:Cr):Int:=(c.2.map wk).sum
def Lo (c:Cr)(p q:Int):Prop:=∀T:Nat→Bool,(∃h∈c.1,T h=true)→p*cnt c T<q*ze8 wk dr c T
def Hi (c:Cr)(p q:Int):Prop:=∀T:Nat→Bool,q*inside wk dr c T≤p*cnt c T
def zoa (x y:Cr):Prop:=∃p q:Int,0<q∧Lo wk dr x p q∧Hi wk dr y p q
end
def nearOf (c:Cr)(nc nh:Nat→Bool):Cr:=(c.1.filter nh,c.2.filter nc)
def restOf (c:Cr)(nc nh:Nat→Bool):Cr:=(c.1.filter fun h=>!nh h,c.2.filter fun x=>!nc x)
theorem z2e {p:Nat→Bool}{f:Nat→Int}:∀(l:List Nat),((l.filter p).map f).sum=(l.map fun x=>if p x then f x else 0).sum
 | []=>rfl
 | x::r=>by
  rw [y37]
  by_cases h:p x=true
  ·simp [h,z2e r]
  ·simp [h,z2e r]
theorem mul_sum (k:Int)(f:Nat→Int):∀(l:List Nat),k*(l.map f).sum=(l.map fun x=>k*f x).sum
 | []=>by simp
 | x::r=>by
  simp only [y0h,y0n,y54,mul_sum k f r]
theorem any_filter {p q:Nat→Bool}(l:List Nat):((l.filter p).any q)=l.any fun h=>(p h&&q h):=by
 rw [List.any_filter]
theorem all_filter {p q:Nat→Bool}(l:List Nat):((l.filter p).all q)=l.all fun h=>(!p h||q h):=by
 rw [List.all_filter]
theorem z9t {p q:Nat→Bool}{l:List Nat}(h:∀x∈l,p x=q x):l.any p=l.any q:=by
 rw [y27,y1r,y1r]
 constructor
 ·rintro⟨x,hx,e⟩; exact⟨x,hx,by rw [←h x hx]; exact e⟩
 ·rintro⟨x,hx,e⟩; exact⟨x,hx,by rw [h x hx]; exact e⟩
theorem zaw {p q:Nat→Bool}{l:List Nat}(h:∀x∈l,p x=q x):l.all p=l.all q:=by
 rw [y27,y2p,y2p]
 constructor
 ·intro g x hx; rw [←h x hx]; exact g x hx
 ·intro g x hx; rw [h x hx]; exact g x hx
section
variable {wk:Nat→Int}{dr:Nat→List Nat}{c:Cr}{m W:Int}{nc nh:Nat→Bool}
theorem zcl (T:Nat→Bool):cnt (nearOf c nc nh) T=cnt c (fun h=>nh h&&T h):=by
 unfold cnt nearOf
 rw [z2e]
 refine z1h fun h _=>?_
 by_cases a:nh h=true<;>simp [a]
theorem zd7 (T:Nat→Bool):cnt (restOf c nc nh) T=cnt c (fun h=>!nh h&&T h):=by
 unfold cnt restOf
 rw [z2e]
 refine z1h fun h _=>?_
 by_cases a:nh h=true<;>simp [a]
theorem zft:cnt c (fun _=>true)=c.1.length:=by
 have g:∀l:List Nat,(l.map fun _=>(1:Int)).sum=l.length:=fun l=>by
  induction l with
  | nil=>rfl
  | cons x r ih =>
   simp only [y0h,y0n,y1b,ih]
   omega
 unfold cnt
 simp only [if_true]
 exact g _
theorem zmo (T:Nat→Bool):W*cnt c T=(c.1.map fun h=>if T h then W else 0).sum:=by
 unfold cnt
 rw [mul_sum]
 refine z1h fun h _=>?_
 by_cases a:T h=true<;>simp [a]
theorem Cut.touch_near (C:Cut wk dr c.1 c.2 m W nc nh)(T:Nat→Bool):ze8 wk dr (nearOf c nc nh) T=(c.2.map fun x=>if (nc x&&c.1.any fun h=>((dr x).contains h&&T h)) then wk x else 0).sum:=by
 unfold ze8 nearOf
 rw [z2e]
 refine z1h fun x hx=>?_
 by_cases a:nc x=true
 ·have e:(c.1.filter nh).any (fun h=>((dr x).contains h&&T h))=c.1.any (fun h=>((dr x).contains h&&T h)):=by
   rw [any_filter]
   refine z9t fun h hh=>?_
   by_cases d:(dr x).contains h=true
   ·rw [C.up x hx h hh (y1t.mp d) a]; rfl
   ·have d':(dr x).contains h=false:=by simpa using d
    rw [d']; simp
  rw [a,e]
  simp
 ·simp [a]
theorem Cut.lo_near (C:Cut wk dr c.1 c.2 m W nc nh):Lo wk dr (nearOf c nc nh) W m:=by
 intro T hT
 obtain⟨h,h1,h2⟩:=hT
 have h1':h∈c.1.filter nh:=h1
 obtain⟨h3,h4⟩:=y17.mp h1'
 have q:=C.lo T ⟨h,h3,h4,h2⟩
 rw [zcl,zmo,C.touch_near,mul_sum]
 refine y3p q (y3d (z1h fun x _=>?_))
 split<;>simp [y2l]
theorem Cut.hi_rest (C:Cut wk dr c.1 c.2 m W nc nh):Hi wk dr (restOf c nc nh) W m:=by
 intro T
 have q:=C.hi T
 rw [zd7,zmo]
 refine y2x (y3d ?_) q
 unfold inside restOf
 rw [z2e,mul_sum]
 refine z1h fun x hx=>?_
 have e:(c.1.filter fun h=>!nh h).all (fun h=>(!(dr x).contains h||T h))=c.1.all (fun h=>(nh h || !(dr x).contains h||T h)):=by
  rw [all_filter]
  refine zaw fun h _=>?_
  by_cases a:nh h=true<;>simp [a]
 rw [e]
 by_cases a:nc x=true
 ·simp [a]
 ·have a':nc x=false:=by simpa using a
  by_cases b:c.1.all (fun h=>(nh h || !(dr x).contains h||T h))=true
  ·rw [b,a']
   simp [y2l]
  ·rw [eq_false_of_ne_true b,a']
   simp
theorem zhy (hw:∀x∈c.2,0≤wk x)(T:Nat→Bool):ze8 wk dr c T≤tot wk c:=by
 unfold ze8 tot
 refine z8j fun x hx=>?_
 have:=hw x hx
 split<;>omega
theorem zdk:inside wk dr c (fun _=>true)=tot wk c:=by
 unfold inside tot
 refine z1h fun x _=>?_
 have:(c.1.all fun h=>(!(dr x).contains h||true))=true:=by simp
 rw [if_pos this]
theorem Lo.avg {p q:Int}(h:Lo wk dr c p q)(hq:0<q)(hne:c.1 ≠ [])(hw:∀x∈c.2,0≤wk x):p*c.1.length<q*tot wk c:=by
 obtain⟨x,hx⟩:=List.exists_mem_of_ne_nil _ hne
 have:=h (fun _=>true) ⟨x,hx,rfl⟩
 rw [zft] at this
 exact y3p this (y1v (zhy hw _) (y25 hq))
theorem Hi.avg {p q:Int}(h:Hi wk dr c p q):q*tot wk c≤p*c.1.length:=by
 have:=h (fun _=>true)
 rw [zft,zdk] at this
 exact this
theorem Cut.lo_rest (C:Cut wk dr c.1 c.2 m W nc nh){p q:Int}(h:Lo wk dr c p q):Lo wk dr (restOf c nc nh) p q:=by
 intro T hT
 obtain⟨k,h1,h2⟩:=hT
 have h1':k∈c.1.filter fun h=>!nh h:=h1
 obtain⟨h3,h4⟩:=y17.mp h1'
 have g:=h (fun h=>!nh h&&T h) ⟨k,h3,by rw [h4,h2]; rfl⟩
 rw [zd7]
 refine y3p g (y3d ?_)
 congr 1
 unfold ze8 restOf
 rw [z2e]
 refine z1h fun x hx=>?_
 by_cases a:nc x=true
 ·have e:c.1.any (fun h=>((dr x).contains h&&(!nh h&&T h)))=false:=by
   rw [y69]
   intro h hh
   by_cases d:(dr x).contains h=true
   ·rw [C.up x hx h hh (y1t.mp d) a]; simp
   ·have d':(dr x).contains h=false:=by simpa using d
    rw [d']; simp
  rw [e]
  simp [a]
 ·have e:(c.1.filter fun h=>!nh h).any (fun h=>((dr x).contains h&&T h))=c.1.any (fun h=>((dr x).contains h&&(!nh h&&T h))):=by
   rw [any_filter]
   refine z9t fun h _=>?_
   cases (dr x).contains h<;>cases nh h<;>cases T h<;>rfl
  rw [e]
  simp [a]
theorem Cut.hi_near (C:Cut wk dr c.1 c.2 m W nc nh){p q:Int}(hq:0<q)(hw:∀x∈c.2,0≤wk x)(h:Hi wk dr c p q):Hi wk dr (nearOf c nc nh) p q:=by
 intro T
 have g:=h (fun h=>nh h&&T h)
 rw [zcl]
 refine y2x (y1v ?_ (y25 hq)) g
 unfold inside nearOf
 rw [z2e]
 refine z8j fun x hx=>?_
 have w0:=hw x hx
 by_cases a:nc x=true
 ·have e:(c.1.filter nh).all (fun h=>(!(dr x).contains h||T h))=c.1.all (fun h=>(!(dr x).contains h||(nh h&&T h))):=by
   rw [all_filter]
   refine zaw fun h hh=>?_
   by_cases d:(dr x).contains h=true
   ·rw [C.up x hx h hh (y1t.mp d) a,d]; simp
   ·have d':(dr x).contains h=false:=by simpa using d
    rw [d']; simp
  rw [e,if_pos a]
  exact y1u _
 ·rw [if_neg a]
  split<;>omega
end
structure Crowds (wk:Nat→Int)(dr:Nat→List Nat)(many chores:Nat)(L:List Cr):Prop where
 ord:∀(i:Nat) x y,L[i]?=some x→L[i+1]?=some y→zoa wk dr x y
 ne:∀c∈L,c.1 ≠ []
 own:∀c∈L,∀x∈c.2,∃h∈c.1,h∈dr x
 up:∀(i:Nat) c,L[i]?=some c→∀x∈c.2,∀h∈dr x,∃(j:Nat) (d:Cr),j≤i∧L[j]?=some d∧h∈d.1
 hs:∀h:Nat,(L.map fun c=>c.1.count h).sum=if h<many then 1 else 0
 cs:∀x:Nat,(L.map fun c=>c.2.count x).sum=if x<chores then 1 else 0
 hr:∀c∈L,c.1.Pairwise (· < ·)
 cr:∀c∈L,c.2.Pairwise (· < ·)
theorem z7f {p:Nat→Bool}{l:List Nat}(h:Nat):(l.filter p).count h+(l.filter fun x=>!p x).count h=l.count h:=by
 induction l with
 | nil=>rfl
 | cons x r ih =>
  rw [y37,y37]
  by_cases a:p x=true
  ·simp only [a,if_true,Bool.not_true,y4j,if_false,y5l]
   omega
  ·have a':p x=false:=by simpa using a
   simp only [a',y4j,if_false,Bool.not_false,if_true,y5l]
   omega
theorem z29 {α:Type}{A B:List α}{c:α}(i:Nat):(A++c::B)[i]?=if i<A.length then A[i]? else if i=A.length then some c else B[i - A.length - 1]?:=by
 split
 ·rename_i h; exact y0q h
 ·rename_i h
  rw [y0w (by omega)]
  split
  ·rename_i h2; subst h2; simp
  ·rename_i h2
   rw [show i - A.length=(i - A.length - 1)+1 by omega]
   simp
theorem z4w {α:Type}{A B:List α}{c d:α}(i:Nat):(A++c::d::B)[i]?=if i<A.length then A[i]? else if i=A.length then some c else if i=A.length+1 then some d else B[i - A.length - 2]?:=by
 rw [z29]
 split
 ·rfl
 ·split
  ·rfl
  ·rename_i h1 h2
   split
   ·rename_i h3
    subst h3
    simp
   ·rename_i h3
    rw [show i - A.length - 1=(i - A.length - 2)+1 by omega]
    simp
theorem Crowds.cut {wk:Nat→Int}{dr:Nat→List Nat}{many chores:Nat}{A B:List Cr}{c:Cr}(hw:∀x,0<wk x)(K:Crowds wk dr many chores (A++c::B)){nc nh:Nat→Bool}(C:Cut wk dr c.1 c.2 c.1.length (tot wk c) nc nh)(hn:∃h∈c.1,nh h=true) :
  Crowds wk dr many chores (A++nearOf c nc nh::restOf c nc nh::B):=by
 have hc:c∈A++c::B:=by simp
 have hcn:=K.ne c hc
 have m0:(0:Int)<c.1.length:=by
  have:=y0s.mpr hcn
  omega
 have w0:∀x∈c.2,0≤wk x:=fun x _=>y25 (hw x)
 have mem:∀d,d∈A++nearOf c nc nh::restOf c nc nh::B→d=nearOf c nc nh∨d=restOf c nc nh∨d∈A++c::B:=fun d hd=>by
  rcases y13.mp hd with h | h
  ·exact .inr (.inr (y13.mpr (.inl h)))
  ·rcases y0m.mp h with h | h
   ·exact .inl h
   ·rcases y0m.mp h with h | h
    ·exact .inr (.inl h)
    ·exact .inr (.inr (y13.mpr (.inr (y0c _ h))))
 obtain⟨hf,hf1,hf2⟩:=C.far hn
 obtain⟨hh,hh1,hh2⟩:=hn
 have nowork:∀x∈c.2,nc x=false→∃h∈c.1,nh h=false∧h∈dr x:=fun x hx hnx=>by
  apply Classical.byContradiction
  intro hno
  have q:=C.hi (fun _=>false)
  have z:(c.1.map fun h=>if (!nh h&&false)=true then tot wk c else 0).sum=0:=by
   have:(c.1.map fun h=>if (!nh h&&false)=true then tot wk c else 0)=c.1.map fun _=>0:=by
    refine y0j fun h _=>?_
    simp
   rw [this]
   clear this
   induction c.1 with
   | nil=>rfl
   | cons a r ih=>simp [ih]
  rw [z] at q
  have pos:(0:Int)<wk x*c.1.length:=y56 (hw x) m0
  have one:wk x*c.1.length≤(c.2.map fun y=>if (!nc y&&c.1.all fun h=>(nh h || !(dr y).contains h||false))=true then wk y*c.1.length else 0).sum:=by
   have nn:∀y∈c.2,(0:Int)≤(if (!nc y&&c.1.all fun h=>(nh h || !(dr y).contains h||false))=true then wk y*c.1.length else 0):=fun y _=>by
    split
    ·exact y2j (y25 (hw y)) (y25 m0)
    ·exact y1u _
   have at':(if (!nc x&&c.1.all fun h=>(nh h || !(dr x).contains h||false))=true then wk x*c.1.length else 0)=wk x*c.1.length:=by
    have:c.1.all (fun h=>(nh h || !(dr x).contains h||false))=true:=by
     rw [y2p]
     intro h hh'
     by_cases a:nh h=true
     ·simp [a]
     ·by_cases d:(dr x).contains h=true
      ·exact absurd ⟨h,hh',by simpa using a,y1t.mp d⟩ hno
      ·have d':(dr x).contains h=false:=by simpa using d
       rw [d']; simp
    rw [this,hnx]
    rfl
   have key:∀(l:List Nat) (f:Nat→Int),(∀y∈l,0≤f y)→x∈l→f x≤(l.map f).sum:=by
    intro l f hl hm
    induction l with
    | nil=>simp at hm
    | cons a r ih =>
     simp only [y0h,y0n]
     have ha:=hl a y0d
     have hr:∀y∈r,0≤f y:=fun y hy=>hl y (y0c _ hy)
     have hs:0≤(r.map f).sum:=sum_nn fun i v hv=>by
      obtain⟨y,hy,rfl⟩:=y1h.mp (y02 hv)
      exact hr y hy
     rcases y0m.mp hm with rfl | hm
     ·omega
     ·have:=ih hr hm
      omega
   exact y2x (y3d at'.symm) (key c.2 (fun y=>if (!nc y&&c.1.all fun h=>(nh h || !(dr y).contains h||false))=true then wk y*c.1.length else 0) nn hx)
  omega
 refine⟨fun i x y hx hy=>?_,fun d hd=>?_,fun d hd=>?_,fun i d hd x hx h hh'=>?_,fun h=>?_,fun x=>?_,fun d hd=>?_,fun d hd=>?_⟩
 ·rw [z4w] at hx hy
  have old:=fun (i:Nat) (x y:Cr) (h1:(A++c::B)[i]?=some x) (h2:(A++c::B)[i+1]?=some y)=>K.ord i x y h1 h2
  rcases y2s (i+1) A.length with h | h | h
  ·rw [if_pos (by omega)] at hx
   rw [if_pos (by omega)] at hy
   exact old i x y (by rw [z29,if_pos (by omega)]; exact hx) (by rw [z29,if_pos (by omega)]; exact hy)
  ·rw [if_pos (by omega)] at hx
   rw [if_neg (by omega),if_pos (by omega)] at hy
   cases hy
   obtain⟨p,q,q0,l,u⟩:=old i x c (by rw [z29,if_pos (by omega)]; exact hx) (by rw [z29,if_neg (by omega),if_pos (by omega)])
   exact⟨p,q,q0,l,C.hi_near q0 w0 u⟩
  ·rcases y2s i A.length with h' | h' | h'
   ·omega
   ·rw [if_neg (by omega),if_pos h'] at hx
    rw [if_neg (by omega),if_neg (by omega),if_pos (by omega)] at hy
    cases hx
    cases hy
    exact⟨tot wk c,c.1.length,m0,C.lo_near,C.hi_rest⟩
   ·rw [if_neg (by omega),if_neg (by omega)] at hx
    rw [if_neg (by omega),if_neg (by omega),if_neg (by omega)] at hy
    by_cases h2:i=A.length+1
    ·rw [if_pos h2] at hx
     cases hx
     obtain⟨p,q,q0,l,u⟩:=old A.length c y (by rw [z29,if_neg (by omega),if_pos rfl]) (by rw [z29,if_neg (by omega),if_neg (by omega)]; rw [show i+1 - A.length - 2=A.length+1 - A.length - 1 by omega] at hy; exact hy)
     exact⟨p,q,q0,C.lo_rest l,u⟩
    ·rw [if_neg h2] at hx
     refine old (i - 1) x y ?_ ?_
     ·rw [z29,if_neg (by omega),if_neg (by omega),show i - 1 - A.length - 1=i - A.length - 2 by omega]
      exact hx
     ·rw [z29,if_neg (by omega),if_neg (by omega),show i - 1+1 - A.length - 1=i+1 - A.length - 2 by omega]
      exact hy
 ·rcases mem d hd with rfl | rfl | h
  ·intro z
   have:hh∈(nearOf c nc nh).1:=y17.mpr ⟨hh1,hh2⟩
   rw [z] at this
   simp at this
  ·intro z
   have:hf∈(restOf c nc nh).1:=y17.mpr ⟨hf1,by rw [hf2]; rfl⟩
   rw [z] at this
   simp at this
  ·exact K.ne d h
 ·rcases mem d hd with rfl | rfl | h
  ·intro x hx
   have hx':x∈c.2.filter nc:=hx
   obtain⟨h1,h2⟩:=y17.mp hx'
   obtain⟨h,h3,h4⟩:=K.own c hc x h1
   exact⟨h,y17.mpr ⟨h3,C.up x h1 h h3 h4 h2⟩,h4⟩
  ·intro x hx
   have hx':x∈c.2.filter fun x=>!nc x:=hx
   obtain⟨h1,h2⟩:=y17.mp hx'
   obtain⟨h,h3,h4,h5⟩:=nowork x h1 (by simpa using h2)
   exact⟨h,y17.mpr ⟨h3,by rw [h4]; rfl⟩,h5⟩
  ·exact K.own d h
 ·-- where a doer stands
  have place:∀(j:Nat) (d:Cr) (lim:Nat),(A++c::B)[j]?=some d→h∈d.1→(j<A.length→j≤lim)→(j=A.length→A.length+1≤lim∨(nh h=true∧A.length≤lim))→(A.length<j→j+1≤lim)→∃(j:Nat) (d:Cr),j≤lim∧(A++nearOf c nc nh::restOf c nc nh::B)[j]?=some d∧h∈d.1:=by
   intro j d lim hj hd' b1 b2 b3
   rw [z29] at hj
   rcases y2s j A.length with q | q | q
   ·rw [if_pos q] at hj
    exact⟨j,d,b1 q,by rw [z4w,if_pos q]; exact hj,hd'⟩
   ·rw [if_neg (by omega),if_pos q] at hj
    cases hj
    by_cases a:nh h=true
    ·refine⟨A.length,nearOf c nc nh,?_,by rw [z4w,if_neg (by omega),if_pos rfl],y17.mpr ⟨hd',a⟩⟩
     rcases b2 q with z | z
     ·omega
     ·exact z.2
    ·rcases b2 q with z | z
     ·exact⟨A.length+1,restOf c nc nh,z,by rw [z4w,if_neg (by omega),if_neg (by omega),if_pos rfl],y17.mpr ⟨hd',by simpa using a⟩⟩
     ·exact absurd z.1 a
   ·rw [if_neg (by omega),if_neg (by omega)] at hj
    exact⟨j+1,d,b3 q,by rw [z4w,if_neg (by omega),if_neg (by omega),if_neg (by omega),show j+1 - A.length - 2=j - A.length - 1 by omega]; exact hj,hd'⟩
  rw [z4w] at hd
  rcases y2s i A.length with q | q | q
  ·rw [if_pos q] at hd
   obtain⟨j,e,h1,h2,h3⟩:=K.up i d (by rw [z29,if_pos q]; exact hd) x hx h hh'
   exact place j e i h2 h3 (fun _=>h1) (fun z=>by omega) (fun z=>by omega)
  ·rw [if_neg (by omega),if_pos q] at hd
   cases hd
   have hx':x∈c.2.filter nc:=hx
   obtain⟨g1,g2⟩:=y17.mp hx'
   obtain⟨j,e,h1,h2,h3⟩:=K.up i c (by rw [z29,if_neg (by omega),if_pos q]) x g1 h hh'
   refine place j e i h2 h3 (fun _=>h1) (fun z=>.inr ⟨?_,by omega⟩) (fun z=>by omega)
   rw [z29,if_neg (by omega),if_pos z] at h2
   cases h2
   exact C.up x g1 h h3 hh' g2
  ·rw [if_neg (by omega),if_neg (by omega)] at hd
   by_cases h2:i=A.length+1
   ·rw [if_pos h2] at hd
    cases hd
    have hx':x∈c.2.filter fun x=>!nc x:=hx
    obtain⟨g1,g2⟩:=y17.mp hx'
    obtain⟨j,e,h1,h2',h3⟩:=K.up A.length c (by rw [z29,if_neg (by omega),if_pos rfl]) x g1 h hh'
    exact place j e i h2' h3 (fun _=>by omega) (fun z=>.inl (by omega)) (fun z=>by omega)
   ·rw [if_neg h2] at hd
    obtain⟨j,e,h1,h2',h3⟩:=K.up (i - 1) d (by rw [z29,if_neg (by omega),if_neg (by omega),show i - 1 - A.length - 1=i - A.length - 2 by omega]; exact hd) x hx h hh'
    exact place j e i h2' h3 (fun _=>by omega) (fun z=>.inl (by omega)) (fun z=>by omega)
 ·have:=K.hs h
  rw [←this]
  simp only [y0g,y0h,y20,y0n]
  have:=z7f (p:=nh) (l:=c.1) h
  have e1:(nearOf c nc nh).1=c.1.filter nh:=rfl
  have e2:(restOf c nc nh).1=c.1.filter fun x=>!nh x:=rfl
  rw [e1,e2]
  omega
 ·have:=K.cs x
  rw [←this]
  simp only [y0g,y0h,y20,y0n]
  have:=z7f (p:=nc) (l:=c.2) x
  have e1:(nearOf c nc nh).2=c.2.filter nc:=rfl
  have e2:(restOf c nc nh).2=c.2.filter fun x=>!nc x:=rfl
  rw [e1,e2]
  omega
 ·rcases mem d hd with rfl | rfl | h
  ·exact(K.hr c hc).filter _
  ·exact(K.hr c hc).filter _
  ·exact K.hr d h
 ·rcases mem d hd with rfl | rfl | h
  ·exact(K.cr c hc).filter _
  ·exact(K.cr c hc).filter _
  ·exact K.cr d h
theorem Crowds.fall {wk:Nat→Int}{dr:Nat→List Nat}{many chores:Nat}{L:List Cr}(hw:∀x,0<wk x)(K:Crowds wk dr many chores L){i:Nat}{x y:Cr}(hx:L[i]?=some x)(hy:L[i+1]?=some y):tot wk y*x.1.length<tot wk x*y.1.length:=by
 obtain⟨p,q,q0,l,u⟩:=K.ord i x y hx hy
 have a:=l.avg q0 (K.ne x (y02 hx)) (fun z _=>y25 (hw z))
 have b:=u.avg
 have x0:(0:Int)<x.1.length:=by
  have:=y0s.mpr (K.ne x (y02 hx))
  omega
 have y0:(0:Int)<y.1.length:=by
  have:=y0s.mpr (K.ne y (y02 hy))
  omega
 have a1:q*tot wk y*x.1.length≤p*y.1.length*x.1.length:=y1g b (y25 x0)
 have a2:p*x.1.length*y.1.length<q*tot wk x*y.1.length:=y28 a y0
 have a3:q*(tot wk y*x.1.length)<q*(tot wk x*y.1.length):=by
  have e1:q*(tot wk y*x.1.length)=q*tot wk y*x.1.length:=(y2y _ _ _).symm
  have e2:q*(tot wk x*y.1.length)=q*tot wk x*y.1.length:=(y2y _ _ _).symm
  have e3:p*(y.1.length:Int)*x.1.length=p*x.1.length*y.1.length:=by rw [y2y,y2l (y.1.length:Int),←y2y]
  omega
 exact Int.lt_of_mul_lt_mul_left a3 (y25 q0)
end PM
set_option Elab.async false
set_option linter.all false
set_option maxRecDepth 100000
namespace L2.EX
open PySem PySem.Spec PyProof.Rows
def zjn (xs:List V)(lo hi st:Option Int):List V:=(sliceRange (sliceBounds lo hi st xs.length).1 (sliceBounds lo hi st xs.length).2.1 (sliceBounds lo hi st xs.length).2.2).filterMap (xs[·]?)
theorem Vals.pick {xs:List V}{us:List Value}(r:Vals xs us):∀ix:List Nat,Vals (ix.filterMap (xs[·]?)) (ix.filterMap (us[·]?))
 | []=>.nil
 | i::ix=>by
  have ih:=Vals.pick r ix
  cases h:xs[i]? with
  | none =>
   have h':=r.none_of h
   simp only [y2f,h,h']
   exact ih
  | some x =>
   obtain⟨u,h',q⟩:=r.get h
   simp only [y2f,h,h']
   exact .cons q ih
section
variable {X:Cx}{e ste:Expr}{te:TE}{lo hi:Option Expr}{tl th ts:TO}{pos p2:Pos}
def zoh (K:y03)(te:TE)(tl th ts:TO)(σ:St)(H:Hp)(Q:VK):Prop:=te σ H fun x H1=>tl σ H1 fun l H2=>th σ H2 fun u H3=>ts σ H3 fun st H4=>match x with
 | .ref a=>∃xs,SqL K H4 a xs∧st≠some 0∧∀p,H4 p=none→Q (.ref p) (upd H4 p (.lst (zjn xs l u st)))
 | _=>False
theorem zc9 (he:PE X e te)(hl:PO X lo tl)(hu:PO X hi th)(hs:PO X (some ste) ts):PE X (.Subscript e (.Slice lo hi (some ste) p2) pos) (zoh X.K te tl th ts):=by
 intro pins s σ H Q I h
 refine Subscript_ (thn (he pins s σ H _ I h) fun v s1 ⟨x,H1,I1,r1,q1⟩=>?_)
 refine wpAny_Slice (thn (hl pins s1 σ H1 _ I1 q1) fun vl s2 ⟨l,H2,I2,pl,q2⟩=>thn (hu pins s2 σ H2 _ I2 q2) fun vu s3 ⟨u,H3,I3,pu,q3⟩=>thn (hs pins s3 σ H3 _ I3 q3) fun vs s4 h4=>?_)
 obtain⟨st,H4,I4,ps,q4⟩:=h4
 have I5:Inv X pins σ H4 { s4 with heap:=s4.heap.push { cls:=.type "slice",data:=.fields #[vl,vu,vs] } }:=I4.kept (t':=s4.toks) fun b ob q=>Heap.get?_push_of_some _ q
 obtain⟨a,rfl⟩:∃a,x = .ref a:=by cases x<;>first | exact⟨_,rfl⟩ | exact q4.elim
 obtain⟨xs,hx,h0,q⟩:=q4
 cases r1
 obtain⟨its,r,ht,hz⟩:=I5.list hx
 have hlen:=r.length
 show wpAny (model X.prog X.w) X.A (subscriptTail e (.Slice lo hi (some ste) p2) (.ref a) (.ref s4.heap.objs.size)) (EP X pins σ Q) X.xe { s4 with heap:=s4.heap.push { cls:=.type "slice",data:=.fields #[vl,vu,vs] } }
 refine tail_any (ops:=[.ref a,.ref s4.heap.objs.size]) ht.isList.typeIs slot_list_getitem.lookup ?_ (by with_unfolding_all rfl)
 refine wpAny_getItem_list_slice ht.isList (Heap.IsSliceOf.new ..) pl pu ps h0 ?_ (by rw [y0l]<;>omega)
 have e2:slicePick its.toArray l u st=((sliceRange (sliceBounds l u st xs.length).1 (sliceBounds l u st xs.length).2.1 (sliceBounds l u st xs.length).2.2).filterMap (its[·]?)).toArray:=by
  unfold slicePick
  rw [y0l,←hlen]
  simp
 rw [e2]
 have hz':(zjn xs l u st).length≤sizeLine:=by
  have h1:=slicePick_size_le its.toArray l u st
  rw [e2] at h1
  have h2:=(Vals.pick r (sliceRange (sliceBounds l u st xs.length).1 (sliceBounds l u st xs.length).2.1 (sliceBounds l u st xs.length).2.2)).length
  simp only [y0l] at h1
  have:(zjn xs l u st).length=((sliceRange (sliceBounds l u st xs.length).1 (sliceBounds l u st xs.length).2.1 (sliceBounds l u st xs.length).2.2).filterMap (its[·]?)).length:=h2
  omega
 refine⟨.ref _,_,I5.laid (t':=s4.toks) (o:=.lst (zjn xs l u st)) (fun b ob q=>Heap.get?_push_of_some _ q) (y0a _) ?_,rfl,q _ (I5.hok.fresh (y0a _))⟩
 exact⟨hz',_,0,Vals.pick r _,Heap.get?_push_size _ rfl⟩
end
theorem z8o {α:Type}{x y:α}{r:List α}:∀(c k:Nat),((y0b c).map (fun i=>k+2+2*i)).filterMap ((x::y::r)[·]?)=((y0b c).map (fun i=>k+2*i)).filterMap (r[·]?):=by
 intro c k
 rw [y66,y66]
 congr 1
 funext i
 simp only [Function.comp]
 rw [show k+2+2*i=(k+2*i)+1+1 by omega]
 simp
theorem z7g {α:Type}:∀(xs:List α),((y0b ((xs.length+1) / 2)).map (fun i=>0+2*i)).filterMap (xs[·]?)=PM.alt true xs∧((y0b (xs.length / 2)).map (fun i=>1+2*i)).filterMap (xs[·]?)=PM.alt false xs
 | []=>⟨by simp [PM.alt],by simp [PM.alt]⟩
 | [x]=>⟨by simp [PM.alt],by simp [PM.alt]⟩
 | x::y::r=>by
  obtain⟨h1,h2⟩:=z7g r
  have e1:((x::y::r).length+1) / 2=(r.length+1) / 2+1:=by simp only [y1b]; omega
  have e2:(x::y::r).length / 2=r.length / 2+1:=by simp only [y1b]; omega
  constructor
  ·rw [e1,y5d,y0h,y26,y2f]
   have e:((fun i=>0+2*i)∘Nat.succ)=fun i=>0+2+2*i:=by funext i; simp only [Function.comp]; omega
   rw [e,z8o,h1]
   rfl
  ·rw [e2,y5d,y0h,y26,y2f]
   have e:((fun i=>1+2*i)∘Nat.succ)=fun i=>1+2+2*i:=by funext i; simp only [Function.comp]; omega
   rw [e,z8o,h2]
   rfl
theorem zeh (xs:List V):zjn xs (some 0) none (some 2)=PM.alt true xs:=by
 rw [←(z7g xs).1]
 unfold zjn sliceRange
 congr 1
 have e1:(sliceBounds (some 0) none (some 2) xs.length).1=0:=by
  have:max (0:Int) (min 0 (xs.length:Int))=0:=by omega
  simpa [sliceBounds] using this
 have e2:(sliceBounds (some 0) none (some 2) xs.length).2.1=xs.length:=by simp [sliceBounds]
 have e3:(sliceBounds (some 0) none (some 2) xs.length).2.2=2:=by simp [sliceBounds]
 rw [e1,e2,e3]
 have c:(if (2:Int)>0 then (if (0:Int)<(xs.length:Int) then ((xs.length:Int) - 0+2 - 1) / 2 else 0) else (if (0:Int)>(xs.length:Int) then (0 - (xs.length:Int) - 2 - 1) / (-2) else 0)).toNat=(xs.length+1) / 2:=by
  rw [if_pos (by decide)]
  split<;>omega
 show(y0b (y42 _)).map _=_
 rw [c]
 refine y0j fun k _=>?_
 omega
theorem zcd (xs:List V):zjn xs (some 1) none (some 2)=PM.alt false xs:=by
 rw [←(z7g xs).2]
 unfold zjn sliceRange
 congr 1
 have e2:(sliceBounds (some 1) none (some 2) xs.length).2.1=xs.length:=by simp [sliceBounds]
 have e3:(sliceBounds (some 1) none (some 2) xs.length).2.2=2:=by simp [sliceBounds]
 rw [e2,e3]
 rcases y1x xs.length with z | z
 ·have c:xs.length / 2=0:=by omega
  rw [c,z]
  rfl
 ·have e1:(sliceBounds (some 1) none (some 2) xs.length).1=1:=by
   have:max (0:Int) (min 1 (xs.length:Int))=1:=by omega
   simpa [sliceBounds] using this
  rw [e1]
  have c:(if (2:Int)>0 then (if (1:Int)<(xs.length:Int) then ((xs.length:Int) - 1+2 - 1) / 2 else 0) else (if (1:Int)>(xs.length:Int) then (1 - (xs.length:Int) - 2 - 1) / (-2) else 0)).toNat=xs.length / 2:=by
   rw [if_pos (by decide)]
   split<;>omega
  show(y0b (y42 _)).map _=_
  rw [c]
  refine y0j fun k _=>?_
  omega
end L2.EX
set_option Elab.async false
set_option linter.all false
set_option maxRecDepth 100000
namespace L2.EX
open PySem PySem.Spec PyProof.Rows
def CNx (Pv:Nat→List V→Hp→Prop)(n i:Nat)(ys:List V)(H:Hp):Prop:=∃m',m'<n+1 - i∧m'=n - i∧i≤n∧Pv i ys H
theorem CNx.mk {Pv:Nat→List V→Hp→Prop}{n i:Nat}{ys:List V}{H:Hp}(h:Pv i ys H)(hi:i≤n):CNx Pv n i ys H:=⟨n - i,by omega,rfl,hi,h⟩
section
variable {K:y03}{g:TG}{tt:TT}{te:TE}{σ0:St}{Q:VK}{H:Hp}
theorem z1j {a:Addr}{xs:List V}(Pv:Nat→List V→Hp→Prop)(h0:Pv 0 [] H)(hz:xs.length<sizeLine)(hl:∀i ys H,i≤xs.length→Pv i ys H→SqL K H a xs∧ys.length≤i)
  (hs:∀i x ys H,xs[i]?=some x→Pv i ys H→g x σ0 H fun σ2 H2=>tt σ2 H2 fun b H3=>if b=true then te σ2 H3 fun y H4=>CNx Pv xs.length (i+1) (ys ++ [y]) H4 else CNx Pv xs.length (i+1) ys H3)
  (hd:∀ys H,Pv xs.length ys H→∀l,H l=none→Q (.ref l) (upd H l (.lst ys))):z50 (Itl K a) g tt te σ0 Q H:=by
 refine⟨fun i m ys H=>m=xs.length - i∧i≤xs.length∧Pv i ys H,⟨xs.length,by simp,y2g _,h0⟩,?_⟩
 rintro i m ys H ⟨rfl,hi,p⟩
 obtain⟨q,yl⟩:=hl i ys H hi p
 by_cases hlt:i<xs.length
 ·refine .inr ⟨⟨xs,xs[i],q,by simp [hlt]⟩,by omega,fun x H' y=>?_⟩
  obtain⟨e1,e2⟩:=y
  have e3:=e2 xs q
  subst e1
  have hx:xs[i]?=some x:=e3
  have z:=hs i x ys H' hx p
  rw [show xs.length - i=xs.length+1 - (i+1) by omega]
  exact z
 ·have e:i=xs.length:=by omega
  subst e
  exact .inl ⟨⟨xs,q,y0a _⟩,by omega,hd ys H p⟩
theorem zap {a:Addr}{xs:List V}(Pv:Nat→List V→Hp→Prop)(h0:Pv 0 [] H)(hz:xs.length<sizeLine)(hl:∀i ys H,i≤xs.length→Pv i ys H→SqL K H a xs∧ys.length≤i)
  (hs:∀i x ys H p,xs[i]?=some x→Pv i ys H→H p=none→g (.ref p) σ0 (upd H p (.tup [.int i,x])) fun σ2 H2=>tt σ2 H2 fun b H3=>if b=true then te σ2 H3 fun y H4=>CNx Pv xs.length (i+1) (ys ++ [y]) H4 else CNx Pv xs.length (i+1) ys H3)
  (hd:∀ys H,Pv xs.length ys H→∀l,H l=none→Q (.ref l) (upd H l (.lst ys))):z50 (Ite K a) g tt te σ0 Q H:=by
 refine⟨fun i m ys H=>m=xs.length - i∧i≤xs.length∧Pv i ys H,⟨xs.length,by simp,y2g _,h0⟩,?_⟩
 rintro i m ys H ⟨rfl,hi,p⟩
 obtain⟨q,yl⟩:=hl i ys H hi p
 by_cases hlt:i<xs.length
 ·refine .inr ⟨⟨xs,xs[i],q,by simp [hlt]⟩,by omega,fun x H' y=>?_⟩
  obtain⟨t,v,ht,e1,e2,e3⟩:=y
  subst e1 e2
  have z:=hs i v ys H t (e3 xs q) p ht
  rw [show xs.length - i=xs.length+1 - (i+1) by omega]
  exact z
 ·have e:i=xs.length:=by omega
  subst e
  exact .inl ⟨⟨xs,q,y0a _⟩,by omega,hd ys H p⟩
theorem z8i {lo:Int}{n:Nat}(Pv:Nat→List V→Hp→Prop)(h0:Pv 0 [] H)(hz:n<sizeLine)(hl:∀i ys H,i≤n→Pv i ys H→ys.length≤i)
  (hs:∀i ys H,i<n→Pv i ys H→g (.int (lo+i)) σ0 H fun σ2 H2=>tt σ2 H2 fun b H3=>if b=true then te σ2 H3 fun y H4=>CNx Pv n (i+1) (ys ++ [y]) H4 else CNx Pv n (i+1) ys H3)
  (hd:∀ys H,Pv n ys H→∀l,H l=none→Q (.ref l) (upd H l (.lst ys))):z50 (Itr lo n) g tt te σ0 Q H:=by
 refine⟨fun i m ys H=>m=n - i∧i≤n∧Pv i ys H,⟨n,by simp,y2g _,h0⟩,?_⟩
 rintro i m ys H ⟨rfl,hi,p⟩
 have yl:=hl i ys H hi p
 by_cases hlt:i<n
 ·refine .inr ⟨hlt,by omega,fun x H' y=>?_⟩
  obtain⟨e1,e2⟩:=y
  subst e1 e2
  have z:=hs i ys _ hlt p
  rw [show n - i=n+1 - (i+1) by omega]
  exact z
 ·have e:i=n:=by omega
  subst e
  exact .inl ⟨y0a _,by omega,hd ys H p⟩
end
section
variable {X:Cx}{scope:Scope}{N:List Str}{c:CC}{e:Expr}
theorem pgC {g g':TG}(h:PG (z0u X scope N c) e g)(q:g=g'):PG (z0u X scope N c) e g':=q▸h
theorem peC {g g':TE}(h:PE (z0u X scope N c) e g)(q:g=g'):PE (z0u X scope N c) e g':=q▸h
theorem ptC {g g':TT}(h:PT (z0u X scope N c) e g)(q:g=g'):PT (z0u X scope N c) e g':=q▸h
end
end L2.EX
set_option Elab.async false
set_option linter.all false
set_option maxRecDepth 100000
namespace L2.EX
open PySem PySem.Spec PyProof.Rows
def ItAt (t:Bool)(h:Heap)(i a:Addr)(k:Nat):Prop:=if t then h.IsTupleIter i a k else h.IsListIter i a k
def SeqAt (t:Bool)(h:Heap)(a:Addr)(xs:Array Value):Prop:=if t then h.IsTuple a xs else h.IsList a xs
theorem ItAt.at {t:Bool}{h h':Heap}{i a:Addr}{k:Nat}(x:ItAt t h i a k)(e:∀o,h.get? i=some o→h'.get? i=some o):ItAt t h' i a k:=by
 cases t
 ·exact Heap.IsListIter.at x e
 ·exact Heap.IsTupleIter.at x e
theorem SeqAt.at {t:Bool}{h h':Heap}{a:Addr}{xs:Array Value}(x:SeqAt t h a xs)(e:∀o,h.get? a=some o→h'.get? a=some o):SeqAt t h' a xs:=by
 cases t
 ·obtain⟨o,ho,r⟩:=x
  exact⟨o,e _ ho,r⟩
 ·obtain⟨o,ho,r⟩:=x
  exact⟨o,e _ ho,r⟩
section
variable {prog:Program}{w:World}{A:Around}{E:Value→Shared→Prop}{s:Shared}
theorem z7y {it t:Addr}{i:Nat}{items:Array Value}{x:Value}{Q:Value→Shared→Prop}(hit:s.heap.IsTupleIter it t i)(ht:s.heap.IsTuple t items)(hx:items[i]?=some x)
  (hQ:∀h',h'.IsTupleIter it t (i+1)→Heap.SameBut it s.heap h'→Q x { s with heap:=h' }):wpAny (model prog w) A (Builtin.SmallTypes.nextOf (.ref it)) Q E s:=by
 obtain⟨o,ho,hc,hd⟩:=id hit
 obtain⟨p,hp,_,n,hdp⟩:=ht
 unfold Builtin.SmallTypes.nextOf
 refine wpAny_bind (wpAny_callSpecial?_slot (name:=Str.ofString "__next__") hit.typeIs F.slot_tuple_iterator_next (wpAny_call_entry F.slot_tuple_iterator_next hit.typeIs F.entry_tuple_iterator_next ?_ (F.args_tuple_iterator_next_1 _)))
 refine wpAny_bind (m:=field (.ref it) 0) (wpAny_field ho hd (x:=.ref t) rfl ?_)
 refine wpAny_bind (m:=field (.ref it) 1) (wpAny_field ho hd (x:=.int i 0) rfl ?_)
 refine wpAny_bind (m:=seqItems? (.ref t)) (wpAny_seqItems hp hdp ?_)
 simp only [y3x,hx]
 refine wpAny_bind (wpAny_setField ho hd (by simp) (wpAny_pure ⟨x,rfl,wpAny_pure (hQ _ ?_ (Heap.SameBut.update ..))⟩))
 exact⟨_,Heap.get?_update_self _ ho (Obj.isFreed_of_fields (Obj.data_mapFields hd _)),(Obj.cls_mapFields ..).trans hc,by rw [Obj.data_mapFields hd]; simp [rawInt]⟩
theorem z8a {it t:Addr}{i:Nat}{items:Array Value}{Q:Value→Shared→Prop}(hh:A.handled=none)(hit:s.heap.IsTupleIter it t i)(ht:s.heap.IsTuple t items)(hx:items[i]?=none)
  (hE:∀h' e,Heap.ExtBut it s.heap h'→(∃o,h'.get? e=some o∧o.cls = .type "StopIteration")→E (.ref e) { s with heap:=h' }):wpAny (model prog w) A (Builtin.SmallTypes.nextOf (.ref it)) Q E s:=by
 obtain⟨o,ho,hc,hd⟩:=id hit
 obtain⟨p,hp,_,n,hdp⟩:=ht
 unfold Builtin.SmallTypes.nextOf
 refine wpAny_bind (wpAny_callSpecial?_slot (name:=Str.ofString "__next__") hit.typeIs F.slot_tuple_iterator_next (wpAny_call_entry F.slot_tuple_iterator_next hit.typeIs F.entry_tuple_iterator_next ?_ (F.args_tuple_iterator_next_1 _)))
 refine wpAny_bind (m:=field (.ref it) 0) (wpAny_field ho hd (x:=.ref t) rfl ?_)
 refine wpAny_bind (m:=field (.ref it) 1) (wpAny_field ho hd (x:=.int i 0) rfl ?_)
 refine wpAny_bind (m:=seqItems? (.ref t)) (wpAny_seqItems hp hdp ?_)
 simp only [y3x,hx]
 refine wpAny_bind (wpAny_rule (wpAny_bind (wpAny_setField ho hd (by simp) ?_)))
 refine wpAny_bind (m:=newExc (.type "StopIteration") []) ?_
 simp only [newExc,newTuple]
 refine wpAny_bind (wpAny_newObj_type ?_ (by size_fits))
 refine wpAny_bind (m:=firstArgMember _ _) (wpAny_of_eq (a:=Value.none) (by first | rfl | (simp only [firstArgMember]; rfl)) ?_)
 refine wpAny_newObj_type ?_ (by size_fits)
 simp only [raiseNew]
 refine wpAny_bind (wpAny_handled ?_)
 first | rw [show A.in1.handled=none from hh] | rw [hh]
 refine wpAny_bind (wpAny_pure (wpAny_throw ?_))
 exact hE _ _ (((Heap.SameBut.update ..).extBut.push _).push _) ⟨_,Heap.get?_push_size _ rfl,rfl⟩
theorem zbd {t:Bool}{i a:Addr}{k:Nat}{xs:Array Value}{x:Value}{Q:Value→Shared→Prop}(hit:ItAt t s.heap i a k)(hs:SeqAt t s.heap a xs)(hx:xs[k]?=some x)
  (hQ:∀h',ItAt t h' i a (k+1)→Heap.SameBut i s.heap h'→Q x { s with heap:=h' }):wpAny (model prog w) A (Builtin.SmallTypes.nextOf (.ref i)) Q E s:=by
 cases t
 ·exact wpAny_nextOf_list_item hit hs hx hQ
 ·exact z7y hit hs hx hQ
theorem zdj {t:Bool}{i a:Addr}{k:Nat}{xs:Array Value}{Q:Value→Shared→Prop}(hh:A.handled=none)(hit:ItAt t s.heap i a k)(hs:SeqAt t s.heap a xs)(hx:xs[k]?=none)
  (hE:∀h' e,Heap.ExtBut i s.heap h'→(∃o,h'.get? e=some o∧o.cls = .type "StopIteration")→E (.ref e) { s with heap:=h' }):wpAny (model prog w) A (Builtin.SmallTypes.nextOf (.ref i)) Q E s:=by
 cases t
 ·exact wpAny_nextOf_list_end hh hit hs hx hE
 ·exact z8a hh hit hs hx hE
end
end L2.EX
set_option Elab.async false
set_option linter.all false
set_option maxRecDepth 100000
namespace L2.EX
open PySem PySem.Spec PyProof.Rows
abbrev z3v (h:Heap)(T:Addr)(vs:List Value):Prop:=h.get? T=some { cls:=.type "tuple",data:=.seq vs.toArray }
abbrev zh3 (b:Nat)(m:Nat):List Value:=(y4f 0 m).map fun j=>Value.ref (b+j)
abbrev zey (h:Heap)(e:Addr):Prop:=∃o,h.get? e=some o∧o.cls = .type "StopIteration"
def Kp (b:Nat)(m:Nat)(c:Nat):Prop:=c<b∨c=b+m∨b+m+2<c
def zje (b:Nat)(m:Nat)(h h':Heap):Prop:=∀(c:Nat) o,Kp b m c→h.get? c=some o→h'.get? c=some o
structure ZSt (b:Nat)(src:List (Bool×Addr))(k:Nat)(f0:Value)(h:Heap):Prop where
 zip:IsZip h (b+src.length+2) (b+src.length) (b+src.length+1) f0
 its:z3v h (b+src.length) (zh3 b src.length)
 own:∃old,old.length=src.length∧z3v h (b+src.length+1) old
 it:∀(j:Nat) p,src[j]?=some p→ItAt p.1 h (b+j) p.2 k
section
variable {prog:Program}{w:World}{A:Around}{E:Value→Shared→Prop}
theorem zpy {T:Addr}{old:List Value}{j:Nat}{x:Value}{s:Shared}{Q:Unit→Shared→Prop}(hT:z3v s.heap T old)(hz:old.length≤sizeLine)(h:∀h',z3v h' T (old.set j x)→Heap.SameBut T s.heap h'→Q () { s with heap:=h' }) :
  wpAny (model prog w) A (updateSeq T (·.setIfInBounds j x)) Q E s:=by
 refine wpAny_updateSeq hT rfl (h _ ?_ (Heap.SameBut.update ..)) (by simpa using hz) (by simp; omega)
 show Heap.get? _ _=_
 rw [Heap.get?_update_self _ hT rfl]
 simp [Obj.mapSeq]
abbrev zog {β:Type}(prog:Program)(w:World)(A:Around)(f:Value×Nat→β→Sem (ForInStep β))(b0:β)(E:Value→Shared→Prop)(b:Nat)(src:List (Bool×Addr))(xss:Nat→Array Value)(k:Nat):Prop :=
 ∀(j:Nat) (p:Bool×Addr) (s:Shared) (old:List Value) (Qf:ForInStep β→Shared→Prop),src[j]?=some p→ItAt p.1 s.heap (b+j) p.2 k→SeqAt p.1 s.heap p.2 (xss j)→old.length=src.length→z3v s.heap (b+src.length+1) old→IsZip s.heap (b+src.length+2) (b+src.length) (b+src.length+1) .ellipsis →
  (∀x h',(xss j)[k]?=some x→ItAt p.1 h' (b+j) p.2 (k+1)→z3v h' (b+src.length+1) (old.set j x)→(∀(c:Nat) o,c≠b+src.length+1→c≠b+j→s.heap.get? c=some o→h'.get? c=some o)→h'.objs.size=s.heap.objs.size→Qf (.yield b0) { s with heap:=h' }) →
  ((xss j)[k]?=none→∀h' e,zje b src.length s.heap h'→zey h' e→E (.ref e) { s with heap:=h' })→wpAny (model prog w) A (f (.ref (b+j),j) b0) Qf E s
theorem zgo {β:Type}{f:Value×Nat→β→Sem (ForInStep β)}{b0:β}{b:Nat}{src:List (Bool×Addr)}{xss:Nat→Array Value}{k:Nat}(hlow:∀p∈src,p.2<b)(hb:zog prog w A f b0 E b src xss k) :
  ∀(r j:Nat),j+r=src.length→∀(done rest:List Value) (s:Shared) (Q:β→Shared→Prop),done.length=j→rest.length=r→z3v s.heap (b+src.length+1) (done++rest)→IsZip s.heap (b+src.length+2) (b+src.length) (b+src.length+1) .ellipsis →
   (∀(i:Nat) p,src[i]?=some p→ItAt p.1 s.heap (b+i) p.2 (if i<j then k+1 else k))→(∀(i:Nat) p,src[i]?=some p→SeqAt p.1 s.heap p.2 (xss i)) →
   (∀h' vals,vals.length=r→(∀i:Nat,i<r→(xss (j+i))[k]?=vals[i]?)→z3v h' (b+src.length+1) (done++vals)→IsZip h' (b+src.length+2) (b+src.length) (b+src.length+1) .ellipsis→(∀(i:Nat) p,src[i]?=some p→ItAt p.1 h' (b+i) p.2 (k+1))→zje b src.length s.heap h'→h'.objs.size=s.heap.objs.size→Q b0 { s with heap:=h' }) →
   ((∃i:Nat,i<src.length∧(xss i)[k]?=none)→∀h' e,zje b src.length s.heap h'→zey h' e→E (.ref e) { s with heap:=h' }) →
   wpAny (model prog w) A (forIn ((y4f j r).map fun i=>(Value.ref (b+i),i)) b0 f) Q E s
 | 0,j,hj,done,rest,s,Q,hd,hr,hT,hz,hi,hs,hQ,hE=>by
  show wpAny _ _ (forIn [] b0 f) _ _ _
  rw [List.forIn_nil]
  have er:rest = []:=y1j.mp hr
  subst er
  refine wpAny_pure (hQ s.heap [] rfl (fun i hi=>absurd hi (y5m _)) hT hz (fun i p hp=>?_) (fun c o _ e=>e) rfl)
  have:=(y00.mp hp).1
  have z:=hi i p hp
  rw [if_pos (show i<j by omega)] at z
  exact z
 | r+1,j,hj,done,[],s,Q,hd,hr,hT,hz,hi,hs,hQ,hE=>by simp at hr
 | r+1,j,hj,done,o::rest,s,Q,hd,hr,hT,hz,hi,hs,hQ,hE=>by
  have hjl:j<src.length:=by omega
  have hp:src[j]?=some src[j]:=by simp [hjl]
  have hlp:src[j].2<b:=hlow _ (y36 hjl)
  have h1:=hi j _ hp
  rw [if_neg (y2q _)] at h1
  rw [List.range'_succ,y0h,y5i]
  refine wpAny_bind (hb j src[j] s (done++o::rest) _ hp h1 (hs j _ hp) (by simp only [y0f,y1b] at hr ⊢; omega) hT hz (fun x h' hx i1 t1 kk sz=>?_) (fun hx h' e kk st=>hE ⟨j,hjl,hx⟩ h' e kk st))
  have eset:(done++o::rest).set j x=(done ++ [x])++rest:=by
   subst hd
   simp
  rw [eset] at t1
  refine zgo hlow hb r (j+1) (by omega) (done ++ [x]) rest { s with heap:=h' } Q (by simp [hd]) (by simpa using hr) t1 (kk _ _ (by omega) (by omega) hz) (fun i p hip=>?_) (fun i p hip=>?_) (fun h2 vals vl vx t2 z2 i2 k2 s2=>?_) (fun hex h2 e k2 st=>hE hex h2 e (fun c o hc g=>k2 c o hc (kk c o (by unfold Kp at hc; omega) (by unfold Kp at hc; omega) g)) st)
  ·have hil:=(y00.mp hip).1
   by_cases e:i=j
   ·subst e
    rw [if_pos (show i<i+1 by omega)]
    rw [hp] at hip
    cases hip
    exact i1
   ·have z:=(hi i p hip).at (h':=h') fun o g=>kk _ _ (by omega) (by omega) g
    by_cases e2:i<j
    ·rw [if_pos e2] at z
     rw [if_pos (show i<j+1 by omega)]
     exact z
    ·rw [if_neg e2] at z
     rw [if_neg (show ¬i<j+1 by omega)]
     exact z
  ·have hil:=(y00.mp hip).1
   have:=hlow p (y02 hip)
   exact(hs i p hip).at fun o g=>kk _ _ (y10 (y0p this (by omega))) (y10 (y0p this (by omega))) g
  ·refine hQ h2 (x::vals) (by simp [vl]) (fun i hi'=>?_) (by simpa using t2) z2 i2 (fun c o hc g=>k2 c o hc (kk c o (by unfold Kp at hc; omega) (by unfold Kp at hc; omega) g)) (by rw [s2]; exact sz)
   cases i with
   | zero=>simpa using hx
   | succ i =>
    have:=vx i (by omega)
    rw [show j+(i+1)=j+1+i by omega]
    simpa using this
end
end L2.EX
set_option Elab.async false
set_option linter.all false
set_option maxRecDepth 100000
namespace L2.EX
open PySem PySem.Spec PyProof.Rows
theorem ze2 (b m:Nat):(zh3 b m).toArray.toList.zipIdx=(y4f 0 m).map fun i=>(Value.ref (b+i),i):=by
 apply y30
 intro i
 simp only [zh3,List.getElem?_zipIdx,y06,Option.map_map]
 by_cases h:i<m
 ·simp [h]
 ·simp [h]
section
variable {prog:Program}{w:World}{A:Around}{E:Value→Shared→Prop}{s:Shared}
theorem zig {b:Nat}{src:List (Bool×Addr)}{xss:Nat→Array Value}{k:Nat}{Q:Value→Shared→Prop}(hh:A.handled=none)(hne:src.length≠0)(hm:src.length≤100)(hlow:∀p∈src,p.2<b)(st:ZSt b src k .none s.heap)
  (hs:∀(i:Nat) p,src[i]?=some p→SeqAt p.1 s.heap p.2 (xss i))
  (hQ:∀h' vals,vals.length=src.length→(∀i:Nat,i<src.length→(xss i)[k]?=vals[i]?)→ZSt b src (k+1) (rawInt s.heap.objs.size) h'→z3v h' s.heap.objs.size vals→h'.objs.size=s.heap.objs.size+1→zje b src.length s.heap h'→Q (.ref s.heap.objs.size) { s with heap:=h' })
  (hE:(∃i:Nat,i<src.length∧(xss i)[k]?=none)→∀h' e,zje b src.length s.heap h'→zey h' e→E (.ref e) { s with heap:=h' }) :
  wpAny (model prog w) A (Builtin.«zip.__next__» ⟨[.ref (b+src.length+2)],[]⟩) (fun fin s'=>∃v,fin = .done (.ret v)∧Q v s') E s:=by
 obtain⟨hz,hTI,⟨old,hol,hTO⟩,hit⟩:=st
 refine wpAny_bind (m:=field (.ref (b+src.length+2)) 2) (wpAny_field hz rfl (x:=.bool false) rfl ?_)
 refine wpAny_bind (m:=field (.ref (b+src.length+2)) 3) (wpAny_field hz rfl (x:=.ref (b+src.length)) rfl ?_)
 refine wpAny_bind (wpAny_seqItems hTI rfl ?_)
 show wpAny _ _ (if (zh3 b src.length).toArray.isEmpty=true then _ else _) _ _ _
 rw [if_neg (by simp only [List.isEmpty_toArray,List.isEmpty_iff,zh3,List.map_eq_nil_iff,List.range'_eq_nil_iff]; exact hne)]
 refine wpAny_bind (m:=Builtin.SmallTypes.ownedTupleIsFree (.ref (b+src.length+2))) ?_
 unfold Builtin.SmallTypes.ownedTupleIsFree
 refine wpAny_bind (wpAny_field hz rfl (x:=.none) rfl (wpAny_pure ?_))
 simp only [if_true]
 refine wpAny_bind (wpAny_rule ?_)
 refine wpAny_bind (wpAny_field hz rfl (x:=.ref (b+src.length+1)) rfl ?_)
 refine wpAny_bind (wpAny_setField_rec hz (by simp) fun h1 hz1 hs1=>?_)
 replace hz1:IsZip h1 (b+src.length+2) (b+src.length) (b+src.length+1) .ellipsis:=hz1
 refine wpAny_bind ?_
 rw [ze2]
 have k1:∀(c:Nat) o,c≠b+src.length+2→s.heap.get? c=some o→h1.get? c=some o:=fun c o hc e=>hs1.extBut _ _ hc e
 have kp1:zje b src.length s.heap h1:=fun c o hc e=>k1 c o (by unfold Kp at hc; omega) e
 refine zgo (b:=b) (src:=src) (xss:=xss) (k:=k) hlow ?_ src.length 0 (by omega) [] old { s with heap:=h1 } _ rfl hol (k1 _ _ (by omega) hTO) hz1 (fun i p hip=>?_) (fun i p hip=>?_) (fun h2 vals vl vx t2 z2 i2 k2 s2=>?_) (fun hex h2 e k2 stp=>hE hex h2 e (fun c o hc g=>k2 c o hc (kp1 c o hc g)) stp)
 ·intro j p s old Qf hp hi hq hl hT hzz hi' he'
  have hjl:=(y00.mp hp).1
  refine wpAny_bind (wpAny_onRaise ?_)
  refine wpAny_bind (m:=Builtin.SmallTypes.nextOf (.ref (b+j))) ?_
  cases hx:(xss j)[k]? with
  | none =>
   refine zdj hh hi hq hx fun h2 e k2 stp=>?_
   obtain⟨oe,hoe,hce⟩:=stp
   have hz2:IsZip h2 (b+src.length+2) (b+src.length) (b+src.length+1) .ellipsis:=k2 _ _ (show b+src.length+2≠b+j by omega) hzz
   have hez:e≠b+src.length+2:=fun x=>by subst x; rw [hz2] at hoe; cases hoe; simp at hce
   exact wpAny_setField_rec hz2 (by simp) fun h3 _ s3=>he' hx h3 e (fun c o hc g=>s3.extBut _ _ (show c≠b+src.length+2 by unfold Kp at hc; omega) (k2 _ _ (show c≠b+j by unfold Kp at hc; omega) g)) ⟨oe,s3.extBut _ _ hez hoe,hce⟩
  | some x =>
   refine zbd hi hq hx fun h2 i2 s2=>wpAny_pure ?_
   have hT2:z3v h2 (b+src.length+1) old:=s2.extBut _ _ (show b+src.length+1≠b+j by omega) hT
   refine wpAny_bind (wpAny_seqItems hT2 rfl ?_)
   refine wpAny_bind (zpy (s:={ s with heap:=h2 }) hT2 (y1a (by omega) (show 100≤sizeLine by decide)) fun h3 hT3 s3=>?_)
   refine wpAny_bind (wpAny_letGo (wpAny_pure ?_))
   refine hi' x h3 hx (i2.at fun o g=>s3.extBut _ _ (show b+j≠b+src.length+1 by omega) g) hT3 (fun c o c1 c2 g=>s3.extBut _ _ c1 (s2.extBut _ _ c2 g)) (by rw [s3.1,s2.1])
 ·rw [if_neg (y5m i)]
  have hil:=(y00.mp hip).1
  exact(hit i p hip).at fun o g=>k1 _ _ (by omega) g
 ·have:=hlow p (y02 hip)
  exact(hs i p hip).at fun o g=>k1 _ _ (y10 (y0p this (by omega))) g
 ·have t2':z3v h2 (b+src.length+1) vals:=t2
  refine wpAny_bind (wpAny_seqItems t2' rfl ?_)
  refine wpAny_bind (wpAny_newTuple ?_ (y1a (show vals.toArray.toList.length≤100 by rw [List.toList_toArray]; omega) (show 100≤sizeLine by decide)))
  have hsz:h2.objs.size=s.heap.objs.size:=by rw [s2]; exact hs1.1
  refine wpAny_bind (m:=Builtin.SmallTypes.ownedTupleHandOut (.ref (b+src.length+2)) (.ref h2.objs.size)) ?_
  unfold Builtin.SmallTypes.ownedTupleHandOut
  have z3:IsZip (h2.push { cls:=.type "tuple",data:=.seq vals.toArray.toList.toArray }) (b+src.length+2) (b+src.length) (b+src.length+1) .ellipsis:=Heap.get?_push_of_some _ z2
  have lt:b+src.length+2<h2.objs.size:=Heap.lt_size z2
  refine wpAny_bind (wpAny_setField_rec z3 (by simp) fun h4 z4 s4=>?_)
  replace z4:IsZip h4 (b+src.length+2) (b+src.length) (b+src.length+1) (rawInt h2.objs.size):=z4
  refine wpAny_setField_rec z4 (by simp) fun h5 z5 s5=>?_
  replace z5:IsZip h5 (b+src.length+2) (b+src.length) (b+src.length+1) (rawInt h2.objs.size):=z5
  have up:∀(c:Nat) o,c≠b+src.length+2→h2.get? c=some o→h5.get? c=some o:=fun c o c1 g=>s5.extBut _ _ c1 (s4.extBut _ _ c1 (Heap.get?_push_of_some _ g))
  have tN:z3v h5 h2.objs.size vals:=s5.extBut _ _ (show h2.objs.size≠b+src.length+2 by omega) (s4.extBut _ _ (show h2.objs.size≠b+src.length+2 by omega) (Heap.get?_push_size _ rfl))
  have sz5:h5.objs.size=h2.objs.size+1:=by rw [s5.1,s4.1,Heap.size_push]
  rw [hsz] at z5 tN sz5
  refine wpAny_pure ⟨_,rfl,?_⟩
  show Q (.ref h2.objs.size) _
  rw [hsz]
  refine hQ h5 vals vl (fun i hi=>by have:=vx i hi; rwa [Nat.zero_add] at this) ⟨z5,up _ _ (by omega) (k2 _ _ (.inr (.inl rfl)) (k1 _ _ (by omega) hTI)),⟨vals,vl,up _ _ (by omega) t2'⟩,fun j p hp=>(i2 j p hp).at fun o g=>up _ _ ?_ g⟩ tN sz5 (fun c o hc g=>up c o (by unfold Kp at hc; omega) (k2 c o hc (kp1 c o hc g)))
  have hil:=(y00.mp hp).1
  omega
theorem z8k {b:Nat}{src:List (Bool×Addr)}{xss:Nat→Array Value}{k:Nat}{Q:Option Value→Shared→Prop}(hh:A.handled=none)(hne:src.length≠0)(hm:src.length≤100)(hlow:∀p∈src,p.2<b)(st:ZSt b src k .none s.heap)
  (hs:∀(i:Nat) p,src[i]?=some p→SeqAt p.1 s.heap p.2 (xss i))
  (hQ:∀h' vals,vals.length=src.length→(∀i:Nat,i<src.length→(xss i)[k]?=vals[i]?)→ZSt b src (k+1) (rawInt s.heap.objs.size) h'→z3v h' s.heap.objs.size vals→h'.objs.size=s.heap.objs.size+1→zje b src.length s.heap h'→Q (some (.ref s.heap.objs.size)) { s with heap:=h' })
  (hE:(∃i:Nat,i<src.length∧(xss i)[k]?=none)→∀h',zje b src.length s.heap h'→Q none { s with heap:=h' }) :
  wpAny (model prog w) A (pyNext (.ref (b+src.length+2))) Q E s:=by
 have hT:s.TypeIs (.ref (b+src.length+2)) "zip":=⟨_,st.zip,rfl⟩
 unfold pyNext
 refine wpAny_bind (wpAny_attempt (wpAny_callSpecial?_slot (name:=Str.ofString "__next__") hT F.slot_zip_next
  (wpAny_call_entry F.slot_zip_next hT F.entry_zip_next (zig hh hne hm hlow st hs (fun h' vals a1 a2 a3 a4 a5 a6=>wpAny_pure (hQ h' vals a1 a2 a3 a4 a5 a6)) fun hex h' e kk stp=>?_) (F.args_zip_next_1 _))))
 obtain⟨o,ho,hc⟩:=stp
 exact wpAny_bind (wpAny_isInstance (T:="StopIteration") (b:=true) ⟨o,ho,hc⟩ isSubtype_stop (wpAny_pure (hE hex h' kk)))
end
end L2.EX
set_option Elab.async false
set_option linter.all false
set_option maxRecDepth 100000
namespace L2.EX
open PySem PySem.Spec PyProof.Rows
abbrev z1q (t:Bool)(a:Addr):Obj:={ cls:=.type (if t then "tuple_iterator" else "list_iterator"),data:=.fields #[.ref a,.int 0 0] }
abbrev z8m (I O:Addr):Obj:={ cls:=.type "zip",data:=.fields #[.none,.bool false,.bool false,.ref I,.ref O] }
abbrev z2j (vs:List Value):Obj:={ cls:=.type "tuple",data:=.seq vs.toArray }
section
variable {prog:Program}{w:World}{A:Around}{E:Value→Shared→Prop}{s:Shared}
theorem z3z {t:Bool}{a:Addr}{xs:Array Value}{Q:Value→Shared→Prop}(h:SeqAt t s.heap a xs)(hQ:Q (.ref s.heap.objs.size) { s with heap:=s.heap.push (z1q t a) }):wpAny (model prog w) A (pyIter (.ref a)) Q E s:=by
 cases t
 ·exact wpAny_pyIter_list h hQ
 ·exact wpAny_pyIter_tuple h hQ
end
theorem SeqAt.push {t:Bool}{h:Heap}{a:Addr}{xs:Array Value}(x:SeqAt t h a xs)(o:Obj):SeqAt t (h.push o) a xs:=x.at fun _ g=>Heap.get?_push_of_some _ g
abbrev z2H (h:Heap)(p q:Bool×Addr):Heap:=(((((h.push (z1q p.1 p.2)).push (z1q q.1 q.2)).push (z2j [.ref h.objs.size,.ref (h.push (z1q p.1 p.2)).objs.size])).push (z2j [.none,.none])).push (z8m ((h.push (z1q p.1 p.2)).push (z1q q.1 q.2)).objs.size (((h.push (z1q p.1 p.2)).push (z1q q.1 q.2)).push (z2j [.ref h.objs.size,.ref (h.push (z1q p.1 p.2)).objs.size])).objs.size))
abbrev z2A (h:Heap)(p q:Bool×Addr):Addr:=((((h.push (z1q p.1 p.2)).push (z1q q.1 q.2)).push (z2j [.ref h.objs.size,.ref (h.push (z1q p.1 p.2)).objs.size])).push (z2j [.none,.none])).objs.size
theorem zii (p q:Bool×Addr)(xs ys:Array Value) :
  Meets (Builtin.«zip.__new__» ⟨[.type "zip",.ref p.2,.ref q.2],[]⟩) (fun _ R s=>SeqAt p.1 s.heap p.2 xs∧SeqAt q.1 s.heap q.2 ys∧R (.ok (.ret (.ref (z2A s.heap p q)))) { s with heap:=z2H s.heap p q }) :=
 .of_wp fun prog w A R s h=>by
  obtain⟨hp,g,d,tk,os⟩:=s
  obtain⟨h1,h2,h⟩:=h
  have hsub:=sub_zip
  have hL1:SeqAt p.1 (Shared.heap ⟨hp,g,d,tk,os⟩) p.2 xs:=h1
  have hL2:SeqAt q.1 (Shared.heap ⟨hp.push (z1q p.1 p.2),g,d,tk,os⟩) q.2 ys:=SeqAt.push h2 _
  wp_walk using z3z hL1,z3z hL2
  exact⟨_,rfl,h⟩
abbrev z3B (h:Heap)(p q r:Bool×Addr):Heap:=((h.push (z1q p.1 p.2)).push (z1q q.1 q.2)).push (z1q r.1 r.2)
abbrev z3C (h:Heap)(p q r:Bool×Addr):Heap:=(z3B h p q r).push (z2j [.ref h.objs.size,.ref (h.push (z1q p.1 p.2)).objs.size,.ref ((h.push (z1q p.1 p.2)).push (z1q q.1 q.2)).objs.size])
abbrev z3D (h:Heap)(p q r:Bool×Addr):Heap:=(z3C h p q r).push (z2j [.none,.none,.none])
abbrev z3H (h:Heap)(p q r:Bool×Addr):Heap:=(z3D h p q r).push (z8m (z3B h p q r).objs.size (z3C h p q r).objs.size)
set_option maxHeartbeats 2000000 in
theorem zhv (p q r:Bool×Addr)(xs ys zs:Array Value) :
  Meets (Builtin.«zip.__new__» ⟨[.type "zip",.ref p.2,.ref q.2,.ref r.2],[]⟩) (fun _ R s=>SeqAt p.1 s.heap p.2 xs∧SeqAt q.1 s.heap q.2 ys∧SeqAt r.1 s.heap r.2 zs∧R (.ok (.ret (.ref (z3D s.heap p q r).objs.size))) { s with heap:=z3H s.heap p q r }) :=
 .of_wp fun prog w A R s h=>by
  obtain⟨hp,g,d,tk,os⟩:=s
  obtain⟨h1,h2,h3,h⟩:=h
  have hsub:=sub_zip
  have hL1:SeqAt p.1 (Shared.heap ⟨hp,g,d,tk,os⟩) p.2 xs:=h1
  have hL2:SeqAt q.1 (Shared.heap ⟨hp.push (z1q p.1 p.2),g,d,tk,os⟩) q.2 ys:=SeqAt.push h2 _
  have hL3:SeqAt r.1 (Shared.heap ⟨(hp.push (z1q p.1 p.2)).push (z1q q.1 q.2),g,d,tk,os⟩) r.2 zs:=SeqAt.push (SeqAt.push h3 _) _
  wp_walk using z3z hL1,z3z hL2,z3z hL3
  exact⟨_,rfl,h⟩
theorem z8c (a b c:Value):checkTypeCall "zip" ⟨[a,b,c],[]⟩=pure ():=by kernel_rfl
theorem z9a (a b c:Value):checkBuiltinCall "zip.__new__" ⟨[.type "zip",a,b,c],[]⟩=pure ():=by kernel_rfl
theorem z60 (a b c d:Value):argsOk "object.__init__" ⟨[a,b,c,d],[]⟩:=by
 unfold argsOk
 rw [signature?_of (id:="object.__init__") (n:=['_','_','t','i','n','i','_','_']) (o:=['t','c','e','j','b','o']) (by kernel_rfl) F.owner_object]
 kernel_rfl
end L2.EX
set_option Elab.async false
set_option linter.all false
set_option maxRecDepth 100000
namespace L2.EX
open PySem PySem.Spec PyProof.Rows
def SqS (K:y03)(t:Bool)(H:Hp)(a:Addr)(xs:List V):Prop:=if t then SqT K H a xs else SqL K H a xs
abbrev zo3 (K:y03)(src:List (Bool×Addr))(i:Nat)(H:Hp):Prop:=∀(j:Nat) p,src[j]?=some p→∃xs x,SqS K p.1 H p.2 xs∧xs[i]?=some x
abbrev zqc (K:y03)(src:List (Bool×Addr))(i:Nat)(H:Hp)(v:V)(H':Hp):Prop:=∃T xs,H T=none∧v = .ref T∧H'=upd H T (.tup xs)∧xs.length=src.length∧∀(j:Nat) p,src[j]?=some p→∀ys,SqS K p.1 H p.2 ys→ys[i]?=xs[j]?
abbrev zn3 (K:y03)(src:List (Bool×Addr))(i:Nat)(H:Hp):Prop:=(∀(j:Nat) p,src[j]?=some p→∃xs,SqS K p.1 H p.2 xs)∧∃(j:Nat) (p:Bool×Addr) (xs:List V),src[j]?=some p∧SqS K p.1 H p.2 xs∧xs.length≤i
def Itz (K:y03)(src:List (Bool×Addr)):It:=⟨zo3 K src,zqc K src,zn3 K src⟩
section
variable {X:Cx}{pins:List (Addr×Obj)}{σ:St}{H:Hp}{s:Shared}
theorem Inv.sqs {t:Bool}{a:Addr}{xs:List V}(I:Inv X pins σ H s)(h:SqS X.K t H a xs):∃its:Array Value,Vals xs its.toList∧SeqAt t s.heap a its:=by
 cases t
 ·obtain⟨its,rv,p,_⟩:=I.list h
  exact⟨its.toArray,rv,p.isList⟩
 ·obtain⟨its,rv,p,_⟩:=I.tuple h
  exact⟨its.toArray,rv,show s.heap.IsTuple a its.toArray from p⟩
theorem Inv.sqs_inj {t:Bool}{a:Addr}{xs ys:List V}(I:Inv X pins σ H s)(h:SqS X.K t H a xs)(h':SqS X.K t H a ys):xs=ys:=by
 cases t
 ·exact I.list_inj h h'
 ·exact I.tuple_inj h h'
end
theorem zc8:∀{xs:List V} {us:List Value},xs.length=us.length→(∀(j:Nat) x u,xs[j]?=some x→us[j]?=some u→RelV x u)→Vals xs us
 | [],[],_,_=>.nil
 | [],_::_,h,_=>by simp at h
 | _::_,[],h,_=>by simp at h
 | x::xs,u::us,h,r=>.cons (r 0 x u rfl rfl) (zc8 (by simpa using h) fun j y v h1 h2=>r (j+1) y v (by simpa using h1) (by simpa using h2))
theorem zhi {t:Bool}{h:Heap}{i a:Addr}{k:Nat}(x:ItAt t h i a k):∃o,h.get? i=some o∧∀v,o.data ≠ .cell v:=by
 cases t
 ·obtain⟨o,e,c,d⟩:=x
  exact⟨o,e,fun v z=>by rw [d] at z; cases z⟩
 ·obtain⟨o,e,c,d⟩:=x
  exact⟨o,e,fun v z=>by rw [d] at z; cases z⟩
theorem ZSt.obj {b:Nat}{src:List (Bool×Addr)}{k:Nat}{f0:Value}{h:Heap}(st:ZSt b src k f0 h)(c:Nat)(h1:b≤c)(h2:c<b+src.length+3):∃o,h.get? c=some o∧∀v,o.data ≠ .cell v:=by
 by_cases e:c<b+src.length
 ·have hj:c - b<src.length:=by omega
  have:=zhi (st.it (c - b) src[c - b] (by simp [hj]))
  rwa [show b+(c - b)=c by omega] at this
 ·rcases (by omega:c=b+src.length∨c=b+src.length+1∨c=b+src.length+2) with rfl | rfl | rfl
  ·exact⟨_,st.its,fun v z=>by cases z⟩
  ·obtain⟨old,_,ho⟩:=st.own
   exact⟨_,ho,fun v z=>by cases z⟩
  ·exact⟨_,st.zip,fun v z=>by cases z⟩
theorem ZSt.keep {b:Nat}{src:List (Bool×Addr)}{k:Nat}{f0:Value}{h h':Heap}(st:ZSt b src k f0 h)(kk:∀(c:Nat),b≤c→c<b+src.length+3→∀o,h.get? c=some o→h'.get? c=some o):ZSt b src k f0 h':=by
 obtain⟨old,ol,ho⟩:=st.own
 refine⟨kk _ (by omega) (by omega) _ st.zip,kk _ (by omega) (by omega) _ st.its,⟨old,ol,kk _ (by omega) (by omega) _ ho⟩,fun j p hp=>(st.it j p hp).at fun o g=>kk _ (by omega) ?_ _ g⟩
 have:=(y00.mp hp).1
 omega
theorem fp_mem {b m c:Nat}:c∈y4f b (m+3)↔b≤c∧c<b+m+3:=by
 rw [List.mem_range'_1]
 omega
theorem zch {P:Program}{w:World}{K:y03}{elts:List Expr}{kt:Nat}{tp:Pos}(b:Nat)(src:List (Bool×Addr))(hne:src.length≠0)(hm:src.length≤100)(hlow:∀p∈src,p.2<b) :
  Turn P w K (.Tuple elts kt tp) (Itz K src) (y4f b (src.length+3)) (b+src.length+2) (fun k h=>ZSt b src k .none h) where
 mem:=fp_mem.mpr ⟨by omega,by omega⟩
 obj:=fun k h st c hc=>st.obj c (fp_mem.mp hc).1 (fp_mem.mp hc).2
 keep:=fun k h h' st kk=>st.keep fun c h1 h2 o g=>kk c (fp_mem.mpr ⟨h1,h2⟩) o g
 item:=by
  intro X hP hw hK hc i pins s σ H E I hf st hg
  subst hP hw hK
  have ch:∀j:Nat,∃t:Array Value×V,∀p,src[j]?=some p→∃zs,SqS X.K p.1 H p.2 zs∧Vals zs t.1.toList∧SeqAt p.1 s.heap p.2 t.1∧zs[i]?=some t.2:=fun j=>by
   cases hp:src[j]? with
   | none=>exact⟨(#[],.int 0),fun p z=>by cases z⟩
   | some p =>
    obtain⟨xs,x,hq,hx⟩:=hg j p hp
    obtain⟨its,rv,sq⟩:=Inv.sqs I hq
    exact⟨(its,x),fun p' z=>by cases z; exact⟨xs,hq,rv,sq,hx⟩⟩
  obtain⟨T,hT⟩:=Classical.axiomOfChoice ch
  refine z8k (I.ok.hd hc) hne hm hlow st (xss:=fun j=>(T j).1) (fun j p hp=>(hT j p hp).choose_spec.2.2.1) (fun h' vals vl vx z1 t1 sz kk=>⟨_,rfl,?_⟩) (fun hex=>?_)
  ·refine wpAny_letOwnedTupleGo_zip z1.zip fun h2 hz2 hs2=>?_
   have hlt:b+src.length+2<s.heap.objs.size:=Heap.lt_size st.zip
   have up:∀(c:Nat) o,c≠b+src.length+2→h'.get? c=some o→h2.get? c=some o:=fun c o hc g=>hs2.extBut _ _ hc g
   have k2:∀(c:Addr) o,c ∉ y4f b (src.length+3)→s.heap.get? c=some o→h2.get? c=some o:=fun c o hc g=>by
    have hc':¬(b≤c∧c<b+src.length+3):=fun z=>hc (fp_mem.mpr z)
    have c1:Kp b src.length c:=by
     unfold Kp
     rcases y3l c b with z | z
     ·exact .inl z
     ·exact .inr (.inr (y6o fun z2=>hc' ⟨z,y6e z2⟩))
    refine up c o (fun z=>?_) (kk c o c1 g)
    subst z
    exact hc' ⟨y1a (y45 _ _) (y45 _ _),y35 _⟩
   let xs:List V:=(y0b src.length).map fun j=>(T j).2
   have xl:xs.length=src.length:=by simp [xs]
   have xg:∀j:Nat,j<src.length→xs[j]?=some (T j).2:=fun j hj=>by simp [xs,hj]
   have rv:Vals xs vals:=zc8 (by rw [xl,vl]) fun j x u h1 h2=>by
    have hj:j<src.length:=by rw [←xl]; exact(y00.mp h1).1
    obtain⟨zs,q1,q2,q3,q4⟩:=hT j src[j] (by simp [hj])
    obtain⟨u',g1,g2⟩:=q2.get q4
    rw [xg j hj] at h1
    cases h1
    have e:=vx j hj
    rw [h2,←y41,g1] at e
    cases e
    exact g2
   have I2:=z8g (t':=s.toks) (h':=h2) I k2 (fun c hc=>hf c hc) (y0a _) (xs:=xs) (us:=vals) rv (y1a (by rw [xl]; exact hm) (show 100≤sizeLine by decide)) ⟨_,up _ _ (y3a hlt) t1,rfl,_,rfl⟩
   refine⟨.ref s.heap.objs.size,_,I2,rfl,⟨s.heap.objs.size,xs,I.hok.fresh (y0a _),rfl,rfl,xl,fun j p hp ys hy=>?_⟩,?_,fun c hc=>?_⟩
   ·obtain⟨zs,q1,q2,q3,q4⟩:=hT j p hp
    rw [Inv.sqs_inj I hy q1,q4,xg j (y00.mp hp).1]
   ·obtain⟨old,ol,ho⟩:=z1.own
    refine⟨hz2,up _ _ (by omega) z1.its,⟨old,ol,up _ _ (by omega) ho⟩,fun j p hp=>(z1.it j p hp).at fun o g=>up _ _ ?_ g⟩
    have:=(y00.mp hp).1
    omega
   ·rw [z09 (y10 (y0p (fp_mem.mp hc).2 (by omega)))]
    exact(hf c hc).1
  ·exfalso
   obtain⟨j,hj,e⟩:=hex
   obtain⟨zs,q1,q2,q3,q4⟩:=hT j src[j] (by simp [hj])
   obtain⟨u',g1,g2⟩:=q2.get q4
   rw [←y41,g1] at e
   cases e
 done:=by
  intro X hP hw hK hc i pins s σ H E I hf st hg
  subst hP hw hK
  obtain⟨hall,j0,p0,xs0,hp0,hq0,hl0⟩:=hg
  have ch:∀j:Nat,∃t:Array Value,∀p,src[j]?=some p→∃zs,SqS X.K p.1 H p.2 zs∧Vals zs t.toList∧SeqAt p.1 s.heap p.2 t:=fun j=>by
   cases hp:src[j]? with
   | none=>exact⟨#[],fun p z=>by cases z⟩
   | some p =>
    obtain⟨xs,hq⟩:=hall j p hp
    obtain⟨its,rv,sq⟩:=Inv.sqs I hq
    exact⟨its,fun p' z=>by cases z; exact⟨xs,hq,rv,sq⟩⟩
  obtain⟨T,hT⟩:=Classical.axiomOfChoice ch
  refine z8k (I.ok.hd hc) hne hm hlow st (xss:=T) (fun j p hp=>(hT j p hp).choose_spec.2.2) (fun h' vals vl vx z1 t1 sz kk=>?_) (fun hex h' kk=>⟨rfl,z59 (t':=s.toks) I (fun c o hc g=>kk c o ?_ g) fun c hc=>hf c hc⟩)
  ·exfalso
   have hj:=(y00.mp hp0).1
   obtain⟨zs,q1,q2,q3⟩:=hT j0 p0 hp0
   have e:=vx j0 hj
   have el:=q2.length
   rw [Inv.sqs_inj I q1 hq0] at el
   rw [show(T j0)[i]?=none from Array.getElem?_eq_none (by simpa using (show(T j0).toList.length≤i by omega))] at e
   have:j0<vals.length:=by omega
   simp [this] at e
  ·have hc':¬(b≤c∧c<b+src.length+3):=fun z=>hc (fp_mem.mpr z)
   unfold Kp
   rcases y3l c b with z | z
   ·exact .inl z
   ·exact .inr (.inr (y6o fun z2=>hc' ⟨z,y6e z2⟩))
 self:=fun _ _ _ _ _ st h=>wpAny_pyIter_zip st.zip h
end L2.EX
set_option Elab.async false
set_option linter.all false
set_option maxRecDepth 100000
namespace L2.EX
open PySem PySem.Spec PyProof.Rows
theorem z5e {t:Bool}{h:Heap}{i a:Addr}(g:h.get? i=some (z1q t a)):ItAt t h i a 0:=by
 cases t
 ·exact⟨_,g,rfl,rfl⟩
 ·exact⟨_,g,rfl,rfl⟩
section
variable {prog:Program}{w:World}{A:Around}{E:Value→Shared→Prop}{s:Shared}
theorem zfc {p q:Bool×Addr}{xs ys:Array Value}{Q:Value→Shared→Prop}(h1:SeqAt p.1 s.heap p.2 xs)(h2:SeqAt q.1 s.heap q.2 ys)
  (h:∀h',ZSt s.heap.objs.size [p,q] 0 .none h'→(∀c o,s.heap.get? c=some o→h'.get? c=some o)→Q (.ref (s.heap.objs.size+4)) { s with heap:=h' }):wpAny (model prog w) A (call (.type "zip") [.ref p.2,.ref q.2]) Q E s:=by
 refine callType_new F.called_zip (by decide) (F.typeCall_zip_2 _ _) (F.newCall_zip_2 _ _) (fun obj=>F.args_object_init_3 obj _ _) F.entry_zip_new (zii p q xs ys) ⟨h1,h2,?_⟩
 have e1:(s.heap.push (z1q p.1 p.2)).objs.size=s.heap.objs.size+1:=Heap.size_push ..
 have e2:((s.heap.push (z1q p.1 p.2)).push (z1q q.1 q.2)).objs.size=s.heap.objs.size+2:=by rw [Heap.size_push,e1]
 generalize hA':s.heap.push (z1q p.1 p.2)=hA at e1 e2 ⊢
 have gA:hA.get? s.heap.objs.size=some (z1q p.1 p.2):=by rw [←hA']; exact Heap.get?_push_size _ rfl
 have kA:∀c o,s.heap.get? c=some o→hA.get? c=some o:=fun c o g=>by rw [←hA']; exact Heap.get?_push_of_some _ g
 generalize hB':hA.push (z1q q.1 q.2)=hB at e2 ⊢
 have gB:hB.get? hA.objs.size=some (z1q q.1 q.2):=by rw [←hB']; exact Heap.get?_push_size _ rfl
 have kB:∀c o,hA.get? c=some o→hB.get? c=some o:=fun c o g=>by rw [←hB']; exact Heap.get?_push_of_some _ g
 have e3:(hB.push (z2j [.ref s.heap.objs.size,.ref hA.objs.size])).objs.size=s.heap.objs.size+3:=by rw [Heap.size_push,e2]
 generalize hC':hB.push (z2j [.ref s.heap.objs.size,.ref hA.objs.size])=hC at e3 ⊢
 have gC:hC.get? hB.objs.size=some (z2j [.ref s.heap.objs.size,.ref hA.objs.size]):=by rw [←hC']; exact Heap.get?_push_size _ rfl
 have kC:∀c o,hB.get? c=some o→hC.get? c=some o:=fun c o g=>by rw [←hC']; exact Heap.get?_push_of_some _ g
 have e4:(hC.push (z2j [.none,.none])).objs.size=s.heap.objs.size+4:=by rw [Heap.size_push,e3]
 generalize hD':hC.push (z2j [.none,.none])=hD at e4 ⊢
 have gD:hD.get? hC.objs.size=some (z2j [.none,.none]):=by rw [←hD']; exact Heap.get?_push_size _ rfl
 have kD:∀c o,hC.get? c=some o→hD.get? c=some o:=fun c o g=>by rw [←hD']; exact Heap.get?_push_of_some _ g
 generalize hE':hD.push (z8m hB.objs.size hC.objs.size)=hE
 have gE:hE.get? hD.objs.size=some (z8m hB.objs.size hC.objs.size):=by rw [←hE']; exact Heap.get?_push_size _ rfl
 have kE:∀c o,hD.get? c=some o→hE.get? c=some o:=fun c o g=>by rw [←hE']; exact Heap.get?_push_of_some _ g
 have eH:z2H s.heap p q=hE:=by subst hE' hD' hC' hB' hA'; rfl
 have eA:z2A s.heap p q=hD.objs.size:=by subst hD' hC' hB' hA'; rfl
 rw [e1] at gB gC
 rw [e2] at gC gE
 rw [e3] at gD gE
 rw [e4] at gE
 show _∧_
 rw [eH,eA,e4]
 refine⟨⟨_,gE,rfl⟩,h hE ⟨gE,kE _ _ (kD _ _ gC),⟨[.none,.none],rfl,kE _ _ gD⟩,fun j r hr=>?_⟩ fun c o g=>kE _ _ (kD _ _ (kC _ _ (kB _ _ (kA _ _ g))))⟩
 match j,hr with
 | 0,hr=>cases hr; exact z5e (kE _ _ (kD _ _ (kC _ _ (kB _ _ gA))))
 | 1,hr=>cases hr; exact z5e (kE _ _ (kD _ _ (kC _ _ gB)))
 | n+2,hr=>cases hr
theorem zf0 {p q r:Bool×Addr}{xs ys zs:Array Value}{Q:Value→Shared→Prop}(h1:SeqAt p.1 s.heap p.2 xs)(h2:SeqAt q.1 s.heap q.2 ys)(h3:SeqAt r.1 s.heap r.2 zs)
  (h:∀h',ZSt s.heap.objs.size [p,q,r] 0 .none h'→(∀c o,s.heap.get? c=some o→h'.get? c=some o)→Q (.ref (s.heap.objs.size+5)) { s with heap:=h' }):wpAny (model prog w) A (call (.type "zip") [.ref p.2,.ref q.2,.ref r.2]) Q E s:=by
 refine callType_new F.called_zip (by decide) (z8c _ _ _) (z9a _ _ _) (fun obj=>z60 obj _ _ _) F.entry_zip_new (zhv p q r xs ys zs) ⟨h1,h2,h3,?_⟩
 have e1:(s.heap.push (z1q p.1 p.2)).objs.size=s.heap.objs.size+1:=Heap.size_push ..
 generalize hA':s.heap.push (z1q p.1 p.2)=hA at e1 ⊢
 have gA:hA.get? s.heap.objs.size=some (z1q p.1 p.2):=by rw [←hA']; exact Heap.get?_push_size _ rfl
 have kA:∀c o,s.heap.get? c=some o→hA.get? c=some o:=fun c o g=>by rw [←hA']; exact Heap.get?_push_of_some _ g
 have e2:(hA.push (z1q q.1 q.2)).objs.size=s.heap.objs.size+2:=by rw [Heap.size_push,e1]
 generalize hB':hA.push (z1q q.1 q.2)=hB at e2 ⊢
 have gB:hB.get? hA.objs.size=some (z1q q.1 q.2):=by rw [←hB']; exact Heap.get?_push_size _ rfl
 have kB:∀c o,hA.get? c=some o→hB.get? c=some o:=fun c o g=>by rw [←hB']; exact Heap.get?_push_of_some _ g
 have e3:(hB.push (z1q r.1 r.2)).objs.size=s.heap.objs.size+3:=by rw [Heap.size_push,e2]
 generalize hC':hB.push (z1q r.1 r.2)=hC at e3 ⊢
 have gC:hC.get? hB.objs.size=some (z1q r.1 r.2):=by rw [←hC']; exact Heap.get?_push_size _ rfl
 have kC:∀c o,hB.get? c=some o→hC.get? c=some o:=fun c o g=>by rw [←hC']; exact Heap.get?_push_of_some _ g
 have e4:(hC.push (z2j [.ref s.heap.objs.size,.ref hA.objs.size,.ref hB.objs.size])).objs.size=s.heap.objs.size+4:=by rw [Heap.size_push,e3]
 generalize hD':hC.push (z2j [.ref s.heap.objs.size,.ref hA.objs.size,.ref hB.objs.size])=hD at e4 ⊢
 have gD:hD.get? hC.objs.size=some (z2j [.ref s.heap.objs.size,.ref hA.objs.size,.ref hB.objs.size]):=by rw [←hD']; exact Heap.get?_push_size _ rfl
 have kD:∀c o,hC.get? c=some o→hD.get? c=some o:=fun c o g=>by rw [←hD']; exact Heap.get?_push_of_some _ g
 have e5:(hD.push (z2j [.none,.none,.none])).objs.size=s.heap.objs.size+5:=by rw [Heap.size_push,e4]
 generalize hE':hD.push (z2j [.none,.none,.none])=hE at e5 ⊢
 have gE:hE.get? hD.objs.size=some (z2j [.none,.none,.none]):=by rw [←hE']; exact Heap.get?_push_size _ rfl
 have kE:∀c o,hD.get? c=some o→hE.get? c=some o:=fun c o g=>by rw [←hE']; exact Heap.get?_push_of_some _ g
 generalize hF':hE.push (z8m hC.objs.size hD.objs.size)=hF
 have gF:hF.get? hE.objs.size=some (z8m hC.objs.size hD.objs.size):=by rw [←hF']; exact Heap.get?_push_size _ rfl
 have kF:∀c o,hE.get? c=some o→hF.get? c=some o:=fun c o g=>by rw [←hF']; exact Heap.get?_push_of_some _ g
 have eH:z3H s.heap p q r=hF:=by subst hF' hE' hD' hC' hB' hA'; rfl
 have eA:(z3D s.heap p q r).objs.size=hE.objs.size:=by subst hE' hD' hC' hB' hA'; rfl
 rw [e1] at gB gD
 rw [e2] at gC gD
 rw [e3] at gD gF
 rw [e4] at gE gF
 rw [e5] at gF
 show _∧_
 rw [eH,eA,e5]
 refine⟨⟨_,gF,rfl⟩,h hF ⟨gF,kF _ _ (kE _ _ gD),⟨[.none,.none,.none],rfl,kF _ _ gE⟩,fun j r hr=>?_⟩ fun c o g=>kF _ _ (kE _ _ (kD _ _ (kC _ _ (kB _ _ (kA _ _ g)))))⟩
 match j,hr with
 | 0,hr=>cases hr; exact z5e (kF _ _ (kE _ _ (kD _ _ (kC _ _ (kB _ _ gA)))))
 | 1,hr=>cases hr; exact z5e (kF _ _ (kE _ _ (kD _ _ (kC _ _ gB))))
 | 2,hr=>cases hr; exact z5e (kF _ _ (kE _ _ (kD _ _ gC)))
 | n+3,hr=>cases hr
end
section
variable {X:Cx}
def znz (K:y03)(t1 t2:TE)(σ:St)(H:Hp)(R:It→Hp→Prop):Prop:=t1 σ H fun x H1=>t2 σ H1 fun y H2=>match x,y with
 | .ref a,.ref b=>∃u v,(∃xs,SqS K u H2 a xs)∧(∃ys,SqS K v H2 b ys)∧R (Itz K [(u,a),(v,b)]) H2
 | _,_=>False
def zl2 (K:y03)(t1 t2 t3:TE)(σ:St)(H:Hp)(R:It→Hp→Prop):Prop:=t1 σ H fun x H1=>t2 σ H1 fun y H2=>t3 σ H2 fun z H3=>match x,y,z with
 | .ref a,.ref b,.ref c=>∃u v t,(∃xs,SqS K u H3 a xs)∧(∃ys,SqS K v H3 b ys)∧(∃zs,SqS K t H3 c zs)∧R (Itz K [(u,a),(v,b),(t,c)]) H3
 | _,_,_=>False
theorem z5i {t:Bool}{h:Heap}{a:Addr}{xs:Array Value}(x:SeqAt t h a xs):a<h.objs.size:=by
 cases t
 ·obtain⟨o,e,_⟩:=x
  exact Heap.lt_size e
 ·obtain⟨o,e,_⟩:=x
  exact Heap.lt_size e
theorem z6c {l1 l2:Expr}{t1 t2:TE}{elts:List Expr}{kt:Nat}{tp p pos:Pos}(hm:X.mg "zip"=none)(h1:PE X l1 t1)(h2:PE X l2 t2)(hg:Gl X "zip":=by rfl)(hs:starEach [l1,l2] X.env = [(false,eval l1 X.env),(false,eval l2 X.env)]:=by rfl)(hs2:starEach [l2] X.env = [(false,eval l2 X.env)]:=by rfl) :
  PI X (.Tuple elts kt tp) (.Call (.Name "zip" p) [l1,l2] [] pos) (znz X.K t1 t2):=by
 intro pins s σ H R I h
 have ha:PA X [l1,l2] _:=z00 (z1k h1) (z00 (z1k h2) z04 hs2) (by rw [hs,hs2])
 refine Call_ (z5z I hg hm zjk (y1s (thn (ha pos pins s σ H (fun vs H1=>∃x y,vs = [x,y]∧(match x,y with
  | .ref a,.ref b=>∃u v,(∃xs,SqS X.K u H1 a xs)∧(∃ys,SqS X.K v H1 b ys)∧R (Itz X.K [(u,a),(v,b)]) H1
  | _,_=>False)) I ⟨_,h,fun v H1 q=>⟨_,q,fun u H2 q2=>⟨v,u,rfl,q2⟩⟩⟩) fun us s1 h1=>?_) (by rw [hs,hs2]) (by rw [hs2]; rfl)))
 obtain⟨vs,H1,I1,r1,x,y,rfl,q1⟩:=h1
 obtain⟨u,w,rfl,rx,ry⟩:=zha r1
 split at q1
 ·rename_i a b
  cases rx
  cases ry
  obtain⟨tu,tv,⟨xs,hq1⟩,⟨ys,hq2⟩,q⟩:=q1
  obtain⟨its1,rv1,p1⟩:=Inv.sqs I1 hq1
  obtain⟨its2,rv2,p2⟩:=Inv.sqs I1 hq2
  refine zfc (p:=(tu,a)) (q:=(tv,b)) p1 p2 fun h' z1 kk=>wpAny_pyIter_zip z1.zip ?_
  refine⟨_,_,_,_,H1,rfl,I1.kept (t':=s1.toks) kk,zch s1.heap.objs.size [(tu,a),(tv,b)] (by simp) (by simp) (fun p hp=>?_),z1,fun c hc=>I1.fpOk (fp_mem.mp hc).1 (I1.hok.fresh (fp_mem.mp hc).1),q⟩
  simp only [y0m,y1c,or_false] at hp
  rcases hp with rfl | rfl
  ·exact z5i p1
  ·exact z5i p2
 ·exact q1.elim
theorem zop {x y z:V}{us:List Value}(r:Vals [x,y,z] us):∃u v w,us = [u,v,w]∧RelV x u∧RelV y v∧RelV z w:=by
 cases r with
 | cons r1 r2 =>
  obtain⟨u,w,rfl,a,b⟩:=zha r2
  exact⟨_,_,_,rfl,r1,a,b⟩
theorem zky {l1 l2 l3:Expr}{t1 t2 t3:TE}{elts:List Expr}{kt:Nat}{tp p pos:Pos}(hm:X.mg "zip"=none)(h1:PE X l1 t1)(h2:PE X l2 t2)(h3:PE X l3 t3)(hg:Gl X "zip":=by rfl)(hs:starEach [l1,l2,l3] X.env = [(false,eval l1 X.env),(false,eval l2 X.env),(false,eval l3 X.env)]:=by rfl)(hs2:starEach [l2,l3] X.env = [(false,eval l2 X.env),(false,eval l3 X.env)]:=by rfl)(hs3:starEach [l3] X.env = [(false,eval l3 X.env)]:=by rfl) :
  PI X (.Tuple elts kt tp) (.Call (.Name "zip" p) [l1,l2,l3] [] pos) (zl2 X.K t1 t2 t3):=by
 intro pins s σ H R I h
 have ha:PA X [l1,l2,l3] _:=z00 (z1k h1) (z00 (z1k h2) (z00 (z1k h3) z04 hs3) (by rw [hs2,hs3])) (by rw [hs,hs2])
 refine Call_ (z5z I hg hm zjk (y1s (thn (ha pos pins s σ H (fun vs H1=>∃x y z,vs = [x,y,z]∧(match x,y,z with
  | .ref a,.ref b,.ref c=>∃u v t,(∃xs,SqS X.K u H1 a xs)∧(∃ys,SqS X.K v H1 b ys)∧(∃zs,SqS X.K t H1 c zs)∧R (Itz X.K [(u,a),(v,b),(t,c)]) H1
  | _,_,_=>False)) I ⟨_,h,fun v H1 q=>⟨_,q,fun u H2 q2=>⟨_,q2,fun t H3 q3=>⟨v,u,t,rfl,q3⟩⟩⟩⟩) fun us s1 h1=>?_) (by rw [hs,hs2]) (by rw [hs2]; rfl)))
 obtain⟨vs,H1,I1,r1,x,y,z,rfl,q1⟩:=h1
 obtain⟨u,v,w,rfl,rx,ry,rz⟩:=zop r1
 split at q1
 ·rename_i a b c
  cases rx
  cases ry
  cases rz
  obtain⟨tu,tv,tw,⟨xs,hq1⟩,⟨ys,hq2⟩,⟨zs,hq3⟩,q⟩:=q1
  obtain⟨its1,rv1,p1⟩:=Inv.sqs I1 hq1
  obtain⟨its2,rv2,p2⟩:=Inv.sqs I1 hq2
  obtain⟨its3,rv3,p3⟩:=Inv.sqs I1 hq3
  refine zf0 (p:=(tu,a)) (q:=(tv,b)) (r:=(tw,c)) p1 p2 p3 fun h' z1 kk=>wpAny_pyIter_zip z1.zip ?_
  refine⟨_,_,_,_,H1,rfl,I1.kept (t':=s1.toks) kk,zch s1.heap.objs.size [(tu,a),(tv,b),(tw,c)] (by simp) (by simp) (fun p hp=>?_),z1,fun c hc=>I1.fpOk (fp_mem.mp hc).1 (I1.hok.fresh (fp_mem.mp hc).1),q⟩
  simp only [y0m,y1c,or_false] at hp
  rcases hp with rfl | rfl | rfl
  ·exact z5i p1
  ·exact z5i p2
  ·exact z5i p3
 ·exact q1.elim
end
end L2.EX
set_option Elab.async false
set_option linter.all false
set_option maxRecDepth 100000
namespace L2.EX
open PySem PySem.Spec PyProof.Rows
theorem zp8 {K:y03}{H:Hp}{a:Addr}{xs:List V}(h:SqL K H a xs):SqS K false H a xs:=h
theorem zau {K:y03}{g:TG}{tb:TS}{D:Ends}{σ:St}{H:Hp}{u v:Bool}{a b:Addr}{xs ys:List V}(n:Nat)(hn:n=min xs.length ys.length)(Pv:Nat→St→Hp→Prop)(h0:Pv 0 σ H)(hl:∀i σ H,i≤n→Pv i σ H→SqS K u H a xs∧SqS K v H b ys)
  (hs:∀i x y σ H p,xs[i]?=some x→ys[i]?=some y→Pv i σ H→H p=none→g (.ref p) σ (upd H p (.tup [x,y])) fun σ2 H2=>tb { D with nx:=Pv (i+1),ct:=Pv (i+1),bk:=D.nx } σ2 H2) (hd:∀ σ H,Pv n σ H→D.nx σ H):zbw (Itz K [(u,a),(v,b)]) g tb D σ H:=by
 refine⟨fun i m σ H=>m=n - i∧i≤n∧Pv i σ H,⟨n,by simp,y2g _,h0⟩,?_⟩
 rintro i m σ H ⟨rfl,hi,p⟩
 obtain⟨q1,q2⟩:=hl i σ H hi p
 by_cases hlt:i<n
 ·have l1:i<xs.length:=by omega
  have l2:i<ys.length:=by omega
  refine .inr ⟨fun j p hp=>?_,Pv (i+1),fun σ' H' p'=>⟨n - (i+1),by omega,rfl,hlt,p'⟩,fun x H' y=>?_⟩
  ·match j,hp with
   | 0,hp=>cases hp; exact⟨xs,xs[i],q1,by simp [l1]⟩
   | 1,hp=>cases hp; exact⟨ys,ys[i],q2,by simp [l2]⟩
   | k+2,hp=>cases hp
  ·obtain⟨t,zs,ht,e1,e2,e3,e4⟩:=y
   subst e1 e2
   match zs,e3,e4 with
   | [z1,z2],_,e4 =>
    have f1:=e4 0 _ rfl xs q1
    have f2:=e4 1 _ rfl ys q2
    exact hs i z1 z2 σ H t f1 f2 p ht
 ·have e:i=n:=by omega
  subst e
  refine .inl ⟨⟨fun j p hp=>?_,?_⟩,hd σ H p⟩
  ·match j,hp with
   | 0,hp=>cases hp; exact⟨xs,q1⟩
   | 1,hp=>cases hp; exact⟨ys,q2⟩
   | k+2,hp=>cases hp
  ·by_cases z:xs.length≤i
   ·exact⟨0,_,xs,rfl,q1,z⟩
   ·exact⟨1,_,ys,rfl,q2,by omega⟩
theorem zlp {K:y03}{g:TG}{tb:TS}{D:Ends}{σ:St}{H:Hp}{u v w:Bool}{a b c:Addr}{xs ys ws:List V}(n:Nat)(h1:n=xs.length)(h2:n=ys.length)(h3:n=ws.length)(Pv:Nat→St→Hp→Prop)(h0:Pv 0 σ H)(hl:∀i σ H,i≤n→Pv i σ H→SqS K u H a xs∧SqS K v H b ys∧SqS K w H c ws)
  (hs:∀i x y z σ H p,xs[i]?=some x→ys[i]?=some y→ws[i]?=some z→Pv i σ H→H p=none→g (.ref p) σ (upd H p (.tup [x,y,z])) fun σ2 H2=>tb { D with nx:=Pv (i+1),ct:=Pv (i+1),bk:=D.nx } σ2 H2) (hd:∀ σ H,Pv n σ H→D.nx σ H):zbw (Itz K [(u,a),(v,b),(w,c)]) g tb D σ H:=by
 refine⟨fun i m σ H=>m=n - i∧i≤n∧Pv i σ H,⟨n,by simp,y2g _,h0⟩,?_⟩
 rintro i m σ H ⟨rfl,hi,p⟩
 obtain⟨q1,q2,q3⟩:=hl i σ H hi p
 by_cases hlt:i<n
 ·have l1:i<xs.length:=by omega
  have l2:i<ys.length:=by omega
  have l3:i<ws.length:=by omega
  refine .inr ⟨fun j p hp=>?_,Pv (i+1),fun σ' H' p'=>⟨n - (i+1),by omega,rfl,hlt,p'⟩,fun x H' y=>?_⟩
  ·match j,hp with
   | 0,hp=>cases hp; exact⟨xs,xs[i],q1,by simp [l1]⟩
   | 1,hp=>cases hp; exact⟨ys,ys[i],q2,by simp [l2]⟩
   | 2,hp=>cases hp; exact⟨ws,ws[i],q3,by simp [l3]⟩
   | k+3,hp=>cases hp
  ·obtain⟨t,zs,ht,e1,e2,e3,e4⟩:=y
   subst e1 e2
   match zs,e3,e4 with
   | [z1,z2,z3],_,e4=>exact hs i z1 z2 z3 σ H t (e4 0 _ rfl xs q1) (e4 1 _ rfl ys q2) (e4 2 _ rfl ws q3) p ht
 ·have e:i=n:=by omega
  subst e
  refine .inl ⟨⟨fun j p hp=>?_,0,_,xs,rfl,q1,by omega⟩,hd σ H p⟩
  match j,hp with
  | 0,hp=>cases hp; exact⟨xs,q1⟩
  | 1,hp=>cases hp; exact⟨ys,q2⟩
  | 2,hp=>cases hp; exact⟨ws,q3⟩
  | k+3,hp=>cases hp
theorem zhl {K:y03}{g:TG}{tt:TT}{te:TE}{σ0:St}{Q:VK}{H:Hp}{u v:Bool}{a b:Addr}{xs zs:List V}(n:Nat)(hn:n=min xs.length zs.length)(Pv:Nat→List V→Hp→Prop)(h0:Pv 0 [] H)(hz:n<sizeLine)(hl:∀i ys H,i≤n→Pv i ys H→SqS K u H a xs∧SqS K v H b zs∧ys.length≤i)
  (hs:∀i x z ys H p,xs[i]?=some x→zs[i]?=some z→Pv i ys H→H p=none→g (.ref p) σ0 (upd H p (.tup [x,z])) fun σ2 H2=>tt σ2 H2 fun b H3=>if b=true then te σ2 H3 fun y H4=>CNx Pv n (i+1) (ys ++ [y]) H4 else CNx Pv n (i+1) ys H3)
  (hd:∀ys H,Pv n ys H→∀l,H l=none→Q (.ref l) (upd H l (.lst ys))):z50 (Itz K [(u,a),(v,b)]) g tt te σ0 Q H:=by
 refine⟨fun i m ys H=>m=n - i∧i≤n∧Pv i ys H,⟨n,by simp,y2g _,h0⟩,?_⟩
 rintro i m ys H ⟨rfl,hi,p⟩
 obtain⟨q1,q2,yl⟩:=hl i ys H hi p
 by_cases hlt:i<n
 ·have l1:i<xs.length:=by omega
  have l2:i<zs.length:=by omega
  refine .inr ⟨fun j p hp=>?_,by omega,fun x H' y=>?_⟩
  ·match j,hp with
   | 0,hp=>cases hp; exact⟨xs,xs[i],q1,by simp [l1]⟩
   | 1,hp=>cases hp; exact⟨zs,zs[i],q2,by simp [l2]⟩
   | k+2,hp=>cases hp
  ·obtain⟨t,ws,ht,e1,e2,e3,e4⟩:=y
   subst e1 e2
   match ws,e3,e4 with
   | [z1,z2],_,e4 =>
    have z:=hs i z1 z2 ys H t (e4 0 _ rfl xs q1) (e4 1 _ rfl zs q2) p ht
    rw [show n - i=n+1 - (i+1) by omega]
    exact z
 ·have e:i=n:=by omega
  subst e
  refine .inl ⟨⟨fun j p hp=>?_,?_⟩,by omega,hd ys H p⟩
  ·match j,hp with
   | 0,hp=>cases hp; exact⟨xs,q1⟩
   | 1,hp=>cases hp; exact⟨zs,q2⟩
   | k+2,hp=>cases hp
  ·by_cases z:xs.length≤i
   ·exact⟨0,_,xs,rfl,q1,z⟩
   ·exact⟨1,_,zs,rfl,q2,by omega⟩
end L2.EX
set_option Elab.async false
set_option linter.all false
set_option maxRecDepth 100000
namespace L2.EX
open PySem PySem.Spec PyProof.Rows PySem.SeqAt
def zp5 (K:y03)(x y:V)(H:Hp)(Q:VK):Prop:=∃dx l xs ds,y = .ref l∧H l=some (.lst xs)∧Is K H x dx∧IsAll K H xs ds∧Sh 60 dx∧(∀d∈ds,Sh 60 d)∧Q (.bl (ds.any fun d=>PyData.eqv d dx)) H
def zm3 (K:y03)(x y:V)(H:Hp)(Q:VK):Prop:=∃dx l xs ds,y = .ref l∧H l=some (.lst xs)∧Is K H x dx∧IsAll K H xs ds∧Sh 60 dx∧(∀d∈ds,Sh 60 d)∧Q (.bl (!ds.any fun d=>PyData.eqv d dx)) H
section
variable {X:Cx}{pins:List (Addr×Obj)}{σ:St}{H:Hp}{s:Shared}
end
end L2.EX
set_option Elab.async false
set_option linter.all false
set_option maxRecDepth 100000
namespace PySem
open AutoSeq1 (wpAny_loadPart')
open MeetsSeq MeetsSeq2 MeetsSeq3 SeqRoads2 SeqAt
end PySem
namespace L2.EX
open PySem PySem.Spec PyProof.Rows PySem.SeqAt
section
variable {X:Cx}{pins:List (Addr×Obj)}{σ:St}{H:Hp}{s:Shared}
open Classical in
theorem zi3 {k:Nat}(hr:Room k X.A)(I:Inv X pins σ H s){dx:PyData}{xs:List V}{its:List Value}{ds:List PyData}{x:V}{v:Value}(rv:Vals xs its)(hx:Is X.K H x dx)(ha:IsAll X.K H xs ds)(sx:Sh 60 dx)(sd:∀d∈ds,Sh 60 d)(rx:RelV x v) :
  ∃(e:Value→Bool),(∀w,w∈its.toArray→EqAt X.A.in1 s w v (e w))∧∀(j:Nat) w d,its[j]?=some w→ds[j]?=some d→e w=PyData.eqv d dx:=by
 obtain⟨ax,rdx⟩:=Is.reads I dx x v hx rx
 have rd:∀(j:Nat) w,its[j]?=some w→∃d as,ds[j]?=some d∧Reads s.heap w d as:=fun j w hw=>by
  have hj:j<xs.length:=by rw [rv.length]; exact(y00.mp hw).1
  have hxj:xs[j]?=some xs[j]:=by simp [hj]
  obtain⟨u,g1,g2⟩:=rv.get hxj
  rw [hw] at g1
  cases g1
  obtain⟨d,g3,g4⟩:=z4c ha hxj
  obtain⟨as,g5⟩:=Is.reads I d _ w g4 g2
  exact⟨d,as,g3,g5⟩
 have key:∀(j:Nat) w d as,its[j]?=some w→ds[j]?=some d→Reads s.heap w d as→decide (∃d as,d∈ds∧Reads s.heap w d as∧PyData.eqv d dx=true)=PyData.eqv d dx:=fun j w d as hj g1 g2=>by
  have hd:=y02 g1
  by_cases c:PyData.eqv d dx=true
  ·rw [c]
   exact decide_eq_true ⟨d,as,hd,g2,c⟩
  ·rw [y6f.mpr c]
   refine decide_eq_false ?_
   rintro⟨d',as',h1,h2,h3⟩
   have:=PySem.SeqAt.Reads.unique d d' w as as' (sd d hd).1 g2 h2
   rw [←this] at h3
   exact c h3
 refine⟨fun w=>decide (∃d as,d∈ds∧Reads s.heap w d as∧PyData.eqv d dx=true),fun w hw=>?_,fun j w d hj hd=>?_⟩
 ·obtain⟨j,hj⟩:=y09 (List.mem_toArray.mp hw)
  obtain⟨d,as,g1,g2⟩:=rd j w hj
  have hd:=y02 g1
  show EqAt X.A.in1 s w v (decide (∃d as,d∈ds∧Reads s.heap w d as∧PyData.eqv d dx=true))
  rw [key j w d as hj g1 g2]
  refine PySem.SeqAt.eqAt_reads d dx X.A.in1 s w v as ax g2 rdx (sd d hd).1 sx.1 ?_
  have h1:=zof hr
  have h2:=(sd d hd).2
  have h3:X.A.in1.units≤X.A.units+2:=by first | exact y0a _ | (simp [Around.in1]) | (show _≤_; simp [Around.in1]; omega)
  omega
 ·obtain⟨d',as,g1,g2⟩:=rd j w hj
  rw [hd] at g1
  cases g1
  exact key j w d as hj hd g2
end
theorem zci {α:Type}{p:α→Bool}:∀{l:List α},l.any p=true→∃(j:Nat) (x:α),l[j]?=some x∧p x=true∧∀(m:Nat) y,m<j→l[m]?=some y→p y=false
 | [],h=>by simp at h
 | x::r,h=>by
  by_cases c:p x=true
  ·exact⟨0,x,rfl,c,fun m y hm=>by omega⟩
  ·have h':r.any p=true:=by
    rw [y67] at h
    simpa [c] using h
   obtain⟨j,y,h1,h2,h3⟩:=zci h'
   refine⟨j+1,y,by simpa using h1,h2,fun m z hm hz=>?_⟩
   cases m with
   | zero =>
    simp at hz
    subst hz
    exact y6f.mpr c
   | succ m=>exact h3 m z (by omega) (by simpa using hz)
section
variable {X:Cx}{o e:Expr}{es:List Expr}{ta:TE}{t:TA}{apos cpos:Pos}
def zp7 (K:y03)(ta:TE)(t:TA)(σ:St)(H:Hp)(Q:VK):Prop:=ta σ H fun x H1=>match x with
 | .ref l=>(∃xs,H1 l=some (.lst xs))∧t σ H1 fun vs H2=>match vs with
  | [y]=>∃xs dx ds,H2 l=some (.lst xs)∧Is K H2 y dx∧IsAll K H2 xs ds∧Sh 60 dx∧(∀d∈ds,Sh 60 d)∧(ds.any fun d=>PyData.eqv d dx)=true∧∀j,j<xs.length→Q .non (upd H2 l (.lst (xs.eraseIdx j)))
  | _=>False
 | _=>False
theorem zkz (a b:Int):PyData.eqv (.int a) (.int b)=decide (a=b):=by
 have h:=zhr a 0 b 0
 by_cases c:a=b
 ·subst c
  rw [decide_eq_true rfl]
  exact z6z (z8d a)
 ·rw [decide_eq_false c] at h ⊢
  rw [y5u] at h
  simpa [z9o,PyData.eqv,PyData.eqvAll] using h
def zmt:V→List V→Hp→VK→Prop:=fun x vs H Q=>∃(l:Addr) (ns:List Int) (n:Int),x = .ref l∧vs = [.int n]∧H l=some (.lst (ns.map V.int))∧n∈ns∧∀j:Nat,ns[j]?=some n→(∀(m:Nat) y,m<j→ns[m]?=some y→y≠n)→Q (.int (j:Int)) H
theorem zi8 {k:Nat}(hr:Room k X.A):MtM X "list.index" zmt:=by
 intro pins s σ H x vs v us Q I rx rv h
 obtain⟨l,ns,n,rfl,rfl,hH,hn,q⟩:=h
 cases rx
 obtain⟨u,rfl,ru⟩:=rv.one
 obtain⟨z,its,m,r,hl,e⟩:=I.lstM hH
 obtain⟨ev,h1,h2⟩:=zi3 hr I (dx:=.int n) (ds:=ns.map PyData.int) r (is_int.mpr rfl) (z2u ns) (z8d _) (fun d hd=>by
  obtain⟨i,_,rfl⟩:=y1h.mp hd
  exact z8d i) ru
 have hany:(ns.any fun i=>decide (i=n))=true:=y1r.mpr ⟨n,hn,decide_eq_true rfl⟩
 obtain⟨j,d,hd,hp,hno⟩:=zci hany
 have hdn:d=n:=of_decide_eq_true hp
 subst hdn
 rw [y04] at hl z
 have hjd:=(y00.mp hd).1
 have hj:j<its.toArray.size:=by rw [y0l]; omega
 have look:∀m (hm:m<its.toArray.size),∃d',ns[m]?=some d'∧ev its.toArray[m]=decide (d'=d):=fun m hm=>by
  have hm':m<its.length:=by rw [y0l] at hm; exact hm
  have hmd:m<ns.length:=by omega
  refine⟨ns[m],y01 hmd,?_⟩
  rw [←zkz]
  refine h2 m _ _ (by simp [hm']) ?_
  rw [y06,y01 hmd]
  rfl
 have hline:(sizeLine:Int)<2^63 - 1:=by decide
 refine call_meets F.slot_list_index ⟨_,e,rfl⟩ F.entry_list_index (F.args_list_index_2 _ _)
  (PySem.SeqAt.list_indexAt l its.toArray m none #[] u ev j hj (by omega) (by
   obtain⟨d',g1,g2⟩:=look j hj
   rw [hd] at g1
   cases g1
   rw [g2]
   exact decide_eq_true rfl) (fun m hm hlt=>by
   obtain⟨d',g1,g2⟩:=look m hm
   rw [g2]
   exact hno m d' hlt g1)) ⟨e,h1,?_⟩
 exact⟨.int (j:Int),H,I.kept (t':=s.toks+1) (fun _ _ e=>e),⟨_,rfl⟩,q j hd fun m y hm hy=>of_decide_eq_false (hno m y hm hy)⟩
def zg4 (ta:TE)(t:TA)(σ:St)(H:Hp)(Q:VK):Prop:=ta σ H fun x H1=>match x with
 | .ref l=>(∃xs,H1 l=some (.lst xs))∧t σ H1 fun vs H2=>match vs with
  | [.int n]=>∃ns:List Int,H2 l=some (.lst (ns.map V.int))∧n∈ns∧∀j:Nat,ns[j]?=some n→(∀(m:Nat) y,m<j→ns[m]?=some y→y≠n)→Q (.int (j:Int)) H2
  | _=>False
 | _=>False
theorem zal {k:Nat}(hr:Room k X.A)(ho:PE X o ta)(ha:PA X (e::es) t)(hbase:attributeBase o "index" X.env (eval o X.env)=eval o X.env:=by rfl)
  (hfew:((backTo cpos (starEach (e::es) X.env)).all (fun x=>!x.1)&&(backToKw cpos (keywordEach [] X.env)).all (fun x=>x.1.isSome)
  &&decide ((e::es).length+([]:List Keyword).length+(if ([]:List Keyword).isEmpty then 0 else 1)<30))=true:=by rfl)
  (hline:(apos.endLine==cpos.line)=true:=by rfl) (hs:starEach (e::es) X.env=(false,eval e X.env)::starEach es X.env:=by rfl) (hplain:(backTo cpos (starEach es X.env)).any (·.1)=false:=by rfl) :
  PE X (.Call (.Attribute o "index" apos) (e::es) [] cpos) (zg4 ta t) :=
 z4m (zlk y2r PySem.F.slot_list_index PySem.F.type_list_index (zi8 hr) (z1k ho) (z7z ha) hbase hfew hline hs hplain) fun σ H Q h=>⟨_,h,fun x H1 q=>by
  split at q
  ·obtain⟨⟨xs,h1⟩,h2⟩:=q
   refine⟨.inl ⟨rfl,_,SqL.of h1⟩,_,h2,fun vs H2 q2=>?_⟩
   split at q2
   ·obtain⟨ns,h3,h4,h5⟩:=q2
    exact⟨_,ns,_,rfl,rfl,h3,h4,h5⟩
   ·exact q2.elim
  ·exact q.elim⟩
def zp6 (ta:TE)(t:TA)(σ:St)(H:Hp)(Q:VK):Prop:=ta σ H fun x H1=>match x with
 | .ref l=>(∃xs,H1 l=some (.lst xs))∧t σ H1 fun vs H2=>match vs with
  | [.int i,y]=>∃xs,∃k:Nat,H2 l=some (.lst xs)∧i=(k:Int)∧k≤xs.length∧xs.length<sizeLine∧Q .non (upd H2 l (.lst (xs.take k++y::xs.drop k)))
  | _=>False
 | _=>False
def znw (ta:TE)(t:TA)(σ:St)(H:Hp)(Q:VK):Prop:=ta σ H fun x H1=>match x with
 | .ref l=>(∃xs,H1 l=some (.lst xs))∧t σ H1 fun vs H2=>match vs with
  | [.ref b]=>∃xs zs,H2 l=some (.lst xs)∧H2 b=some (.lst zs)∧xs.length+zs.length≤sizeLine∧Q .non (upd H2 l (.lst (xs++zs)))
  | _=>False
 | _=>False
theorem zag (ho:PE X o ta)(ha:PA X (e::es) t)(hbase:attributeBase o "extend" X.env (eval o X.env)=eval o X.env:=by rfl)
  (hfew:((backTo cpos (starEach (e::es) X.env)).all (fun x=>!x.1)&&(backToKw cpos (keywordEach [] X.env)).all (fun x=>x.1.isSome)
  &&decide ((e::es).length+([]:List Keyword).length+(if ([]:List Keyword).isEmpty then 0 else 1)<30))=true:=by rfl)
  (hline:(apos.endLine==cpos.line)=true:=by rfl) (hs:starEach (e::es) X.env=(false,eval e X.env)::starEach es X.env:=by rfl) (hplain:(backTo cpos (starEach es X.env)).any (·.1)=false:=by rfl) :
  PE X (.Call (.Attribute o "extend" apos) (e::es) [] cpos) (znw ta t) :=
 z4m (zlk y2r PySem.F.slot_list_extend PySem.F.type_list_extend zem (z1k ho) (z7z ha) hbase hfew hline hs hplain) fun σ H Q h=>⟨_,h,fun x H1 q=>by
  split at q
  ·obtain⟨⟨xs,h1⟩,h2⟩:=q
   refine⟨.inl ⟨rfl,_,SqL.of h1⟩,_,h2,fun vs H2 q2=>?_⟩
   split at q2
   ·obtain⟨ns,zs,h3,h4,h5,h6⟩:=q2
    exact⟨_,_,ns,zs,rfl,rfl,h3,h4,h5,h6⟩
   ·exact q2.elim
  ·exact q.elim⟩
end
def Itv (K:y03)(a:Addr)(n:Nat):It:=⟨fun i H=>i<n∧∃xs,SqL K H a xs∧xs.length=n,fun i H x H'=>H'=H∧∀xs,SqL K H a xs→xs[n - 1 - i]?=some x,fun i H=>i=n⟩
def zpi (K:y03)(tl:TE)(σ:St)(H:Hp)(R:It→Hp→Prop):Prop:=tl σ H fun x H1=>match x with
 | .ref a=>∃xs,SqL K H1 a xs∧R (Itv K a xs.length) H1
 | _=>False
end L2.EX
set_option linter.all false
namespace My
theorem zq7 (a b:Int):∃q1 q2:Int,a=(y2h a b:Nat)*q1∧b=(y2h a b:Nat)*q2:=by
 obtain⟨q1,h1⟩:=Int.gcd_dvd_left (a:=a) (b:=b)
 obtain⟨q2,h2⟩:=Int.gcd_dvd_right (a:=a) (b:=b)
 exact⟨q1,q2,h1,h2⟩
theorem zpo {g q1 q2:Int}(hg:0<g)(h:(y2h (g*q1) (g*q2):Int)=g):y2h q1 q2=1:=by
 rw [Int.gcd_mul_left] at h
 push_cast at h
 have h1:((g.natAbs:Nat):Int)=g:=by omega
 rw [h1] at h
 have h2:g*((y2h q1 q2:Nat):Int)=g*1:=by rw [h,y3u]
 have:=Int.eq_of_mul_eq_mul_left (by omega) h2
 omega
theorem zq5 {a b:Int}(hb:b≠0):(0:Int)<(y2h a b:Nat):=by
 have:0<y2h a b:=Int.gcd_pos_of_ne_zero_right a hb
 omega
theorem zax {a b j:Int}(hb:b≠0)(hj:j=if b<0 then -((y2h a b:Nat):Int) else (y2h a b:Nat)):j≠0∧j.natAbs≤b.natAbs∧1≤b.fdiv j∧y2h (a.fdiv j) (b.fdiv j)=1∧a.fdiv j*b=a*b.fdiv j:=by
 obtain⟨q1,q2,h1,h2⟩:=zq7 a b
 have hg:=zq5 (a:=a) hb
 generalize hG:((y2h a b:Nat):Int)=g at *
 have one:y2h q1 q2=1:=zpo hg (by rw [←h1,←h2]; exact hG)
 have q20:q2≠0:=by
  rintro rfl
  simp at h2
  exact hb h2
 by_cases hn:b<0
 ·rw [if_pos hn] at hj
  subst hj
  have e1:a = -g * -q1:=by rw [y6v]; exact h1
  have e2:b = -g * -q2:=by rw [y6v]; exact h2
  have f1:a.fdiv (-g) = -q1:=by
   conv=>lhs; rw [e1]
   exact y31 _ (by omega)
  have f2:b.fdiv (-g) = -q2:=by
   conv=>lhs; rw [e2]
   exact y31 _ (by omega)
  have q2n:q2<0:=by
   rcases y2k q2 0 with z | z
   ·exact z
   ·have:=y2j (y25 hg) z
    omega
  refine⟨by omega,?_,by omega,?_,?_⟩
  ·rw [h2,y3z,Int.natAbs_neg]
   exact y57 _ (by omega)
  ·rw [f1,f2,Int.gcd_neg,Int.neg_gcd]
   exact one
  ·rw [f1,f2,h2,h1,y55,Int.mul_neg,y2l g q1,y2y,y6g]
 ·rw [if_neg hn] at hj
  subst hj
  have f1:a.fdiv j=q1:=by
   conv=>lhs; rw [h1]
   exact y31 _ (by omega)
  have f2:b.fdiv j=q2:=by
   conv=>lhs; rw [h2]
   exact y31 _ (by omega)
  have q2p:0<q2:=by
   rcases y2k 0 q2 with z | z
   ·exact z
   ·have:=y2j (y25 hg) (show 0≤-q2 by omega)
    rw [Int.mul_neg] at this
    omega
  refine⟨by omega,?_,by omega,?_,?_⟩
  ·rw [h2,y3z]
   exact y57 _ (by omega)
  ·rw [f1,f2]
   exact one
  ·rw [f1,f2,h2,h1]
   simp [y2l,y6g,y2y]
theorem zg7 {d n b:Int}(h:y2h n d=1)(k:d∣n*b):d∣b:=by
 have k':d.natAbs∣n.natAbs*b.natAbs:=by
  rw [←y3z]
  exact y3e.mpr k
 have c:Nat.Coprime d.natAbs n.natAbs:=by
  show Nat.gcd _ _=1
  rw [y6l]
  exact h
 exact y3e.mp (c.dvd_of_dvd_mul_left k')
theorem zgj {n d a b:Int}(h:y2h n d=1)(e:n*b=a*d):d∣b∧n∣a:=by
 constructor
 ·exact zg7 h ⟨a,by rw [e,y2l]⟩
 ·exact zg7 (n:=d) (by rw [Int.gcd_comm]; exact h) ⟨b,by rw [e,y2l]⟩
end My
set_option Elab.async false
set_option linter.all false
set_option maxRecDepth 100000
namespace My
open PySem L2 L2.EX
structure Blt (mg:Str→Option Value):Prop where
 abs:mg "abs"=none
 any:mg "any"=none
 bool:mg "bool"=none
 dict:mg "dict"=none
 enumerate:mg "enumerate"=none
 int:mg "int"=none
 isinstance:mg "isinstance"=none
 len:mg "len"=none
 list:mg "list"=none
 max:mg "max"=none
 min:mg "min"=none
 range:mg "range"=none
 reversed:mg "reversed"=none
 sorted:mg "sorted"=none
 str:mg "str"=none
 sum:mg "sum"=none
 tuple:mg "tuple"=none
 zip:mg "zip"=none
def spG:Sp:=fun vs H Q _=>match vs with
 | [.int a,.int b]=>Q (.int (y2h a b:Nat)) H
 | _=>False
def z8u (K:y03):Sp:=fun vs H Q _=>match vs with
 | [.ref a,.int k]=>∃ns:List Int,SqL K H a (ns.map V.int)∧0≤k∧Q (.int (ns.getD k.toNat 0)) H
 | _=>False
def zd2:Sp:=fun vs H Q _=>match vs with
 | [.int _]=>∀z:Int,-(10^60)≤z→z≤10^60→Q (.int z) H
 | _=>False
def z3l:Sp:=fun vs H Q _=>match vs with
 | [.int _]=>Q (.bl true) H
 | [.bl _]=>Q (.bl false) H
 | _=>False
def z4n:Sp:=fun vs H Q _=>match vs with
 | [.int _,.int k]=>0≤k∧k≤100∧∀z:Int,0≤z→Q (.int z) H
 | _=>False
def zjc:Sp:=fun vs H Q _=>match vs with
 | [.int _,.int _]=>∀H',Same H H'→Q (.bl true) H'
 | _=>False
theorem zik {g l:Int}(hg:0≤g)(hl:0<l):y2h l (g % l)=y2h g l:=by
 obtain⟨a,rfl⟩:=y34 hg
 obtain⟨b,rfl⟩:=y34 (y25 hl)
 rw [←Int.natCast_emod]
 show Nat.gcd b (a % b)=Nat.gcd a b
 rw [y6l a b,Nat.gcd_rec b a,y6l]
theorem zla (a b:Int):y2h (if a<0 then -a else a) (if b<0 then -b else b)=y2h a b:=by
 by_cases h1:a<0<;>by_cases h2:b<0<;>simp [h1,h2,Int.gcd_neg,Int.neg_gcd]
theorem zew (a:Int):0≤(if a<0 then -a else a):=by split<;>omega
theorem zhq {g:Int}(hg:0≤g):((y2h g 0:Nat):Int)=g:=by rw [Int.gcd_zero_right]; omega
theorem zlj {ns:List Int}{k:Int}(h0:0≤k)(h:k<((ns.map V.int).length:Nat)):atI (ns.map V.int) k=some (.int (ns.getD k.toNat 0)):=by
 rw [y04] at h
 have hk:k.toNat<ns.length:=by omega
 have e:k=((k.toNat:Nat):Int):=by omega
 rw [e]
 refine z28 ?_
 rw [y06,y01 (by omega),y07,y01 (by omega)]
 rfl
theorem zcs {r:Int}(h0:0≤r)(h1:r<2147483629):Bd 40 r:=by
 show r.natAbs<2^40
 have:(2:Nat)^40=1099511627776:=by decide
 omega
theorem _root_.L2.EX.Bd.mul {m n:Nat}{x y:Int}(hx:Bd m x)(hy:Bd n y):Bd (m+n) (x*y):=by
 show(x*y).natAbs<2^(m+n)
 rw [y3z,Nat.pow_add]
 exact Nat.mul_lt_mul'' hx hy
theorem _root_.L2.EX.Bd.add {m n k:Nat}{x y:Int}(hx:Bd m x)(hy:Bd n y)(h1:m<k)(h2:n<k):Bd k (x+y):=by
 have a:Bd (k - 1) x:=hx.le (by omega)
 have b:Bd (k - 1) y:=hy.le (by omega)
 show(x+y).natAbs<2^k
 have a':x.natAbs<2^(k - 1):=a
 have b':y.natAbs<2^(k - 1):=b
 have e:2^k=2^(k - 1)+2^(k - 1):=by
  have:k=(k - 1)+1:=by omega
  conv=>lhs; rw [this,Nat.pow_succ]
  omega
 have:=Int.natAbs_add_le x y
 omega
theorem _root_.L2.EX.Bd.of_le {m:Nat}{x y:Int}(hy:Bd m y)(h:x.natAbs≤y.natAbs):Bd m x:=y2m h hy
def Res (K:y03)(H:Hp)(Q:VK)(d:PyData):Prop:=∀v H',Same H H'→Is K H' v d→Q v H'
theorem Res.new_tup {K:y03}{H:Hp}{Q:VK}{ds:List PyData}{xs:List V}(h:Res K H Q (.tuple ds))(al:IsAll K H xs ds):∀p,H p=none→Q (.ref p) (upd H p (.tup xs)):=fun p hp =>
 h _ _ (z03 hp _) (is_tuple.mpr ⟨p,xs,rfl,z01,IsAll.same (z03 hp _) _ _ al⟩)
theorem Res.ints2 {K:y03}{H:Hp}{Q:VK}{n d:Int}(h:Res K H Q (z9o n d)):∀p,H p=none→Q (.ref p) (upd H p (.tup [.int n,.int d])):=Res.new_tup h (z2u [n,d])
def zj5 (K:y03):Sp:=fun vs H Q _=>∃a b:Int,vs = [.int a,.int b]∧b≠0∧Bd 9000 b∧∀n d:Int,1≤d→y2h n d=1→n*b=a*d→Res K H Q (z9o n d)
theorem zpk {b j:Int}(hb:Bd 9000 b)(h:j.natAbs≤b.natAbs)(h0:j≠0):j.natAbs.log2<9000:=zjo (hb.of_le h) (y0a _) h0
def del (H:Hp)(l:Addr):Hp:=fun b=>if b=l then none else H b
theorem z90 {H:Hp}{l b:Addr}(h:b≠l):del H l b=H b:=by unfold del; rw [if_neg h]
theorem z49 {H:Hp}{l:Addr}{o:HO}:del (upd H l o) l=del H l:=by
 funext b
 unfold del upd
 split<;>rfl
theorem z4t {H H':Hp}{l:Addr}(s:Same H H'):Same (del H l) (del H' l):=fun b o h=>by
 unfold del at h ⊢
 split at h
 ·cases h
 ·rename_i hb
  rw [if_neg hb]
  exact s b o h
theorem del_sub {H:Hp}{l:Addr}:Same (del H l) H:=fun b o h=>by
 unfold del at h
 split at h
 ·cases h
 ·exact h
theorem zcc {H:Hp}{l:Addr}(h:H l=none):Same H (del H l):=fun b o q=>by
 rw [z90 (z06 q h)]
 exact q
structure Grow (K:y03)(H H':Hp)(l:Addr)(vs:List V)(ds:List PyData):Prop where
 old:Same H (del H' l)
 here:H' l=some (.lst vs)
 all:IsAll K (del H' l) vs ds
theorem Grow.start {K:y03}{H:Hp}{l:Addr}(h:H l=none):Grow K H (upd H l (.lst [])) l [] []:=⟨by rw [z49]; exact zcc h,z01,z0q⟩
theorem Grow.more {K:y03}{H H' H'':Hp}{l:Addr}{vs:List V}{ds:List PyData}(g:Grow K H H' l vs ds)(s:Same H' H''):Grow K H H'' l vs ds:=⟨g.old.trans (z4t s),s _ _ g.here,IsAll.same (z4t s) _ _ g.all⟩
theorem Grow.is {K:y03}{H H':Hp}{l:Addr}{vs:List V}{ds:List PyData}(g:Grow K H H' l vs ds):Is K H' (.ref l) (.list ds):=is_list.mpr ⟨l,vs,rfl,g.here,IsAll.same del_sub _ _ g.all⟩
theorem Grow.same {K:y03}{H H':Hp}{l:Addr}{vs:List V}{ds:List PyData}(g:Grow K H H' l vs ds):Same H H':=g.old.trans del_sub
theorem zhh {K:y03}{H:Hp}{l:Addr}{xs:List V}{v:V}{n d:Int}(h:Is K H v (z9o n d))(hl:H l=some (.lst xs)):Is K (del H l) v (z9o n d):=by
 obtain⟨a,rfl,ha⟩:=is_frac.mp h
 refine is_frac.mpr ⟨a,rfl,?_⟩
 rw [z90 (z61 ha hl (by intro z; cases z))]
 exact ha
theorem zg5 (xs:List V)(m:Nat):zec xs none (some (m:Int))=xs.take m:=by
 unfold zec
 rw [HT.sIx_none,HT.sIx_nat,List.drop_zero,Nat.sub_zero]
 rcases y3l m xs.length with h | h
 ·rw [y6w (by omega)]
 ·rw [y6p h,y08 (y0a _),y08 h]
theorem zg6 (xs:List V)(m:Nat):zec xs (some (m:Int)) none=xs.drop m:=by
 unfold zec
 rw [HT.sIx_none,HT.sIx_nat]
 rcases y3l m xs.length with h | h
 ·rw [y6w (by omega),y08 (by simp)]
 ·rw [y6p h,y3s (y0a _),y3s h]
  simp
def zm5 (ps:List (Int×Int)):PyData:=.list (ps.map fun p=>z9o p.1 p.2)
theorem zhe {K:y03}{H:Hp}{ps:List (Int×Int)}{xs:List V}{i:Nat}{x:V}(al:IsAll K H xs (ps.map fun p=>z9o p.1 p.2))(h:xs[i]?=some x):∃(p:Int×Int) (a:Addr),ps[i]?=some p∧x = .ref a∧H a=some (.tup [.int p.1,.int p.2]):=by
 obtain⟨d,h1,h2⟩:=z4c al h
 rw [y06] at h1
 cases q:ps[i]? with
 | none=>rw [q] at h1; cases h1
 | some p =>
  rw [q] at h1
  cases h1
  obtain⟨a,rfl,ha⟩:=is_frac.mp h2
  exact⟨p,a,rfl,rfl,ha⟩
def qs (ps:List (Int×Int)):Int×Int:=ps.foldl (fun s p=>(s.1*p.2+p.1*s.2,s.2*p.2)) (0,1)
def Low (p:Int×Int):Prop:=1≤p.2∧y2h p.1 p.2=1
theorem z0d {α:Type}{l:List α}{i:Nat}{x:α}(h:l[i]?=some x):l.take (i+1)=l.take i ++ [x]:=by
 have hi:=(y00.mp h).1
 rw [←y4w hi,(y00.mp h).2]
theorem cgo {J:It}{g:TG}{tt:TT}{te:TE}{σ0 σ':St}{Q:VK}{H:Hp}(e:σ0 = σ')(h:z50 J g tt te σ' Q H):z50 J g tt te σ0 Q H:=e▸h
def zmc (b:Nat):Sp:=fun vs H Q _=>match vs with
 | [.int _]=>∀z:Int,0≤z→z<10^b→Q (.int z) H
 | _=>False
end My
set_option Elab.async false
set_option linter.all false
set_option maxRecDepth 100000
namespace My
open PySem L2 L2.EX
def pr (p:Nat×Nat):PyData:=.tuple [.int (p.1:Int),.int (p.2:Int)]
def z37 (l:List Nat):PyData:=.list (l.map fun (n:Nat)=>.int (n:Int))
def z0a (l:List Nat):List V:=l.map fun (n:Nat)=>.int (n:Int)
def Frz (L:List Addr)(H H':Hp):Prop:=∀b o,b ∉ L→H b=some o→H' b=some o
theorem Frz.of {L:List Addr}{H H':Hp}(s:Same H H'):Frz L H H':=fun b o _ h=>s b o h
theorem Frz.trans {L:List Addr}{H H1 H2:Hp}(a:Frz L H H1)(b:Frz L H1 H2):Frz L H H2:=fun c o hc h=>b c o hc (a c o hc h)
theorem Frz.upd {L:List Addr}{H:Hp}{a:Addr}{o:HO}(h:a∈L):Frz L H (upd H a o):=fun b u hb q=>by
 rw [z09 (by rintro rfl; exact hb h)]
 exact q
structure Fix (K:y03)(C:Addr)(F:Hp)(me:Addr)(N:PM.Net)(aS aP:Addr):Prop where
 obj:∃dx fs aT aA,F me=some (.ins C dx fs)∧fs.lookup ("many_gives":Str)=some (.int (N.G:Int))∧fs.lookup ("tie_ends":Str)=some (.ref aT)∧fs.lookup ("sent":Str)=some (.ref aS)∧fs.lookup ("spare":Str)=some (.ref aP)∧fs.lookup ("ties_at":Str)=some (.ref aA) ∧
  Is K F (.ref aT) (.list (N.ends.map pr))∧Is K F (.ref aA) (.list (N.at'.map z37)) ∧
  (∀m:Str,m∈(["far_end","may_go","gives_with_rest","has_room","steps_to_room","row_behind","send_by_steps","way_from","skip_dead_ties","leads_on","send_along","fill"]:List Str)→fs.lookup m=none)
structure PourAt (K:y03)(C:Addr)(H:Hp)(me:Addr)(N:PM.Net)(aS aP:Addr)(sent spare:List Int)(M:List Addr):Prop where
 ok:∃F,Same F H∧F aS=none∧F aP=none∧(∀m∈M,F m=none)∧Fix K C F me N aS aP
 mu:∀m∈M,m≠aS∧m≠aP
 st:H aS=some (.lst (sent.map V.int))
 sp:H aP=some (.lst (spare.map V.int))
 ne:aS≠aP
 wf:N.WF
 ls:sent.length=N.ends.length
 lp:spare.length=N.nE
 sm:N.nE≤1000
 sk:N.ends.length≤1000
section
variable {K:y03}{C:Addr}{H H':Hp}{me:Addr}{N:PM.Net}{aS aP:Addr}{sent spare:List Int}{M:List Addr}
theorem PourAt.same (p:PourAt K C H me N aS aP sent spare M)(s:Same H H'):PourAt K C H' me N aS aP sent spare M:=by
 obtain⟨F,h1,h2⟩:=p.ok
 exact⟨⟨F,h1.trans s,h2⟩,p.mu,s _ _ p.st,s _ _ p.sp,p.ne,p.wf,p.ls,p.lp,p.sm,p.sk⟩
theorem PourAt.but (p:PourAt K C H me N aS aP sent spare M)(s:Frz [aS,aP] H H'){sent' spare':List Int}(h1:H' aS=some (.lst (sent'.map V.int)))(h2:H' aP=some (.lst (spare'.map V.int)))(l1:sent'.length=sent.length)(l2:spare'.length=spare.length):PourAt K C H' me N aS aP sent' spare' M:=by
 obtain⟨F,f1,f2,f3,f4⟩:=p.ok
 refine⟨⟨F,fun b o q=>s b o (fun z=>?_) (f1 b o q),f2,f3,f4⟩,p.mu,h1,h2,p.ne,p.wf,l1.trans p.ls,l2.trans p.lp,p.sm,p.sk⟩
 simp only [y0m,y1c,or_false] at z
 rcases z with rfl | rfl
 ·rw [f2] at q; cases q
 ·rw [f3] at q; cases q
theorem PourAt.frz (p:PourAt K C H me N aS aP sent spare M){L:List Addr}(s:Frz L H H')(hL:∀x∈L,x∈M):PourAt K C H' me N aS aP sent spare M:=by
 obtain⟨F,f1,f2,f3,f4,f5⟩:=p.ok
 refine⟨⟨F,fun b o q=>s b o (fun z=>?_) (f1 b o q),f2,f3,f4,f5⟩,p.mu,s _ _ (fun z=>(p.mu _ (hL _ z)).1 rfl) p.st,s _ _ (fun z=>(p.mu _ (hL _ z)).2 rfl) p.sp,p.ne,p.wf,p.ls,p.lp,p.sm,p.sk⟩
 rw [f4 b (hL b z)] at q
 cases q
theorem PourAt.new (p:PourAt K C H me N aS aP sent spare M){l:Addr}(h:H l=none):PourAt K C H me N aS aP sent spare (l::M):=by
 obtain⟨F,f1,f2,f3,f4,f5⟩:=p.ok
 refine⟨⟨F,f1,f2,f3,fun m hm=>?_,f5⟩,fun m hm=>?_,p.st,p.sp,p.ne,p.wf,p.ls,p.lp,p.sm,p.sk⟩
 ·rcases y0m.mp hm with rfl | hm
  ·exact f1.free h
  ·exact f4 m hm
 ·rcases y0m.mp hm with rfl | hm
  ·exact⟨fun z=>(z06 p.st h) z.symm,fun z=>(z06 p.sp h) z.symm⟩
  ·exact p.mu m hm
theorem PourAt.less (p:PourAt K C H me N aS aP sent spare M){L:List Addr}(h:∀x∈L,x∈M):PourAt K C H me N aS aP sent spare L:=by
 obtain⟨F,f1,f2,f3,f4,f5⟩:=p.ok
 exact⟨⟨F,f1,f2,f3,fun m hm=>f4 m (h m hm),f5⟩,fun m hm=>p.mu m (h m hm),p.st,p.sp,p.ne,p.wf,p.ls,p.lp,p.sm,p.sk⟩
theorem Fix.get {F:Hp}(f:Fix K C F me N aS aP):∃dx fs aT aA ts rs,F me=some (.ins C dx fs)∧fs.lookup ("many_gives":Str)=some (.int (N.G:Int))∧fs.lookup ("tie_ends":Str)=some (.ref aT)∧fs.lookup ("sent":Str)=some (.ref aS)∧fs.lookup ("spare":Str)=some (.ref aP)∧fs.lookup ("ties_at":Str)=some (.ref aA) ∧
  F aT=some (.lst ts)∧IsAll K F ts (N.ends.map pr)∧F aA=some (.lst rs)∧IsAll K F rs (N.at'.map z37) ∧
  (∀m:Str,m∈(["far_end","may_go","gives_with_rest","has_room","steps_to_room","row_behind","send_by_steps","way_from","skip_dead_ties","leads_on","send_along","fill"]:List Str)→fs.lookup m=none):=by
 obtain⟨dx,fs,aT,aA,g1,g2,g3,g4,g5,g6,g7,g8,g9⟩:=f.obj
 obtain⟨a,ts,e1,h1,h2⟩:=is_list.mp g7
 obtain⟨b,rs,e2,h3,h4⟩:=is_list.mp g8
 cases e1
 cases e2
 exact⟨dx,fs,aT,aA,ts,rs,g1,g2,g3,g4,g5,g6,h1,h2,h3,h4,g9⟩
theorem Same.frz {F:Hp}(s:Same F H){L:List Addr}(f:Frz L H H')(h:∀x∈L,F x=none):Same F H':=fun b o q=>f b o (fun z=>by rw [h b z] at q; cases q) (s b o q)
theorem PourAt.get (p:PourAt K C H me N aS aP sent spare M):∃dx fs aT aA ts rs,H me=some (.ins C dx fs)∧fs.lookup ("many_gives":Str)=some (.int (N.G:Int))∧fs.lookup ("tie_ends":Str)=some (.ref aT)∧fs.lookup ("sent":Str)=some (.ref aS)∧fs.lookup ("spare":Str)=some (.ref aP)∧fs.lookup ("ties_at":Str)=some (.ref aA) ∧
  H aT=some (.lst ts)∧IsAll K H ts (N.ends.map pr)∧H aA=some (.lst rs)∧IsAll K H rs (N.at'.map z37) ∧
  (∀m:Str,m∈(["far_end","may_go","gives_with_rest","has_room","steps_to_room","row_behind","send_by_steps","way_from","skip_dead_ties","leads_on","send_along","fill"]:List Str)→fs.lookup m=none):=by
 obtain⟨F,f1,f2,f3,f4,⟨dx,fs,aT,aA,g1,g2,g3,g4,g5,g6,g7,g8,g9⟩⟩:=p.ok
 obtain⟨a,ts,e1,h1,h2⟩:=is_list.mp g7
 obtain⟨b,rs,e2,h3,h4⟩:=is_list.mp g8
 cases e1
 cases e2
 exact⟨dx,fs,aT,aA,ts,rs,f1 _ _ g1,g2,g3,g4,g5,g6,f1 _ _ h1,IsAll.same f1 _ _ h2,f1 _ _ h3,IsAll.same f1 _ _ h4,g9⟩
end
theorem zhj {K:y03}{H:Hp}{ps:List (Nat×Nat)}{xs:List V}{i:Nat}{p:Nat×Nat}(al:IsAll K H xs (ps.map pr))(h:ps[i]?=some p):∃a,xs[i]?=some (.ref a)∧H a=some (.tup [.int (p.1:Int),.int (p.2:Int)]):=by
 obtain⟨x,h1,h2⟩:=z21 (i:=i) (d:=pr p) al (by rw [y06,h]; rfl)
 unfold pr at h2
 obtain⟨a,rfl,ha⟩:=is_frac.mp h2
 exact⟨a,h1,ha⟩
theorem z3t {K:y03}{H:Hp}{ns:List Nat}{xs:List V}(h:IsAll K H xs (ns.map fun (n:Nat)=>.int (n:Int))):xs=z0a ns:=by
 have e:(ns.map fun (n:Nat)=>PyData.int (n:Int))=(ns.map fun (n:Nat)=>(n:Int)).map PyData.int:=by rw [y26]; rfl
 rw [e] at h
 rw [z8y h,y26]
 rfl
theorem z2c {K:y03}{H:Hp}(ns:List Nat):IsAll K H (z0a ns) (ns.map fun (n:Nat)=>.int (n:Int)):=by
 have e:(ns.map fun (n:Nat)=>PyData.int (n:Int))=(ns.map fun (n:Nat)=>(n:Int)).map PyData.int:=by rw [y26]; rfl
 have e2:z0a ns=(ns.map fun (n:Nat)=>(n:Int)).map V.int:=by unfold z0a; rw [y26]; rfl
 rw [e,e2]
 exact z2u _
theorem z46 {K:y03}{H:Hp}{ps:List (List Nat)}{xs:List V}{i:Nat}{l:List Nat}(al:IsAll K H xs (ps.map z37))(h:ps[i]?=some l):∃a,xs[i]?=some (.ref a)∧H a=some (.lst (z0a l)):=by
 obtain⟨x,h1,h2⟩:=z21 (i:=i) (d:=z37 l) al (by rw [y06,h]; rfl)
 unfold z37 at h2
 obtain⟨a,ys,rfl,ha,hal⟩:=is_list.mp h2
 rw [z3t hal] at ha
 exact⟨a,h1,ha⟩
theorem zek {l:List Nat}{i n:Nat}(h:l[i]?=some n):(z0a l)[i]?=some (.int (n:Int)):=by
 unfold z0a
 rw [y06,h]
 rfl
theorem z31 {l:List Nat}{i:Nat}{v:V}(h:(z0a l)[i]?=some v):∃n:Nat,l[i]?=some n∧v = .int (n:Int):=by
 unfold z0a at h
 rw [y06] at h
 cases q:l[i]? with
 | none=>rw [q] at h; cases h
 | some n=>rw [q] at h; exact⟨n,rfl,(y12 h).symm⟩
theorem z2y {l:List Int}{i:Nat}{s:Int}(h:l[i]?=some s):atI (l.map V.int) (i:Int)=some (.int s):=z28 (by rw [y06,h]; rfl)
theorem z0x {l:List Int}{i:Nat}(h:i<l.length):l[i]?=some (l.getD i 0):=by
 rw [y01 h]; simp [y1k,y01 h]
theorem z33 {n k:Nat}(h:k<n):ixN n (k:Int)=some k:=by
 unfold ixN
 rw [if_pos (by omega),if_pos (by omega)]
 rfl
theorem z70 {α:Type}{xs:List α}{x:α}(h:xs.getLast?=some x):atI xs (-1)=some x:=by
 have hne:xs ≠ []:=by rintro rfl; simp at h
 have hp:=y0s.mpr hne
 unfold atI ixN
 rw [if_neg (by decide),if_pos (by omega)]
 have e:((-1:Int)+xs.length).toNat=xs.length - 1:=by omega
 simp only [Option.bind_some,e]
 rw [y19] at h
 exact h
theorem z5a {l:List Int}{e:Nat}{s:Int}(h:l[e]?=some s):(l.map V.int)[((e:Nat):Int).toNat]?=some (.int s):=by
 rw [y3x,y06,h]
 rfl
theorem z2x {α:Type}(x:α):∀n:Nat,(y05 n [x]).flatten=y05 n x
 | 0=>rfl
 | n+1=>by rw [y1p,y1p,y3h,z2x x n]; rfl
theorem _root_.PM.Behind.weakT {N:PM.Net}{sent:List Int}{d:Nat}{row:List Nat}{steps0 steps:List Int}{behind:List Nat}{P Q:Nat→Nat→Prop}(B:PM.Behind N sent d row steps0 P steps behind)(h:∀a k b,Q a k→PM.Tie N a k b→P a k):PM.Behind N sent d row steps0 Q steps behind :=
 ⟨B.len,B.old,B.new,B.beh,fun a k b q t g=>B.cl a k b (h a k b q t) t g⟩
theorem _root_.PM.unr_set:∀{l:List Int} {i:Nat} {x v:Int},l[i]?=some x→x<0→0≤v→PM.unr (l.set i v)+1=PM.unr l
 | [],_,_,_,h,_,_=>by simp at h
 | y::r,0,x,v,h,h1,h2=>by
  simp at h
  subst h
  unfold PM.unr
  have:¬v<0:=by omega
  rw [y3n,y46,y46]
  simp [h1,this]
 | y::r,i+1,x,v,h,h1,h2=>by
  have ih:=PM.unr_set (l:=r) (i:=i) (x:=x) (v:=v) (by simpa using h) h1 h2
  unfold PM.unr at ih ⊢
  rw [y3o,y46,y46]
  omega
theorem _root_.PM.unr_len (l:List Int):PM.unr l≤l.length:=List.countP_le_length
theorem zdi {steps:List Int}{e:Nat}(h:e<steps.length):steps[e]?=some (PM.Lv steps e):=by
 unfold PM.Lv
 rw [y01 h]; simp [y1k,y01 h]
theorem za9 {steps:List Int}{e:Nat}(h:0≤PM.Lv steps e):e<steps.length:=by
 rcases y3l e steps.length with z | z
 ·exact z
 ·have:PM.Lv steps e = -1:=by simp [PM.Lv,y1k,y0z z]
  omega
def goB (N:PM.Net)(sent:List Int)(e k:Nat):Bool:=decide (e<N.G)||decide (0<sent.getD k 0)
theorem zc1 {N:PM.Net}{sent:List Int}{e k:Nat}(hk:k<sent.length):goB N sent e k=true↔PM.Go N sent e k:=by
 unfold goB PM.Go
 rw [y5h,decide_eq_true_eq,decide_eq_true_eq]
 constructor
 ·rintro(h | h)
  ·exact .inl h
  ·exact .inr ⟨_,z0x hk,h⟩
 ·rintro(h | ⟨s,h1,h2⟩)
  ·exact .inl h
  ·right
   rw [z0x hk] at h1
   cases h1
   exact h2
def z53 (N:PM.Net)(spare:List Int)(e:Nat):Bool:=decide (N.G≤e)&&decide (0<spare.getD e 0)
theorem z40 {N:PM.Net}{spare:List Int}{e:Nat}(he:e<spare.length):z53 N spare e=true↔PM.Room N spare e:=by
 unfold z53 PM.Room
 rw [y1d,decide_eq_true_eq,decide_eq_true_eq]
 constructor
 ·rintro⟨h1,h2⟩
  exact⟨h1,_,z0x he,h2⟩
 ·rintro⟨h1,x,h2,h3⟩
  rw [z0x he] at h2
  cases h2
  exact⟨h1,h3⟩
def rest (N:PM.Net)(spare:List Int):List Nat:=(y0b N.G).filter fun g=>decide (0<spare.getD g 0)
section
variable (K:y03)(C:Addr)
def zhz:Sp:=fun vs H Q _=>∃(me:Addr) (N:PM.Net) (aS aP:Addr) (sent spare:List Int) (M:List Addr) (e k b:Nat),vs = [.ref me,.int (e:Int),.int (k:Int)]∧PourAt K C H me N aS aP sent spare M∧PM.Tie N e k b∧Q (.int (b:Int)) H
def zkw:Sp:=fun vs H Q _=>∃(me:Addr) (N:PM.Net) (aS aP:Addr) (sent spare:List Int) (M:List Addr) (e k:Nat),vs = [.ref me,.int (e:Int),.int (k:Int)]∧PourAt K C H me N aS aP sent spare M∧k<sent.length∧Q (.bl (goB N sent e k)) H
def zeu:Sp:=fun vs H Q _=>∃(me:Addr) (N:PM.Net) (aS aP:Addr) (sent spare:List Int) (M:List Addr),vs = [.ref me]∧PourAt K C H me N aS aP sent spare M∧∀l,H l=none→Q (.ref l) (upd H l (.lst (z0a (rest N spare))))
def zcn:Sp:=fun vs H Q _=>∃(me:Addr) (N:PM.Net) (aS aP:Addr) (sent spare:List Int) (M:List Addr) (l:Addr) (es:List Nat),vs = [.ref me,.ref l]∧PourAt K C H me N aS aP sent spare M∧H l=some (.lst (z0a es))∧es.length≤1000∧(∀e∈es,e<N.nE)∧∀H',Same H H'→Q (.bl (es.any (z53 N spare))) H'
def zda:Sp:=fun vs H Q _=>∃(me:Addr) (N:PM.Net) (aS aP:Addr) (sent spare:List Int) (M:List Addr) (ar ast:Addr) (row:List Nat) (steps0:List Int) (d:Nat),vs = [.ref me,.ref ar,.ref ast]∧PourAt K C H me N aS aP sent spare M∧ast∈M ∧
 H ar=some (.lst (z0a row))∧ar≠ast∧H ast=some (.lst (steps0.map V.int))∧steps0.length=N.nE∧(∀e∈row,PM.Lv steps0 e=d) ∧
 ∀(l:Addr) (steps:List Int) (behind:List Nat) H',Frz [ast] H H'→H' ast=some (.lst (steps.map V.int))→H l=none→H' l=some (.lst (z0a behind))→PM.Behind N sent d row steps0 (fun a _=>a∈row) steps behind→behind.length+PM.unr steps=PM.unr steps0→Q (.ref l) H'
def znf (N:PM.Net)(sent spare steps:List Int):Prop:=∃(d:Nat) (row:List Nat),PM.Rows N sent spare d row steps∧(row = []∨∃e∈row,PM.Room N spare e)
def zfq:Sp:=fun vs H Q _=>∃(me:Addr) (N:PM.Net) (aS aP:Addr) (sent spare:List Int) (M:List Addr),vs = [.ref me]∧PourAt K C H me N aS aP sent spare M ∧
 ∀(l:Addr) (steps:List Int) H',Same H H'→H l=none→H' l=some (.lst (steps.map V.int))→steps.length=N.nE→znf N sent spare steps→Q (.ref l) H'
def zgh (N:PM.Net)(sent steps:List Int)(e k b:Nat):Bool:=decide (PM.Lv steps b=PM.Lv steps e+1)&&goB N sent e k
def zg9:Sp:=fun vs H Q _=>∃(me:Addr) (N:PM.Net) (aS aP:Addr) (sent spare:List Int) (M:List Addr) (ast:Addr) (steps:List Int) (e k b:Nat),vs = [.ref me,.int (e:Int),.int (k:Int),.ref ast]∧PourAt K C H me N aS aP sent spare M∧H ast=some (.lst (steps.map V.int))∧steps.length=N.nE∧PM.Tie N e k b∧Q (.bl (zgh N sent steps e k b)) H
def zjh:Sp:=fun vs H Q _=>∃(me:Addr) (N:PM.Net) (aS aP:Addr) (sent spare:List Int) (M:List Addr) (ast atr:Addr) (steps tried:List Int) (e g:Nat) (es way:List Nat),vs = [.ref me,.int (e:Int),.ref ast,.ref atr]∧PourAt K C H me N aS aP sent spare M∧atr∈M∧ast≠atr∧H ast=some (.lst (steps.map V.int))∧steps.length=N.nE∧H atr=some (.lst (tried.map V.int)) ∧
 PM.Walk N sent spare steps g tried es way∧es.getLast?=some e∧e<N.nE ∧
 ∀(tried':List Int) H',Frz [atr] H H'→H' atr=some (.lst (tried'.map V.int))→PM.Walk N sent spare steps g tried' es way→PM.pot N.at' tried'≤PM.pot N.at' tried→(∀b,PM.Exh N spare tried b→PM.Exh N spare tried' b) →
  (∃(l:List Nat) (t:Nat),N.at'[e]?=some l∧tried'[e]?=some (t:Int)∧t≤l.length∧∀k b,l[t]?=some k→PM.Tie N e k b→zgh N sent steps e k b=true)→Q .non H'
end
theorem zjl {N:PM.Net}(W:N.WF){e k b:Nat}(t:PM.Tie N e k b):e<N.nE∧b<N.nE∧k<N.ends.length:=by
 obtain⟨p,hp,q⟩:=t
 have h1:=W.lo k p hp
 have h2:=W.gle
 have h3:=(y00.mp hp).1
 rcases q with q | q<;>refine⟨?_,?_,?_⟩<;>omega
theorem z9z {N:PM.Net}(W:N.WF){sent steps:List Int}{e k b:Nat}(t:PM.Tie N e k b)(hl:sent.length=N.ends.length):zgh N sent steps e k b=true↔PM.Leads N sent steps e k b:=by
 unfold zgh PM.Leads
 rw [y1d,decide_eq_true_eq,zc1 (by rw [hl]; exact(zjl W t).2.2)]
 exact⟨fun h=>⟨t,h.2,h.1⟩,fun h=>⟨h.2.2,h.2.1⟩⟩
theorem zjr {N:PM.Net}(W:N.WF){e k:Nat}{l:List Nat}(hl:N.at'[e]?=some l)(hk:k∈l):∃b,PM.Tie N e k b:=by
 obtain⟨p,hp,hpe⟩:=(W.mem e l k hl).mp hk
 rcases hpe with z | z
 ·exact⟨p.2,p,hp,.inl ⟨z,rfl⟩⟩
 ·exact⟨p.1,p,hp,.inr ⟨z,rfl⟩⟩
theorem rest_mem {N:PM.Net}{spare:List Int}{g:Nat}:g∈rest N spare↔g<N.G∧0<spare.getD g 0:=by
 unfold rest
 rw [y17,y1e,decide_eq_true_eq]
theorem zht {N:PM.Net}{spare:List Int}:(rest N spare).length≤N.G:=by
 unfold rest
 refine y1a (y3f _ _) ?_
 simp
theorem zon {N:PM.Net}(W:N.WF){sent spare steps:List Int}(hl:steps.length=N.nE)(hp:spare.length=N.nE)(h:∀e,PM.Lv steps e=if e∈rest N spare then 0 else -1):PM.Rows N sent spare 0 (rest N spare) steps:=by
 have hg:=W.gle
 have two:∀e,(e∈rest N spare∧PM.Lv steps e=0)∨(e ∉ rest N spare∧PM.Lv steps e = -1):=fun e=>by
  have:=h e
  by_cases c:e∈rest N spare
  ·rw [if_pos c] at this; exact .inl ⟨c,this⟩
  ·rw [if_neg c] at this; exact .inr ⟨c,this⟩
 refine⟨⟨hl,fun e he=>?_,fun g x hg' hx h0=>?_,fun e he=>?_⟩,fun e=>?_,fun e=>?_,fun a k b t g h1 h2=>?_,fun e h1 h2=>?_⟩
 ·rcases two e with ⟨a,b⟩ | ⟨a,b⟩
  ·obtain⟨a1,a2⟩:=rest_mem.mp a
   exact⟨a1,_,z0x (by omega),a2⟩
  ·omega
 ·have:g∈rest N spare:=rest_mem.mpr ⟨hg',by rw [z0x (by omega)] at hx; cases hx; exact h0⟩
  rw [h g,if_pos this]
 ·rcases two e with ⟨a,b⟩ | ⟨a,b⟩<;>omega
 ·rcases two e with ⟨a,b⟩ | ⟨a,b⟩
  ·exact⟨fun _=>by omega,fun _=>a⟩
  ·exact⟨fun z=>absurd z a,fun z=>by omega⟩
 ·rcases two e with ⟨a,b⟩ | ⟨a,b⟩<;>omega
 ·omega
 ·omega
theorem Frz.new {L:List Addr}{H H':Hp}{l:Addr}{o:HO}(f:Frz L H H')(h:H l=none):Frz L H (L2.upd H' l o):=fun b u hb q=>by
 rw [z09 (z06 q h)]
 exact f b u hb q
theorem z3q (l:List Nat):(z0a l).length=l.length:=by unfold z0a; rw [y04]
theorem zcz (l:List Nat)(n:Nat):z0a l ++ [.int (n:Int)]=z0a (l ++ [n]):=by unfold z0a; rw [y0g]; rfl
theorem zf7 (l:List Nat):(z0a l).dropLast=z0a l.dropLast:=by unfold z0a; rw [List.map_dropLast]
theorem z6e {l:List Nat}{n:Nat}(h:l.getLast?=some n):(z0a l).getLast?=some (.int (n:Int)):=by
 unfold z0a
 rw [List.getLast?_map,h]
 rfl
theorem zd6:∀{n:Nat} {l:List Nat},l.Nodup→(∀x∈l,x<n)→l.length≤n
 | 0,[],_,_=>y0a _
 | 0,x::l,_,h=>absurd (h x y0d) (y5m _)
 | n+1,l,hn,h=>by
  have h1:(l.filter fun x=>decide (x<n)).length≤n:=zd6 (hn.filter _) fun x hx=>by simpa using (y17.mp hx).2
  have h2:l.length≤(l.filter fun x=>decide (x<n)).length+l.count n:=by
   clear h1
   induction l with
   | nil=>simp
   | cons x l ih =>
    have hx:=h x y0d
    have:=ih (y3b.mp hn).2 fun y hy=>h y (y0c _ hy)
    rw [y37,y5l]
    by_cases c:x<n
    ·have c2:¬(x==n)=true:=by simp; omega
     simp only [c,decide_true,if_true,y1b,c2]
     simp
     omega
    ·have c2:x=n:=by omega
     subst c2
     simp
     omega
  have h3:=y4a.mp hn n
  omega
section
variable (K:y03)(C:Addr)
def Way (N:PM.Net)(sent spare steps:List Int)(g:Nat)(tried:List Int)(way:List Nat):Prop:=(way = []∧PM.Exh N spare tried g)∨(way ≠ []∧∃(es:List Nat) (f:Nat),PM.Path N steps sent es way∧es[0]?=some g∧es[way.length]?=some f∧PM.Room N spare f)
def zm6:Sp:=fun vs H Q _=>∃(me:Addr) (N:PM.Net) (aS aP:Addr) (sent spare:List Int) (M:List Addr) (ast atr:Addr) (steps tried:List Int) (g:Nat),vs = [.ref me,.int (g:Int),.ref ast,.ref atr]∧PourAt K C H me N aS aP sent spare M∧atr∈M∧ast≠atr∧H ast=some (.lst (steps.map V.int))∧steps.length=N.nE∧H atr=some (.lst (tried.map V.int)) ∧
 PM.Lv steps g=0∧g<N.G∧PM.Tr N tried∧PM.Dead N sent spare steps tried ∧
 ∀(lw:Addr) (way:List Nat) (tried':List Int) H',Frz [atr] H H'→H' atr=some (.lst (tried'.map V.int))→H lw=none→H' lw=some (.lst (z0a way))→PM.Tr N tried'→PM.Dead N sent spare steps tried'→(∀b,PM.Exh N spare tried b→PM.Exh N spare tried' b)→Way N sent spare steps g tried' way→way.length≤1000→Q (.ref lw) H'
end
theorem zab:∀(b:Bool) (l:List Nat),PM.alt b (z0a l)=z0a (PM.alt b l)
 | true,[]=>rfl
 | false,[]=>rfl
 | true,x::r=>by
  show V.int (x:Int)::PM.alt false (z0a r)=V.int (x:Int)::z0a (PM.alt false r)
  rw [zab false r]
 | false,x::r=>by
  show PM.alt true (z0a r)=z0a (PM.alt true r)
  exact zab true r
theorem z7q (a:Int)(sent:List Int)(l:List Nat)(k:Nat):PM.addAll a sent (l ++ [k])=(PM.addAll a sent l).set k ((PM.addAll a sent l).getD k 0+a):=by
 unfold PM.addAll
 rw [y3y]
 rfl
section
variable (K:y03)(C:Addr)
def zjv:Sp:=fun vs H Q _=>∃(me:Addr) (N:PM.Net) (aS aP:Addr) (sent spare:List Int) (M:List Addr) (lw:Addr) (cap steps:List Int) (g f:Nat) (es way:List Nat),vs = [.ref me,.int (g:Int),.ref lw]∧PourAt K C H me N aS aP sent spare M∧lw∈M∧H lw=some (.lst (z0a way))∧way.length≤1000∧way ≠ [] ∧
 PM.Flow N cap sent spare∧PM.Path N steps sent es way∧es[0]?=some g∧es[way.length]?=some f∧PM.Room N spare f∧g<N.G∧0<spare.getD g 0 ∧
 ∀(a:Int) (spare':List Int) H',0<a→Frz [aS,aP] H H'→H' aS=some (.lst ((PM.sendBy a sent way).map V.int))→H' aP=some (.lst (spare'.map V.int))→PM.Sent N cap sent spare way g f a spare'→spare'.getD g 0<spare.getD g 0→(∀e,e<N.G→e≠g→spare'.getD e 0=spare.getD e 0)→Q .non H'
end
theorem zcv {α:Type}:∀(b:Bool) (l:List α),(PM.alt b l).length≤l.length
 | true,[]=>y0a _
 | false,[]=>y0a _
 | true,x::r=>by
  have:=zcv false r
  show(PM.alt false r).length+1≤r.length+1
  omega
 | false,x::r=>by
  have:=zcv true r
  show(PM.alt true r).length≤r.length+1
  omega
theorem szz {n:Nat}(h:n≤1000000):n≤sizeLine:=y1a h (by decide)
section
variable (K:y03)(C:Addr)
def zfx:Sp:=fun vs H Q _=>∃(me:Addr) (N:PM.Net) (aS aP:Addr) (sent0 spare0:List Int) (M:List Addr) (ast:Addr) (cap steps:List Int),vs = [.ref me,.ref ast]∧PourAt K C H me N aS aP sent0 spare0 M∧ast∈M∧H ast=some (.lst (steps.map V.int))∧steps.length=N.nE ∧
 PM.Flow N cap sent0 spare0∧PM.Steps N sent0 spare0 steps ∧
 ∀(sent spare:List Int) H',Frz [aS,aP] H H'→H' aS=some (.lst (sent.map V.int))→H' aP=some (.lst (spare.map V.int))→PM.Flow N cap sent spare→(∀(e:Nat) x y,spare0[e]?=some x→spare[e]?=some y→y≤x)→(∀e,0≤PM.Lv steps e→PM.Room N spare0 e→spare.sum<spare0.sum)→Q .non H'
end
theorem tr0 {N:PM.Net}(W:N.WF):PM.Tr N (y05 N.nE 0):=⟨by rw [y0x],fun e l t _ h=>by
 rw [y1f] at h
 split at h
 ·cases h
  constructor<;>omega
 ·cases h⟩
theorem znx {N:PM.Net}{sent spare steps:List Int}:PM.Dead N sent spare steps (y05 N.nE 0):=fun e l j k t _ _ h hj=>by
 rw [y1f] at h
 split at h
 ·cases h
  omega
 ·cases h
theorem zdl {N:PM.Net}{spare:List Int}:(rest N spare).Nodup:=List.Pairwise.filter _ y47
theorem zdg {l:List Nat}(h:l.Nodup){i g:Nat}(hg:l[i]?=some g):g ∉ l.take i:=fun hm=>by
 obtain⟨j,hj⟩:=y09 hm
 have hji:j<i:=by
  have:=(y00.mp hj).1
  rw [y0v] at this
  omega
 rw [y4u hji] at hj
 have hi:=(y00.mp hg).1
 have hjl:=(y00.mp hj).1
 have e:l[j]=l[i]:=by
  rw [(y00.mp hj).2,(y00.mp hg).2]
 exact y23.mp h j i hjl hi hji e
section
variable (K:y03)(C:Addr)
def z3i (steps:List Int):List Bool:=steps.map fun s=>decide (0≤s)
def zjq:Sp:=fun vs H Q _=>∃(me:Addr) (N:PM.Net) (aS aP:Addr) (sent0 spare0:List Int) (M:List Addr) (cap:List Int),vs = [.ref me]∧PourAt K C H me N aS aP sent0 spare0 M∧PM.Flow N cap sent0 spare0 ∧
 ∀(l:Addr) (sent spare steps:List Int) H',Frz [aS,aP] H H'→H' aS=some (.lst (sent.map V.int))→H' aP=some (.lst (spare.map V.int))→PM.Done N cap sent spare steps→(∀(e:Nat) x y,spare0[e]?=some x→spare[e]?=some y→y≤x)→steps.length=N.nE→H l=none→H' l=some (.lst ((z3i steps).map V.bl))→Q (.ref l) H'
end
def z87 (steps:List Int)(i:Nat):List Nat:=(y0b i).filter fun e=>decide (0≤PM.Lv steps e)
theorem z8l (steps:List Int)(i:Nat):z87 steps (i+1)=z87 steps i++(if 0≤PM.Lv steps i then [i] else []):=by
 unfold z87
 rw [y3g,y39]
 congr 1
 by_cases c:0≤PM.Lv steps i<;>simp [c]
theorem zaq (steps:List Int)(i:Nat):(z87 steps i).length≤i:=by
 unfold z87
 refine y1a (y3f _ _) ?_
 simp
theorem reach_mem {steps:List Int}{e:Nat}:e∈z87 steps steps.length↔0≤PM.Lv steps e:=by
 unfold z87
 rw [y17,y1e,decide_eq_true_eq]
 exact⟨fun h=>h.2,fun h=>⟨za9 h,h⟩⟩
theorem z2b {K:y03}{H H':Hp}:∀{ps:List (Nat×Nat)} {xs:List V},IsAll K H xs (ps.map pr)→(∀b ys,H b=some (.tup ys)→H' b=some (.tup ys))→IsAll K H' xs (ps.map pr)
 | [],xs,h,_=>by simpa only [y3c,IsAll] using h
 | p::ps,xs,h,k=>by
  rw [y0h] at h ⊢
  simp only [IsAll] at h
  obtain⟨v,vs,rfl,q,al⟩:=h
  refine z1c ?_ (z2b al k)
  obtain⟨a,rfl,ha⟩:=is_frac.mp q
  exact is_frac.mpr ⟨a,rfl,k _ _ ha⟩
structure FF (fs:List (Str×V))(n:Nat)(g:Str→Option V):Prop where
 len:fs.length≤n
 get:∀m,fs.lookup m=g m
theorem FF.nil:FF [] 0 fun _=>none:=⟨y0a _,fun _=>rfl⟩
theorem FF.put {fs:List (Str×V)}{n:Nat}{g:Str→Option V}(h:FF fs n g)(f:Str)(v:V):FF (z77 f v fs) (n+1) fun m=>if m=f then some v else g m :=
 ⟨y1a (z55 f v fs) (Nat.succ_le_succ h.len),fun m=>by rw [z58,h.get m]⟩
theorem zd9 {K:y03}{H:Hp}:∀{xs:List V} {ds:List PyData},xs.length=ds.length→(∀(i:Nat) x d,xs[i]?=some x→ds[i]?=some d→Is K H x d)→IsAll K H xs ds
 | [],[],_,_=>z0q
 | [],_::_,h,_=>by simp at h
 | _::_,[],h,_=>by simp at h
 | x::xs,d::ds,h,g=>z1c (g 0 x d rfl rfl) (zd9 (by simpa using h) fun i y e h1 h2=>g (i+1) y e (by simpa using h1) (by simpa using h2))
theorem zln {α:Type}(n e:Nat)(f:Nat→α)(v:α):((y0b n).map f).set e v=(y0b n).map fun x=>if x=e then v else f x:=by
 apply y30
 intro i
 rw [List.getElem?_set,y06,y06,y04,y2i]
 by_cases hi:i<n
 ·rw [y1q hi]
  by_cases c:e=i
  ·subst c
   simp [hi]
  ·have c':¬i=e:=fun z=>c z.symm
   simp [c,c']
 ·rw [y0z (by simpa using hi)]
  by_cases c:e=i
  ·subst c
   simp [hi]
  ·simp [c]
theorem z5d {α:Type}{n e:Nat}(f:Nat→α)(h:e<n):((y0b n).map f)[e]?=some (f e):=by
 rw [y06,y1q h]
 rfl
theorem zaz:∀{ends:List (Nat×Nat)} {sent:List Int} {p:Nat×Nat} {s:Int} {e:Nat},sent.length=ends.length→PM.load (ends ++ [p]) (sent ++ [s]) e=PM.load ends sent e+(if PM.inc p e then s else 0)
 | [],[],p,s,e,_=>by simp [PM.load]
 | [],_::_,_,_,_,h=>by simp at h
 | _::_,[],_,_,_,h=>by simp at h
 | q::r,x::y,p,s,e,h=>by
  have ih:=zaz (ends:=r) (sent:=y) (p:=p) (s:=s) (e:=e) (by simpa using h)
  simp only [y6q,PM.load,ih]
  omega
def z0n (G:Nat)(ties:List (Nat×Nat)):List (Nat×Nat):=ties.map fun p=>(p.1,G+p.2)
def zcp (ends:List (Nat×Nat))(i e:Nat):List Nat:=(y0b i).filter fun k=>PM.inc (ends.getD k (0,0)) e
theorem zff (ends:List (Nat×Nat))(i e:Nat):zcp ends (i+1) e=zcp ends i e++(if PM.inc (ends.getD i (0,0)) e then [i] else []):=by
 unfold zcp
 rw [y3g,y39]
 congr 1
 rw [y37,y6x]
def z9y (cap:List Int)(ends:List (Nat×Nat))(ss:List Int)(i e:Nat):Int:=cap.getD e 0 - PM.load (ends.take i) (ss.take i) e
def z2f (G T:Nat)(ties:List (Nat×Nat)):PM.Net:=PM.netOf G T ties ((y0b (G+T)).map (zcp (z0n G ties) ties.length))
theorem z5u {G T:Nat}{ties:List (Nat×Nat)}(h:∀p∈ties,p.1<G∧p.2<T):(z2f G T ties).WF:=by
 have look:∀(k:Nat) p,(z0n G ties)[k]?=some p→∃q,ties[k]?=some q∧p=(q.1,G+q.2):=fun k p hp=>by
  unfold z0n at hp
  rw [y06] at hp
  cases z:ties[k]? with
  | none=>rw [z] at hp; cases hp
  | some q=>rw [z] at hp; exact⟨q,rfl,(y12 hp).symm⟩
 refine⟨y45 _ _,by show((y0b (G+T)).map _).length=G+T; simp,fun k p hp=>?_,fun e l k hl=>?_⟩
 ·obtain⟨q,h1,rfl⟩:=look k p hp
  obtain⟨a,b⟩:=h q (y02 h1)
  refine⟨a,?_,?_⟩
  ·show G≤G+q.2; omega
  ·show G+q.2<G+T; omega
 ·have hl':((y0b (G+T)).map (zcp (z0n G ties) ties.length))[e]?=some l:=hl
  have he:e<G+T:=by simpa using (y00.mp hl').1
  rw [z5d _ he] at hl'
  cases hl'
  unfold zcp
  rw [y17,y1e]
  constructor
  ·rintro⟨h1,h2⟩
   have hk:(z0n G ties)[k]?=some ((z0n G ties).getD k (0,0)):=by
    have:k<(z0n G ties).length:=by unfold z0n; rw [y04]; exact h1
    rw [y01 this]; simp [y1k,y01 this]
   exact⟨_,hk,by simpa [PM.inc] using h2⟩
  ·rintro⟨p,hp,hq⟩
   have hp':(z0n G ties)[k]?=some p:=hp
   have hk:k<ties.length:=by have:=(y00.mp hp').1; unfold z0n at this; rw [y04] at this; exact this
   refine⟨hk,?_⟩
   rw [show(z0n G ties).getD k (0,0)=p by simp [y1k,hp']]
   simpa [PM.inc] using hq
structure Aprt (x lT lS lP lA:Addr)(as:List Addr):Prop where
 Px:lP≠x
 PT:lP≠lT
 PS:lP≠lS
 PA:lP≠lA
 inP:lP ∉ as
 inx:x ∉ as
 inT:lT ∉ as
 inS:lS ∉ as
 inA:lA ∉ as
 nd:as.Nodup
structure IniAt (K:y03)(C:Addr)(H:Hp)(x dx lT lS lP lA:Addr)(fs:List (Str×V))(tl:List V)(E:List (Nat×Nat))(ss:List Int)(as:List Addr)(n:Nat)(sf:Nat→Int)(af:Nat→List Nat):Prop where
 me:H x=some (.ins C dx fs)
 te:H lT=some (.lst tl)
 al:IsAll K H tl (E.map pr)
 st:H lS=some (.lst (ss.map V.int))
 ta:H lA=some (.lst (as.map V.ref))
 sp:H lP=some (.lst (((y0b n).map sf).map V.int))
 tt:∀(e:Nat) (a:Addr),as[e]?=some a→H a=some (.lst (z0a (af e)))
section
variable {K:y03}{C:Addr}{H H':Hp}{x dx lT lS lP lA:Addr}{fs:List (Str×V)}{tl:List V}{E:List (Nat×Nat)}{ss:List Int}{as:List Addr}{n:Nat}{sf:Nat→Int}{af:Nat→List Nat}
theorem IniAt.same (i:IniAt K C H x dx lT lS lP lA fs tl E ss as n sf af)(s:Same H H'):IniAt K C H' x dx lT lS lP lA fs tl E ss as n sf af :=
 ⟨s _ _ i.me,s _ _ i.te,IsAll.same s _ _ i.al,s _ _ i.st,s _ _ i.ta,s _ _ i.sp,fun e a h=>s _ _ (i.tt e a h)⟩
theorem IniAt.spare (i:IniAt K C H x dx lT lS lP lA fs tl E ss as n sf af)(A:Aprt x lT lS lP lA as)(sf':Nat→Int):IniAt K C (upd H lP (.lst (((y0b n).map sf').map V.int))) x dx lT lS lP lA fs tl E ss as n sf' af :=
 ⟨by rw [z09 A.Px.symm]; exact i.me,by rw [z09 A.PT.symm]; exact i.te,z2b i.al fun b ys hb=>by rw [z09 (z61 hb i.sp (by intro z; cases z))]; exact hb,by rw [z09 A.PS.symm]; exact i.st,by rw [z09 A.PA.symm]; exact i.ta,z01,
  fun e a h=>by rw [z09 (fun z=>A.inP (by rw [←z]; exact y02 h))]; exact i.tt e a h⟩
theorem IniAt.tie (i:IniAt K C H x dx lT lS lP lA fs tl E ss as n sf af)(A:Aprt x lT lS lP lA as){e:Nat}{a:Addr}(ha:as[e]?=some a)(l:List Nat):IniAt K C (upd H a (.lst (z0a l))) x dx lT lS lP lA fs tl E ss as n sf (fun y=>if y=e then l else af y):=by
 have hm:=y02 ha
 have ne:∀{b:Addr},b ∉ as→b≠a:=fun {b} hb z=>hb (by rw [z]; exact hm)
 refine⟨by rw [z09 (ne A.inx)]; exact i.me,by rw [z09 (ne A.inT)]; exact i.te,z2b i.al fun b ys hb=>by rw [z09 (z61 hb (i.tt e a ha) (by intro z; cases z))]; exact hb,by rw [z09 (ne A.inS)]; exact i.st,by rw [z09 (ne A.inA)]; exact i.ta,by rw [z09 (ne A.inP)]; exact i.sp,fun y b hb=>?_⟩
 by_cases c:y=e
 ·subst c
  rw [ha] at hb
  cases hb
  rw [z01,if_pos rfl]
 ·have hne:b≠a:=fun z=>by
   subst z
   have h1:=(y00.mp hb).1
   have h2:=(y00.mp ha).1
   have h3:as[y]=as[e]:=by rw [(y00.mp hb).2,(y00.mp ha).2]
   rcases Nat.lt_or_gt_of_ne c with q | q
   ·exact y23.mp A.nd y e h1 h2 q h3
   ·exact y23.mp A.nd e y h2 h1 q h3.symm
  rw [z09 hne,if_neg c]
  exact i.tt y b hb
end
theorem zdy (l:List Int):(y0b l.length).map (fun e=>l.getD e 0)=l:=by
 apply y30
 intro i
 rw [y06]
 by_cases h:i<l.length
 ·rw [y1q h,z0x h]
  rfl
 ·rw [y0z (by simpa using h),y0z (by omega)]
  rfl
section
variable (K:y03)(C:Addr)
def zg2:Sp:=fun vs H Q _=>∃(x dx ag ak ai ase:Addr) (gs ts ss:List Int) (ties:List (Nat×Nat)),vs = [.ref x,.ref ag,.ref ak,.ref ai,.ref ase]∧H x=some (.ins C dx [])∧H ag=some (.lst (gs.map V.int))∧H ak=some (.lst (ts.map V.int))∧Is K H (.ref ai) (.list (ties.map pr))∧H ase=some (.lst (ss.map V.int)) ∧
 (∀p∈ties,p.1<gs.length∧p.2<ts.length)∧ss.length=ties.length∧gs.length+ts.length≤1000∧ties.length≤1000 ∧
 ∀(aS aP:Addr) H',Frz [x] H H'→H aS=none→H aP=none→PourAt K C H' x (z2f gs.length ts.length ties) aS aP ss ((y0b (gs.length+ts.length)).map (z9y (gs++ts) (z0n gs.length ties) ss ties.length)) []→Q .non H'
end
section
variable (K:y03)
def zo5 (H:Hp)(Q:VK)(gs ts:List Int)(ties:List (Nat×Nat))(R:List Int→List Int→Prop):Prop :=
 ∀(p q aS n1 n2:Addr) (sent spare steps:List Int) H',Same H H'→(H p=none∧H q=none∧H aS=none∧H n1=none∧H n2=none)→(aS≠n1∧aS≠n2∧n1≠n2)→H' p=some (.tup [.ref aS,.ref q])→H' q=some (.tup [.ref n1,.ref n2])→H' aS=some (.lst (sent.map V.int)) →
  H' n1=some (.lst (((z3i steps).take gs.length).map V.bl))→H' n2=some (.lst (((z3i steps).drop gs.length).map V.bl))→PM.Done (z2f gs.length ts.length ties) (gs++ts) sent spare steps→steps.length=gs.length+ts.length→R sent spare→Q (.ref p) H'
def zev:Sp:=fun vs H Q _=>∃(ag ak ai ase:Addr) (gs ts ss:List Int) (ties:List (Nat×Nat)),vs = [.ref ag,.ref ak,.ref ai,.ref ase]∧H ag=some (.lst (gs.map V.int))∧H ak=some (.lst (ts.map V.int))∧Is K H (.ref ai) (.list (ties.map pr))∧H ase=some (.lst (ss.map V.int)) ∧
 (∀p∈ties,p.1<gs.length∧p.2<ts.length)∧ss.length=ties.length∧gs.length+ts.length≤1000∧ties.length≤1000∧(∀(k:Nat) s,ss[k]?=some s→0≤s)∧(∀e<gs.length+ts.length,0≤z9y (gs++ts) (z0n gs.length ties) ss ties.length e) ∧
 zo5 H Q gs ts ties fun _ spare=>∀(e:Nat) x y,((y0b (gs.length+ts.length)).map (z9y (gs++ts) (z0n gs.length ties) ss ties.length))[e]?=some x→spare[e]?=some y→y≤x
def zkx:Sp:=fun vs H Q _=>∃(ag ak ai:Addr) (gs ts:List Int) (ties:List (Nat×Nat)),vs = [.ref ag,.ref ak,.ref ai]∧H ag=some (.lst (gs.map V.int))∧H ak=some (.lst (ts.map V.int))∧Is K H (.ref ai) (.list (ties.map pr)) ∧
 (∀p∈ties,p.1<gs.length∧p.2<ts.length)∧gs.length+ts.length≤1000∧ties.length≤1000∧(∀g∈gs++ts,0≤g)∧zo5 H Q gs ts ties fun _ _=>True
end
theorem zad:∀(ends:List (Nat×Nat)) (n e:Nat),PM.load ends (y05 n 0) e=0
 | [],n,e=>by cases n<;>rfl
 | p::r,0,e=>rfl
 | p::r,n+1,e=>by
  rw [y1p]
  simp only [PM.load,zad r n e]
  simp
theorem zoy {gs ts ss:List Int}{ties:List (Nat×Nat)}(hl:ss.length=ties.length)(hn:∀(k:Nat) s,ss[k]?=some s→0≤s)(hs:∀e<gs.length+ts.length,0≤z9y (gs++ts) (z0n gs.length ties) ss ties.length e) :
  PM.Flow (z2f gs.length ts.length ties) (gs++ts) ss ((y0b (gs.length+ts.length)).map (z9y (gs++ts) (z0n gs.length ties) ss ties.length)):=by
 have hel:(z0n gs.length ties).length=ties.length:=by unfold z0n; rw [y04]
 refine⟨by show ss.length=(ties.map _).length; rw [y04]; exact hl,by show _=gs.length+ts.length; simp,by show _=gs.length+ts.length; simp,hn,fun e c s hc h=>?_,fun e s h=>?_⟩
 ·have he:e<gs.length+ts.length:=by simpa using (y00.mp h).1
  rw [z5d _ he] at h
  cases h
  unfold z9y
  rw [y08 (by omega),y08 (by omega)]
  rw [show(gs++ts).getD e 0=c by simp only [y1k,hc,Option.getD_some]]
  rfl
 ·have he:e<gs.length+ts.length:=by simpa using (y00.mp h).1
  rw [z5d _ he] at h
  cases h
  exact hs e he
theorem zl4 {P:Program}{w:World}{K:y03}{mg:Str→Option Value}{base:Heap}{x:Str}{C:Addr}{k:Nat}{ps:List Str}{sp:Sp}(D:MDef P w K mg base C "__init__" k ps sp)(h1:y4d K C=true)(h2:y0i K (.ref C)=true)(h3:mg x=some (.ref C)):CDef P w K mg base x C k ps sp:=by
 obtain⟨f,fd,F,b,m⟩:=D.is
 exact⟨⟨f,fd,F,b,⟨h1,m.at_,m.fn,h2⟩⟩,h3⟩
end My
set_option Elab.async false
set_option linter.all false
set_option maxRecDepth 100000
namespace My
open PySem L2 L2.EX
end My
set_option Elab.async false
set_option linter.all false
set_option maxRecDepth 100000
namespace My
open PySem L2 L2.EX
theorem z4l {α:Type}{a b:List α}{i:Nat}{d:α}(h:i<a.length):(a++b).getD i d=a.getD i d:=by
 simp [y1k,y0q h]
theorem z42 {α:Type}{a b:List α}{i:Nat}{d:α}:(a++b).getD (a.length+i) d=b.getD i d:=by
 simp [y1k,y0w (y45 _ _)]
section
variable {gs ts sent spare steps:List Int}{ties:List (Nat×Nat)}
end
def p1 (gv:List Bool):List Bool→List (Nat×Nat)→List Bool
 | tk,p::ps=>p1 gv (if gv.getD p.1 false=true then tk.set p.2 true else tk) ps
 | tk,[]=>tk
def p2 (tk:List Bool):List Bool→List (Nat×Nat)→List Int→List Bool
 | gv,p::ps,s::ss=>p2 tk (if tk.getD p.2 false=true∧0<s then gv.set p.1 true else gv) ps ss
 | gv,_,_=>gv
def rnd (ties:List (Nat×Nat))(ss:List Int)(x:List Bool×List Bool):List Bool×List Bool:=(p2 (p1 x.1 x.2 ties) x.1 ties ss,p1 x.1 x.2 ties)
def its (ties:List (Nat×Nat))(ss:List Int):Nat→List Bool×List Bool→List Bool×List Bool
 | 0,x=>x
 | n+1,x=>rnd ties ss (its ties ss n x)
structure Mk (G T:Nat)(x:List Bool×List Bool):Prop where
 l1:x.1.length=G
 l2:x.2.length=T
section
variable {G T:Nat}{ties:List (Nat×Nat)}{ss:List Int}
end
theorem zcq {steps:List Int}{e:Nat}(h:e<steps.length):(z3i steps).getD e false=PM.nr steps e:=by
 unfold z3i PM.nr PM.Lv
 simp [y1k,y06,y01 h]
section
variable {gs ts sent spare steps:List Int}{ties:List (Nat×Nat)}
end
theorem zac {l:List Int}{i:Nat}{v:V}(h:(l.map V.int)[i]?=some v):∃n:Int,l[i]?=some n∧v = .int n:=by
 rw [y06] at h
 cases q:l[i]? with
 | none=>rw [q] at h; cases h
 | some n=>rw [q] at h; exact⟨n,rfl,(y12 h).symm⟩
theorem zmy {l:List Bool}{i:Nat}{v:V}(h:(l.map V.bl)[i]?=some v):∃n:Bool,l[i]?=some n∧v = .bl n:=by
 rw [y06] at h
 cases q:l[i]? with
 | none=>rw [q] at h; cases h
 | some n=>rw [q] at h; exact⟨n,rfl,(y12 h).symm⟩
theorem zhk {l:List Int}{i:Nat}(h:i<l.length):atI (l.map V.int) (i:Int)=some (.int (l.getD i 0)):=z2y (z0x h)
structure TellsP (H:Hp)(p q aS n1 n2:Addr)(G:Nat)(sent steps:List Int):Prop where
 h1:H p=some (.tup [.ref aS,.ref q])
 h2:H q=some (.tup [.ref n1,.ref n2])
 h3:H aS=some (.lst (sent.map V.int))
 h4:H n1=some (.lst (((z3i steps).take G).map V.bl))
 h5:H n2=some (.lst (((z3i steps).drop G).map V.bl))
structure AsksP (K:y03)(H:Hp)(ag ak ai:Addr)(gs ts:List Int)(ties:List (Nat×Nat)):Prop where
 g:H ag=some (.lst (gs.map V.int))
 t:H ak=some (.lst (ts.map V.int))
 i:Is K H (.ref ai) (.list (ties.map pr))
 ok:∀p∈ties,p.1<gs.length∧p.2<ts.length
 sm:gs.length+ts.length≤400
 sk:ties.length≤400
 nn:∀g∈gs++ts,0≤g
 bd:∀g∈gs++ts,Bd 1200 g
theorem zo4 {K:y03}{H:Hp}{a:Addr}{p:Nat×Nat}(h:H a=some (.tup [.int (p.1:Int),.int (p.2:Int)])):Is K H (.ref a) (pr p):=is_frac.mpr ⟨a,rfl,h⟩
def z8e (gs ts:List Int)(ties:List (Nat×Nat))(ss:List Int)(e:Nat):Int:=(gs++ts).getD e 0 - PM.load (z0n gs.length ties) ss e
structure Fits (gs ts:List Int)(ties:List (Nat×Nat))(ss:List Int):Prop where
 len:ss.length=ties.length
 nn:∀(k:Nat) s,ss[k]?=some s→0≤s
 rm:∀e<gs.length+ts.length,0≤z8e gs ts ties ss e
theorem za5 {gs ts ss:List Int}{ties:List (Nat×Nat)}(hl:ss.length=ties.length)(e:Nat):z9y (gs++ts) (z0n gs.length ties) ss ties.length e=z8e gs ts ties ss e:=by
 unfold z9y z8e
 rw [y08 (by unfold z0n; rw [y04]; exact y0a _),y08 (by omega)]
section
variable {gs ts ss sent spare steps sent' spare' steps':List Int}{ties:List (Nat×Nat)}
end
end My
set_option Elab.async false
set_option linter.all false
set_option maxRecDepth 100000
set_option Elab.async false
set_option linter.all false
set_option maxRecDepth 100000
namespace L2
open PySem PySem.Spec PyProof.Rows
end L2
namespace L2
open PySem PySem.Spec PyProof.Rows
section
variable (P:Program)(w:World)
end
section
variable {P:Program}{w:World}{H H':Hp}{h h':Heap}{a:Addr}{o:HO}
end
section
variable {P:Program}{w:World}{H:Hp}{h h':Heap}{x e:Addr}{o':HO}
end
section
variable {fs fs' ex ex':List Addr}{H H1 H2:Hp}{h h1 h2 h':Heap}{a x e:Addr}{o:HO}
end
end L2
namespace L2
open PySem PySem.Spec PyProof.Rows
section
variable {X:Cx}{pins:List (Addr×Obj)}{σ:List (Option V)}{H H':Hp}{s:Shared}{h':Heap}
end
end L2
namespace L2
open PySem PySem.Spec PyProof.Rows
section
variable {X:Cx}
variable {a b:Expr}{ta tb:TE}{pos:Pos}
variable {tA tB':TT}{rest:List Expr}
end
end L2
namespace L2
open PySem PySem.Spec PyProof.Rows
section
variable {X:Cx}{pins:List (Addr×Obj)}{σ:St}{H:Hp}{s:Shared}{a:Addr}{xs ys:List V}
end
section
variable {X:Cx}{pins:List (Addr×Obj)}{σ:St}{H:Hp}{s:Shared}{E:Value→Shared→Prop}
end
section
variable {X:Cx}{st:Stmt}{rest:List Stmt}{t u:TS}{e:Expr}{te:TE}{pos:Pos}
end
section
variable {X:Cx}{pos:Pos}
end
section
variable {X:Cx}{pos:Pos}
end
end L2
namespace L2
open PySem PySem.Spec PyProof.Rows
section
variable {X:Cx}{tg:Expr}
end
end L2
namespace L2
open PySem PySem.Spec PyProof.Rows
section
variable {X:Cx}{a b c:Expr}{ta tb tc:TE}{pos:Pos}
end
section
variable {X:Cx}{a b c:Expr}{ta tb tc:TE}{pos:Pos}
end
end L2
namespace L2
open PySem PySem.Spec PyProof.Rows
section
variable {prog:Program}{w:World}{A:Around}{E:Value→Shared→Prop}{s:Shared}{K:y03}{x dx C f:Addr}{mA:Str→Option Value}{name:Str}{v:Value}
end
section
variable {P:Program}{w:World}{H H':Hp}{h h':Heap}{a C dx:Addr}{fs fs':List (Str×V)}
end
section
variable {X:Cx}{pins:List (Addr×Obj)}{σ:St}{H:Hp}{s:Shared}{a C dx:Addr}{fs:List (Str×V)}{f:Str}{v:V}{A:Around}{E:Value→Shared→Prop}
end
section
variable {X:Cx}{o e value:Expr}{f:Str}{pos pos' tpos:Pos}{ta tv:TE}
end
section
variable {X:Cx}{pins:List (Addr×Obj)}{σ:St}{H:Hp}{s:Shared}{A:Around}{E:Value→Shared→Prop}{Q:Value→Shared→Prop}{c:Value}{b:Bool}
end
end L2
namespace L2
open PySem PySem.Spec PyProof.Rows
section
variable {X:Cx}{e:Expr}{es:List Expr}{te:TE}{t:TA}{pos:Pos}
end
section
variable {X:Cx}{pins:List (Addr×Obj)}{σ:St}{H:Hp}{s s':Shared}
end
section
variable {X:Cx}{CX:CXT}{k:Nat}{f C:Addr}{fd:FuncData}{ps:List Str}{sp:Sp}{dvs:List V}{ds:List Value}{E:XK}{x m:Str}{p pos apos:Pos}{e o:Expr}{es:List Expr}{ta:TE}{t:TA}
end
section
variable {X:Cx}{CX:CXT}{k:Nat}{f C:Addr}{fd:FuncData}{ps ks:List Str}{sp:Sp}{E:XK}{x m:Str}{p pos apos kpos:Pos}{e o:Expr}{es:List Expr}{kws:List Keyword}{te ta:TE}{t tk:TA}{nm:Option Str}
variable {g:List Value→List Value→List Value}{gV:List V→List V→List V}
end
end L2
namespace L2
open PySem PySem.Spec PyProof.Rows
section
variable {X:Cx}{x:Str}{p pos:Pos}{e:Expr}{es:List Expr}{t:TA}{id T:String}{r:List V→Hp→VK→Prop}
end
end L2
namespace L2
open PySem PySem.Spec PyProof.Rows
section
variable {κ:Type} [DecidableEq κ]
def zbb (kvs:List (κ×V))(k:κ):Option V:=(kvs.find? fun kv=>decide (kv.1=k)).map (·.2)
def zgl (kvs:List (κ×V))(k:κ)(v:V):List (κ×V) :=
 if (kvs.any fun kv=>decide (kv.1=k))=true then kvs.map (fun kv=>if kv.1=k then (kv.1,v) else kv) else kvs ++ [(k,v)]
theorem zco {p:κ×V}{r:List (κ×V)}{k:κ}(e:p.1=k):zbb (p::r) k=some p.2:=by simp [zbb,y2v,e]
theorem zcw {p:κ×V}{r:List (κ×V)}{k:κ}(e:¬p.1=k):zbb (p::r) k=zbb r k:=by simp [zbb,y2v,e]
theorem RelO.isSome_eq {o:Option V}{u:Option Value}(r:RelO o u):o.isSome=u.isSome:=by
 cases o with
 | none=>cases u with
  | none=>rfl
  | some _=>exact(show False from r).elim
 | some _=>cases u with
  | none=>exact(show False from r).elim
  | some _=>rfl
theorem KV.val {kvs:List (κ×V)}{vs:List (κ×Value)}(r:KV kvs vs)(k:κ):RelO (zbb kvs k) (valueAt vs k):=by
 unfold KV at r
 induction r with
 | nil=>exact True.intro
 | @cons p q ps qs h t ih =>
  obtain⟨h1,h2⟩:=h
  by_cases e:p.1=k
  ·have e':q.1=k:=h1.symm.trans e
   have b:valueAt (q::qs) k=some q.2:=by simp [valueAt,y2v,e']
   rw [zco e,b]; exact h2
  ·have e':¬q.1=k:=fun z=>e (h1.trans z)
   have b:valueAt (q::qs) k=valueAt qs k:=by simp [valueAt,y2v,e']
   rw [zcw e,b]; exact ih
theorem KV.any {kvs:List (κ×V)}{vs:List (κ×Value)}(r:KV kvs vs)(k:κ):(kvs.any fun kv=>decide (kv.1=k))=vs.any fun kv=>decide (kv.1=k):=by
 unfold KV at r
 induction r with
 | nil=>rfl
 | cons h t ih=>rw [y67,y67,ih,h.1]
theorem KV.repl {kvs:List (κ×V)}{vs:List (κ×Value)}(r:KV kvs vs)(k:κ){y:V}{u:Value}(ry:RelV y u) :
  KV (kvs.map fun kv=>if kv.1=k then (kv.1,y) else kv) (vs.map fun kv=>if kv.1=k then (kv.1,u) else kv):=by
 unfold KV at r ⊢
 induction r with
 | nil=>exact .nil
 | @cons p q ps qs h t ih =>
  rw [y0h,y0h]
  refine .cons ?_ ih
  obtain⟨h1,h2⟩:=h
  by_cases e:p.1=k
  ·rw [if_pos e,if_pos (h1.symm.trans e)]; exact⟨h1,ry⟩
  ·rw [if_neg e,if_neg (fun z=>e (h1.trans z))]; exact⟨h1,h2⟩
theorem KV.put {kvs:List (κ×V)}{vs:List (κ×Value)}(r:KV kvs vs)(k:κ){y:V}{u:Value}(ry:RelV y u):KV (zgl kvs k y) (stored vs k u):=by
 unfold zgl stored
 rw [r.any k]
 by_cases e:(vs.any fun kv=>decide (kv.1=k))=true
 ·rw [if_pos e,if_pos e]; exact r.repl k ry
 ·rw [if_neg e,if_neg e]; exact Paired.snoc r ⟨rfl,ry⟩
theorem KV.length {kvs:List (κ×V)}{vs:List (κ×Value)}(r:KV kvs vs):kvs.length=vs.length:=Paired.length r
end
theorem ziy {P:Program}{w:World}{k:Key}{u:Value}(r:RelV (kV k) u):(z34 P w).is k u=true:=by
 cases k with
 | inl i=>obtain⟨t,e⟩:=(show ∃t,u=Value.int i t from r); subst e; exact zbq P w i t
 | inr x=>obtain⟨t,e⟩:=(show ∃t,u=Value.str x t from r); subst e; exact zbt P w x t
theorem zao {P:Program}{w:World}:∀{ks:List Key} {us:List Value},Vals (ks.map kV) us→ItemsAre (z34 P w) ks us
 | [],_,r=>by rw [y3c] at r; cases r; exact .nil
 | k::ks,_,r=>by
  rw [y0h] at r
  cases r with
  | cons h t=>exact .cons (ziy h) (zao t)
abbrev KT (H:Hp):List (List Key×V)→List (List Key×Addr×Value)→Prop:=Paired fun p q=>p.1=q.1∧H q.2.1=some (.tup (p.1.map kV))∧RelV p.2 q.2.2
theorem KT.val {H:Hp}{kvs:List (List Key×V)}{xs:List (List Key×Addr×Value)}(r:KT H kvs xs)(k:List Key):RelO (zbb kvs k) ((atKey xs k).map (·.2)):=by
 induction r with
 | nil=>exact True.intro
 | @cons p q ps qs h t ih =>
  obtain⟨h1,_,h2⟩:=h
  by_cases e:p.1=k
  ·have e':q.1=k:=h1.symm.trans e
   have b:atKey (q::qs) k=some q.2:=by simp [atKey,y2v,e']
   rw [zco e,b]; exact h2
  ·have e':¬q.1=k:=fun z=>e (h1.trans z)
   have b:atKey (q::qs) k=atKey qs k:=by simp [atKey,y2v,e']
   rw [zcw e,b]; exact ih
section
variable {P:Program}{w:World}{H:Hp}{h:Heap}{a:Addr}
theorem zm9 {u:HO}(ok:HOk P w H h)(e:Rd H a u):ObjOk P w H h a u:=e.ok ok
theorem zkp {kvs:List (Key×V)}(ok:HOk P w H h)(e:Rd H a (.dK kvs)):kvs.length≤sizeLine∧(a==sysModules)=false∧∃vs,KV kvs vs∧h.DictOf (z34 P w) a vs :=
 show ObjOk P w H h a (.dK kvs) from zm9 ok e
theorem zh1 {ks:List Key}(ok:HOk P w H h)(e:H a=some (.tup (ks.map kV))):(tupleKind (z34 P w)).is h ks a:=by
 obtain⟨_,its,r,o,h1,h2,n,h3⟩:=(show ObjOk P w H h a (.tup (ks.map kV)) from ok a _ e)
 exact⟨o,its.toArray,n,h1,h2,h3,by simpa using zao r⟩
theorem zk7 {kvs:List (List Key×V)}(ok:HOk P w H h)(e:Rd H a (.dT kvs)):kvs.length≤sizeLine∧(a==sysModules)=false ∧
  ∃xs,KT H kvs xs∧h.DictOfH (tupleKind (z34 P w)) a xs:=by
 obtain⟨z,y,xs,r,o,es,ep,h1,h2,h3,h4,h5⟩:=(show ObjOk P w H h a (.dT kvs) from zm9 ok e)
 refine⟨z,y,xs,r,o,es,ep,h1,h2,h3,h4,fun x hx=>?_,h5⟩
 have all:∀{l:List (List Key×V)} {m:List (List Key×Addr×Value)},KT H l m→∀x∈m,(tupleKind (z34 P w)).is h x.1 x.2.1:=by
  intro l m q
  induction q with
  | nil=>intro x hx; exact nomatch hx
  | @cons p q ps qs hq t ih =>
   intro x hx
   rcases y0m.mp hx with e | hx
   ·subst e
    exact zh1 ok (by rw [←hq.1]; exact hq.2.1)
   ·exact ih x hx
 exact all r x hx
end
def DGet (H:Hp)(a:Addr)(y:V)(r:Option V):Prop :=
 (∃kvs k,Rd H a (.dK kvs)∧y=kV k∧r=zbb kvs k)∨∃kvs k b,Rd H a (.dT kvs)∧y = .ref b∧H b=some (.tup (k.map kV))∧r=zbb kvs k
theorem DGet.k {H:Hp}{a:Addr}{kvs:List (Key×V)}{k:Key}(e:H a=some (.dK kvs)):DGet H a (kV k) (zbb kvs k):=.inl ⟨kvs,k,.inl e,rfl,rfl⟩
section
variable {X:Cx}{pins:List (Addr×Obj)}{σ:St}{H:Hp}{s:Shared}{a:Addr}{y v:V}{u r:Value}{o:Option V}{A:Around}{E:Value→Shared→Prop}
theorem Inv.big (I:Inv X pins σ H s):sysModules<s.heap.objs.size:=by
 have h:mainGlobals<s.heap.objs.size:=(I.mod.glob.keeps I.bk).lt
 exact y5n (by decide) h
theorem zfg {Q:Value→Shared→Prop}(hu:A.units+1<cLine)(I:Inv X pins σ H s)(g:DGet H a y (some v))(ry:RelV y u)(h:∀w' s',Inv X pins σ H s'→RelV v w'→Q w' s') :
  wpAny (model X.prog X.w) A (getItem (.ref a) u) Q E s:=by
 rcases g with ⟨kvs,k,e,ey,l⟩ | ⟨kvs,k,b,e,ey,eb,l⟩
 ·subst ey
  obtain⟨z,hd,vs,rel,dd⟩:=zkp I.hok e
  obtain⟨w',hw,rw'⟩:=RelO.some_of (v:=v) (o:=valueAt vs k) (by rw [l]; exact rel.val k)
  exact wpAny_getItem_of (ziy ry) dd.mapOf hw (h w' _ (I.tok _) rw')
 ·subst ey
  cases (show u=Value.ref b from ry)
  obtain⟨z,hd,xs,rel,dd⟩:=zk7 I.hok e
  obtain⟨w',hw,rw'⟩:=RelO.some_of (v:=v) (o:=(atKey xs k).map (·.2)) (by rw [l]; exact rel.val k)
  obtain⟨p,hp,hp2⟩:=y5c.mp hw
  refine wpAny_getItem_heap (tupleKind_room_in1 hu) (zh1 I.hok eb) dd hp ?_
  rw [hp2]
  exact h w' _ (I.tok _) rw'
theorem zp9 {Q:Value→Shared→Prop}(hu:A.units+1<cLine)(I:Inv X pins σ H s)(g:DGet H a y o)(ry:RelV y u)(h:∀s',Inv X pins σ H s'→Q (.bool o.isSome) s') :
  wpAny (model X.prog X.w) A (compareOp .In u (.ref a)) Q E s:=by
 rcases g with ⟨kvs,k,e,ey,l⟩ | ⟨kvs,k,b,e,ey,eb,l⟩
 ·subst ey
  obtain⟨z,hd,vs,rel,dd⟩:=zkp I.hok e
  refine wpAny_in_of (ziy ry) hd dd.mapOf ?_
  rw [←(rel.val k).isSome_eq,←l]
  exact h _ (I.tok _)
 ·subst ey
  cases (show u=Value.ref b from ry)
  obtain⟨z,hd,xs,rel,dd⟩:=zk7 I.hok e
  refine wpAny_in_heap (tupleKind_room_in1 hu) (zh1 I.hok eb) hd dd ?_
  have q:=(rel.val k).isSome_eq
  rw [Option.isSome_map] at q
  rw [←q,←l]
  exact h _ (I.tok _)
end
section
variable {X:Cx}{pins:List (Addr×Obj)}{σ:St}{H:Hp}{s:Shared}{a:Addr}{kvs:List (Key×V)}{k:Key}{u:Value}{A:Around}{E:Value→Shared→Prop}
end
def zo2 (i:Expr):Prop:=∀ov iv,subscripted i false ov iv=operate [ov,iv] (getItem ov iv)
theorem zkr {prog:Program}{w:World}{A:Around}{E:Value→Shared→Prop}{s:Shared}{env:Env}{value slice:Expr}{pos:Pos}{T id:String}{Q:Value→Shared→Prop}
  (hl:typeLookup (.type T) "__getitem__"=pure (some (.builtin id))) (hs:zo2 slice)
  (h:wpAny (model prog w) A (eval value env) (fun o s₁=>wpAny (model prog w) A (eval slice env) (fun i s₂=>s₂.TypeIs o T∧wpAny (model prog w) A (getItem o i) Q E s₂) E s₁) E s) :
  wpAny (model prog w) A (eval (.Subscript value slice pos) env) Q E s:=by
 refine Subscript_ (wpAny_mono h (fun o s₁ h₁=>wpAny_mono h₁ (fun i s₂ h₂=>?_) fun _ _ x=>x) fun _ _ x=>x)
 obtain⟨hT,h₂⟩:=h₂
 unfold subscriptTail
 refine wpAny_bind ?_
 rw [getitemInPython_of_ne hT.not_modules]
 refine wpAny_bind (wpAny_specialOf hT hl ?_)
 have fin:wpAny (model prog w) A (subscripted slice false o i) (fun r s₃=>wpAny (model prog w) A (letTemporaryGo value o r >>= fun _=>pure r) Q E s₃) E s₂:=by
  rw [hs o i]
  exact wpAny_operating (wpAny_mono h₂ (fun r s₃ h₃=>wpAny_bind (wpAny_letTemporaryGo (wpAny_pure h₃))) fun _ _ x=>x)
 first
  | exact wpAny_pure (wpAny_bind fin)
  | exact wpAny_bind (wpAny_pure (wpAny_bind fin))
  | exact wpAny_bind fin
theorem zbo {X:Cx}{pins:List (Addr×Obj)}{σ:St}{H:Hp}{s:Shared}{a:Addr}{y:V}{o:Option V}(I:Inv X pins σ H s)(g:DGet H a y o):s.TypeIs (.ref a) "dict":=by
 rcases g with ⟨kvs,k,e,_,_⟩ | ⟨kvs,k,b,e,_,_,_⟩
 ·obtain⟨_,_,vs,_,dd⟩:=zkp I.hok e
  exact dd.typeIs
 ·obtain⟨_,_,xs,_,dd⟩:=zk7 I.hok e
  exact dd.typeIs
def zo8 (td ty:TE):TE:=fun σ H Q=>td σ H fun x H1=>ty σ H1 fun y H2=>∃a v,x = .ref a∧DGet H2 a y (some v)∧Q v H2
section
variable {X:Cx}{o i e value:Expr}{pos pos' tpos:Pos}{td ty tv:TE}
theorem zll (hu:X.A.units+1<cLine)(ho:PE X o td)(hi:PE X i ty)(hs:zo2 i):PE X (.Subscript o i pos) (zo8 td ty):=by
 intro pins s σ H Q I h
 refine zkr PySem.F.slot_dict_getitem.lookup hs (thn (ho pins s σ H _ I h) fun u s1 ⟨x,H1,I1,rx,q1⟩=>thn (hi pins s1 σ H1 _ I1 q1) fun iv s2 ⟨y,H2,I2,ry,a,v,ex,g,q2⟩=>?_)
 subst ex
 obtain rfl:u=Value.ref a:=rx
 exact⟨zbo I2 g,zfg hu I2 g ry fun w' s3 I3 rw'=>⟨v,H2,I3,rw',q2⟩⟩
end
section
variable {X:Cx}{pos:Pos}
end
structure M1 (X:Cx)(o:Expr)(m:Str)(apos:Pos)(e:Expr)(cpos:Pos):Prop where
 base:attributeBase o m X.env (eval o X.env)=eval o X.env
 few:((backTo cpos (starEach [e] X.env)).all (fun x=>!x.1)&&(backToKw cpos (keywordEach [] X.env)).all (fun x=>x.1.isSome)
 &&decide (([e]:List Expr).length+([]:List Keyword).length+(if ([]:List Keyword).isEmpty then 0 else 1)<30))=true
 line:(apos.endLine==cpos.line)=true
 trees:backTo cpos (starEach [e] X.env) = [(false,eval e X.env)]
structure M2 (X:Cx)(o:Expr)(m:Str)(apos:Pos)(e f:Expr)(cpos:Pos):Prop where
 base:attributeBase o m X.env (eval o X.env)=eval o X.env
 few:((backTo cpos (starEach [e,f] X.env)).all (fun x=>!x.1)&&(backToKw cpos (keywordEach [] X.env)).all (fun x=>x.1.isSome)
 &&decide (([e,f]:List Expr).length+([]:List Keyword).length+(if ([]:List Keyword).isEmpty then 0 else 1)<30))=true
 line:(apos.endLine==cpos.line)=true
 trees:backTo cpos (starEach [e,f] X.env) = [(false,eval e X.env),(false,eval f X.env)]
section
variable {X:Cx}{pins:List (Addr×Obj)}{σ:St}{H:Hp}{s:Shared}{a:Addr}{y d:V}{u r:Value}{o:Option V}{A:Around}{E:Value→Shared→Prop}
end
section
variable {X:Cx}{o e f:Expr}{apos cpos:Pos}{td ty tx:TE}
end
section
variable {X:Cx}{pins:List (Addr×Obj)}{σ:St}{H:Hp}{s:Shared}{a:Addr}{kvs:List (Key×V)}{A:Around}{E:Value→Shared→Prop}
end
section
variable {X:Cx}{pins:List (Addr×Obj)}{σ:St}{H:Hp}{s:Shared}{a:Addr}{y:V}{u:Value}{A:Around}{E:Value→Shared→Prop}
end
end L2
namespace Att
open PySem PySem.W PySem.Calls PyProof.Rows
section
variable {prog:Program}{w:World}{A:Around}{E:Value→Shared→Prop}{s:Shared}{K:Frag}
end
end Att
namespace L2
open PySem PySem.Spec PyProof.Rows
end L2
namespace L2
open PySem PySem.Spec PyProof.Rows
end L2
namespace L2
open PySem PySem.Spec PyProof.Rows
section
variable {P:Program}{w:World}{K:y03}{mg:Str→Option Value}{base:Heap}
end
section
variable {X:Cx}
end
section
variable {κ:Type} [DecidableEq κ]
end
end L2
set_option Elab.async false
set_option linter.all false
set_option maxRecDepth 100000
namespace PySem
theorem z6h:typeLookup (.type "list") "keys"=pure none:=by rw [typeLookup_type,builtinLookup_eq_fast]; kernel_rfl
theorem z9u:entryFor table "dict.update.loop"=some Builtin.«dict.update.loop»:=entryFor_of_tree (by kernel_rfl)
theorem z5t:plainId "dict.update.loop"=true:=by decide +kernel
section
variable {prog:Program}{w:World}{A:Around}{E:Value→Shared→Prop}{s:Shared}
theorem getAttr?_keys_list {a:Addr}{xs:Array Value}{k:Nat}{Q:Option Value→Shared→Prop}(hx:s.heap.get? a=some { cls:=.type "list",data:=.seq xs k })(hA:A.handled=none)
  (h:∀h' tk,(∀b ob,s.heap.get? b=some ob→h'.get? b=some ob)→Q none { s with heap:=h',toks:=tk }) :
  wpAny (model prog w) A (getAttr? (.ref a) "keys") Q E s:=by
 obtain⟨hp,g,d,tk,os⟩:=s
 have hT:∀tk',(⟨hp,g,d,tk',os⟩:Shared).TypeIs (.ref a) "list":=fun _=>⟨_,hx,rfl⟩
 have f1:=sub_AttributeError
 have f3:=F.slot_list_getattribute.lookup
 have f4:=F.slot_list_getattribute.bind (.ref a)
 have f5:=am_list_getattr_none
 unfold getAttr? getAttrBy? getAttrBy
 repeat (any_goals (first | assumption | exact hT _ | ((with_reducible show wpAny _ _ (call (Value.builtin "list.__getattribute__") _ _) _ _ _); refine call_meets F.slot_list_getattribute (hT _) am_entry_list_getattribute (F.args_list_getattribute_2 _ _) (meets_getattribute_miss_list a xs k _ "keys" _ z6h (by decide +kernel) (by decide +kernel)) ⟨hx,hA,fun h' tk' e hx'=>?_⟩) | wp_step))
 obtain⟨t',u',he⟩:=hx'.there
 show wpAny _ _ (getattributeRaised _ _ _ _ _ _ _) _ _ _
 unfold getattributeRaised
 repeat (any_goals (first | assumption | wp_step))
 exact h h' tk' hx'.keeps
end
section
variable {prog:Program}{w:World}{K:Type} [DecidableEq K] {knd:KeyKind prog w K}
def z9b (knd:KeyKind prog w K)(h:Heap)(items:Array Value)(ps:List (K×Value)):Prop :=
 items.size=ps.length∧∀(j:Nat) p,ps[j]?=some p→∃t key,items[j]?=some (.ref t)∧h.IsTuple t #[key,p.2]∧knd.is p.1 key=true
def z8r (kvs:List (K×Value))(ps:List (K×Value)):List (K×Value):=ps.foldl (fun acc p=>stored acc p.1 p.2) kvs
theorem ze3 (kvs:List (K×Value))(k:K)(v:Value):(stored kvs k v).length≤kvs.length+1:=by
 unfold stored
 split<;>simp
theorem zhb (d it l:Addr)(items:Array Value)(ps:List (K×Value))(hdi:d≠it)(hdl:d≠l)(hil:it≠l)(n:Nat) :
  ∀(i:Nat) (kvs:List (K×Value)),items.size - i=n→i≤items.size→kvs.length+items.size≤sizeLine+i→∀(A:Around) (R:Result→Shared→Prop) (s:Shared),A.handled=none→s.heap.IsListIter it l i→s.heap.IsList l items→s.heap.DictOf knd d kvs→z9b knd s.heap items ps →
   (∀(j:Nat) t,items[j]?=some (.ref t)→t≠d∧t≠it) →
   (∀h' tk,h'.DictOf knd d (z8r kvs (ps.drop i))→(∀b o,b≠d→b≠it→s.heap.get? b=some o→h'.get? b=some o)→R (.ok (.ret .none)) { s with heap:=h',toks:=tk }) →
   wpAny (model prog w) A.in1 (Builtin.«dict.update.loop» ⟨[.ref d,.ref it,rawInt i,.none],[]⟩)
    (fun fin s'=>match fin with
     | .done f=>R (.ok f) s'
     | .again c'=>c'.quiet=true∧codeAny (model prog w) A c' R s') (fun e s'=>R (.error e) s') s:=by
 induction n with
 | zero =>
  intro i kvs hn hi hz A R s hA hit hl hd hp ht hq
  unfold Builtin.«dict.update.loop»
  have e:i=items.size:=by omega
  subst e
  refine wpAny_bind (wpAny_pyNext_list_end (show A.in1.handled=none from hA) hit hl (by simp) fun h' eb=>?_)
  refine wpAny_bind (m:=Builtin.Dict.addKeywords d []) (wpAny_of_eq (a:=()) (by first | rfl | (unfold Builtin.Dict.addKeywords; rfl)) ?_)
  refine wpAny_pure ?_
  have e1:ps.drop items.size = []:=y3s (by rw [hp.1]; exact y0a _)
  rw [e1] at hq
  have hd':h'.DictOf knd d kvs:=by
   obtain⟨o,es,ep,ho,r⟩:=hd
   exact⟨o,es,ep,eb d o hdi ho,r⟩
  exact hq h' s.toks hd' fun b o _ hb ho=>eb b o hb ho
 | succ n ih =>
  intro i kvs hn hi hz A R s hA hit hl hd hp ht hq
  unfold Builtin.«dict.update.loop»
  have hlt:i<items.size:=by omega
  have hpi:ps[i]?=some (ps[i]'(by rw [←hp.1]; exact hlt)):=y01 _
  generalize ps[i]'(by rw [←hp.1]; exact hlt)=p at hpi
  obtain⟨t,key,h1,h2,h3⟩:=hp.2 i p hpi
  refine wpAny_bind (wpAny_pyNext_list_item hit hl h1 fun h' hit' sb=>?_)
  have tne:=ht i t h1
  have keep:∀b o,b≠it→s.heap.get? b=some o→h'.get? b=some o:=fun b o hb ho=>(sb.2 b hb).trans ho
  obtain⟨ot,hot,hct,nt,hdt⟩:=h2
  have hot':h'.get? t=some ot:=keep t ot tne.2 hot
  refine wpAny_bind (wpAny_holding ?_)
  refine wpAny_bind (wpAny_tryCatch ?_)
  unfold Builtin.Dict.pairItems
  refine wpAny_bind (wpAny_typeOf (T:="tuple") ⟨_,hot',hct⟩ ?_)
  rw [if_pos (by decide)]
  refine wpAny_bind (wpAny_seqItems hot' hdt ?_)
  refine wpAny_pure ?_
  show wpAny _ _ (holding [key,p.2] (dictSet d key p.2)) _ _ _
  have hd1:h'.DictOf knd d kvs:=by
   obtain⟨o,es,ep,ho,r⟩:=hd
   exact⟨o,es,ep,keep d o hdi ho,r⟩
  refine wpAny_holding (wpAny_dictSet_pairs h3 hd1 (fun h2 hd2 sb2=>?_) (by omega))
  have keep2:∀b o,b≠d→b≠it→s.heap.get? b=some o→h2.get? b=some o:=fun b o hb hb2 ho=>(sb2.2 b hb).trans (keep b o hb2 ho)
  have hit2:h2.IsListIter it l (i+1):=hit'.at fun o ho=>(sb2.2 it (Ne.symm hdi)).trans ho
  have hl2:h2.IsList l items:=hl.at fun o ho=>keep2 l o (Ne.symm hdl) (Ne.symm hil) ho
  have hp2:z9b knd h2 items ps:=⟨hp.1,fun j q hj=>by
   obtain⟨t',k',g1,g2,g3⟩:=hp.2 j q hj
   have:=ht j t' g1
   exact⟨t',k',g1,g2.at fun o ho=>keep2 t' o this.1 this.2 ho,g3⟩⟩
  have hlen:=ze3 kvs p.1 p.2
  refine wpAny_pure ⟨plainId_quiet z5t _,codeAny_builtin z9u ?_⟩
  rw [Around.under_plainId z5t _]
  have hc:((i:Int)+1)=((i+1:Nat):Int):=by push_cast; rfl
  rw [hc]
  refine ih (i+1) (stored kvs p.1 p.2) (by omega) (by omega) (by omega) A R _ hA hit2 hl2 hd2 hp2 ht fun h3 tk hd3 k3=>?_
  ·have e:z8r kvs (ps.drop i)=z8r (stored kvs p.1 p.2) (ps.drop (i+1)):=by
    obtain⟨g1,g2⟩:=y00.mp hpi
    rw [List.drop_eq_getElem_cons g1,g2]
    rfl
   rw [e] at hq
   exact hq h3 tk hd3 fun b o hb hb2 ho=>k3 b o hb hb2 (keep2 b o hb hb2 ho)
theorem z7s {A:Around}{E:Value→Shared→Prop}{s:Shared}{l:Addr}{items:Array Value}{n:Nat}{ps:List (K×Value)}{Q:Value→Shared→Prop}(hA:A.handled=none)(hl:s.heap.get? l=some { cls:=.type "list",data:=.seq items n })(hp:z9b knd s.heap items ps)(hz:items.size≤sizeLine)
  (h:∀h' tk,h'.DictOf knd s.heap.objs.size (z8r [] ps)→(∀b o,s.heap.get? b=some o→h'.get? b=some o)→Q (.ref s.heap.objs.size) { s with heap:=h',toks:=tk }) :
  wpAny (model prog w) A (call (.type "dict") [.ref l]) Q E s:=by
 refine callType_codes (Q₁:=fun obj s₁=>obj = .ref s.heap.objs.size∧s₁ = { s with heap:=s.heap.push { cls:=.type "dict",data:=.dict #[] } }) F.kt_called_dict (F.kt_typeCall_dict_1 _) F.entry_dict_init (kt_code_dict_new _ ⟨rfl,rfl⟩) ?_
 rintro obj s₁ ⟨rfl,rfl⟩
 have hnew:(s.heap.push { cls:=.type "dict",data:=.dict #[] }).DictOf knd s.heap.objs.size []:=Heap.DictOf.new s.heap
 refine⟨hnew.typeIs,F.args_dict_init_2 _ _,?_⟩
 unfold Builtin.«dict.__init__»
 refine wpAny_bind ?_
 unfold Builtin.Dict.selfAndRest
 refine wpAny_bind (wpAny_notOrdered_dict hnew.typeIs ?_)
 show wpAny _ _ (pure (s.heap.objs.size,[Value.ref l])) _ _ _
 refine wpAny_pure ?_
 show wpAny _ _ (Builtin.Dict.updateFrom "dict.__init__" s.heap.objs.size (.ref l) [] .none) _ _ _
 unfold Builtin.Dict.updateFrom
 have hl1:(s.heap.push { cls:=.type "dict",data:=.dict #[] }).get? l=some { cls:=.type "list",data:=.seq items n }:=Heap.get?_push_of_some _ hl
 refine wpAny_bind (wpAny_typeOf (T:="list") ⟨_,hl1,rfl⟩ ?_)
 rw [if_pos (by decide)]
 refine wpAny_bind (getAttr?_keys_list hl1 (by first | exact hA | (show _=none; exact hA)) fun h2 tk2 k2=>?_)
 rw [if_pos (show(none:Option Value).isNone=true from rfl)]
 refine wpAny_bind (wpAny_rule ?_)
 have hl2:h2.get? l=some { cls:=.type "list",data:=.seq items n }:=k2 _ _ hl1
 have isl2:h2.IsList l items:=⟨_,hl2,rfl,n,rfl⟩
 refine wpAny_bind (wpAny_pyIter_list isl2 ?_)
 refine wpAny_pure ⟨plainId_quiet z5t _,codeAny_builtin z9u ?_⟩
 rw [Around.under_plainId z5t _]
 have hsz:s.heap.objs.size<h2.objs.size:=by
  obtain⟨o,es,ep,ho,r⟩:=hnew
  exact Heap.lt_size (k2 _ _ ho)
 have hd2:(h2.push { cls:=.type "list_iterator",data:=.fields #[.ref l,.int 0 0] }).DictOf knd s.heap.objs.size []:=by
  obtain⟨o,es,ep,ho,r⟩:=hnew
  exact⟨o,es,ep,Heap.get?_push_of_some _ (k2 _ _ ho),r⟩
 have old:∀b o,s.heap.get? b=some o→(h2.push { cls:=.type "list_iterator",data:=.fields #[.ref l,.int 0 0] }).get? b=some o:=fun b o ho=>Heap.get?_push_of_some _ (k2 _ _ (Heap.get?_push_of_some _ ho))
 have low:∀b o,s.heap.get? b=some o→b<s.heap.objs.size:=fun b o ho=>Heap.lt_size ho
 have llt:=low _ _ hl
 refine zhb s.heap.objs.size h2.objs.size l items ps (y10 hsz) (y3a llt) (y3a (y5n llt hsz)) _ 0 [] rfl (y2g _) (by simpa using hz) A.in1 _ _ hA ⟨_,Heap.get?_push_size _ rfl,rfl,rfl⟩ (isl2.at fun o ho=>Heap.get?_push_of_some _ ho) hd2 ⟨hp.1,fun j p hj=>?_⟩ (fun j t hj=>?_) fun h3 tk hd3 k3=>?_
 ·obtain⟨t,key,g1,g2,g3⟩:=hp.2 j p hj
  exact⟨t,key,g1,g2.at fun o ho=>old t o ho,g3⟩
 ·have hjs:j<items.size:=(Array.getElem?_eq_some_iff.mp hj).1
  obtain⟨t',key,g1,g2,g3⟩:=hp.2 j _ (y01 (show j<ps.length by rw [←hp.1]; exact hjs))
  rw [hj] at g1
  cases g1
  obtain⟨o,ho,_⟩:=g2
  have:=low _ _ ho
  exact⟨y10 this,y10 (y5n this hsz)⟩
 ·refine⟨rfl,h h3 tk hd3 fun b o ho=>k3 b o (y10 (low _ _ ho)) (y10 (y5n (low _ _ ho) hsz)) (old b o ho)⟩
end
end PySem
set_option Elab.async false
set_option linter.all false
set_option maxRecDepth 100000
namespace L2.EX
open PySem PySem.Spec PyProof.Rows
section
variable {X:Cx}{pins:List (Addr×Obj)}{σ:St}{H:Hp}{s:Shared}
def z3e (kvs:List (Key×V))(ps:List (Key×V)):List (Key×V):=ps.foldl (fun acc p=>zgl acc p.1 p.2) kvs
theorem z79:∀{ps:List (Key×V)} {qs:List (Key×Value)} {kvs:List (Key×V)} {vs:List (Key×Value)},KV ps qs→KV kvs vs→KV (z3e kvs ps) (z8r vs qs)
 | [],qs,kvs,vs,h,r=>by
  cases h
  exact r
 | p::ps,qs,kvs,vs,h,r=>by
  cases h with
  | cons h1 h2 =>
   rename_i q qs
   show KV (z3e (zgl kvs p.1 p.2) ps) (z8r (stored vs q.1 q.2) qs)
   rw [←h1.1]
   exact z79 h2 (r.put p.1 h1.2)
theorem zhc (kvs:List (Key×V))(k:Key)(v:V):(zgl kvs k v).length≤kvs.length+1:=by
 unfold zgl
 split<;>simp
theorem z75:∀(ps kvs:List (Key×V)),(z3e kvs ps).length≤kvs.length+ps.length
 | [],kvs=>by simp [z3e]
 | p::ps,kvs=>by
  have a:=z75 ps (zgl kvs p.1 p.2)
  have b:=zhc kvs p.1 p.2
  show(z3e (zgl kvs p.1 p.2) ps).length≤_
  simp
  omega
theorem zd8 (I:Inv X pins σ H s):∀{ps:List (Key×V)} {ts:List Addr},ts.length=ps.length→(∀(j:Nat) t p,ts[j]?=some t→ps[j]?=some p→H t=some (.tup [kV p.1,p.2])) →
  ∃qs:List (Key×Value),KV ps qs∧∀(j:Nat) q,qs[j]?=some q→∃t key,ts[j]?=some t∧s.heap.IsTuple t #[key,q.2]∧zbh q.1 key=true
 | [],ts,_,_=>⟨[],.nil,fun j q hj=>by simp at hj⟩
 | p::ps,[],h,_=>by simp at h
 | p::ps,t::ts,hl,h=>by
  obtain⟨qs,r,f⟩:=zd8 I (ps:=ps) (ts:=ts) (by simpa using hl) fun j t' p' h1 h2=>h (j+1) t' p' (by simpa using h1) (by simpa using h2)
  have h0:=h 0 t p rfl rfl
  obtain⟨its,rv,pt,_⟩:=I.tuple (SqT.of h0)
  obtain⟨u1,u2,rfl,r1,r2⟩:=rv.two
  refine⟨(p.1,u2)::qs,.cons ⟨rfl,r2⟩ r,fun j q hj=>?_⟩
  cases j with
  | zero =>
   simp at hj
   subst hj
   exact⟨t,u1,rfl,pt,ziy (P:=X.prog) (w:=X.w) r1⟩
  | succ j =>
   obtain⟨t',key,g1,g2,g3⟩:=f j q (by simpa using hj)
   exact⟨t',key,by simpa using g1,g2,g3⟩
@[reducible] def znb (xs:List V)(H:Hp)(Q:VK):Prop:=match xs with
 | [.ref l]=>∃(ts:List Addr) (ps:List (Key×V)),H l=some (.lst (ts.map V.ref))∧ts.length=ps.length∧(∀(j:Nat) t p,ts[j]?=some t→ps[j]?=some p→H t=some (.tup [kV p.1,p.2]))∧∀d,H d=none→Q (.ref d) (upd H d (.dK (z3e [] ps)))
 | _=>False
theorem zkd (hc:X.calm=true:=by rfl):z44 X (.type "dict") znb:=by
 intro pins s σ H xs us Q I r h
 unfold znb at h
 split at h
 ·rename_i l
  obtain⟨ts,ps,hl,hlen,ht,q⟩:=h
  obtain⟨u,rfl,rx⟩:=z7a r
  cases rx
  obtain⟨z,its,n,rv,hll,e⟩:=I.lstM hl
  obtain⟨qs,rk,f⟩:=zd8 I hlen ht
  have hkl:=rk.length
  rw [y04] at hll z
  have hp:z9b (z34 X.prog X.w) s.heap its.toArray qs:=⟨by rw [y0l]; omega,fun j p hj=>by
   obtain⟨t,key,g1,g2,g3⟩:=f j p hj
   obtain⟨u,hu,ru⟩:=rv.get (i:=j) (x:=.ref t) (by rw [y06,g1]; rfl)
   cases ru
   exact⟨t,key,by simpa using hu,g2,g3⟩⟩
  refine z7s (knd:=z34 X.prog X.w) (I.ok.hd hc) e hp (by rw [y0l]; omega) fun h' tk hd kp=>?_
  have hlen2:=z75 ps []
  simp at hlen2
  refine⟨.ref s.heap.objs.size,_,I.laid kp (y0a _) (show ObjOk X.prog X.w _ h' _ (.dK (z3e [] ps)) from ⟨by omega,?_,_,z79 rk .nil,hd⟩),rfl,q _ (I.hok.fresh (y0a _))⟩
  exact beq_eq_false_iff_ne.mpr (y3a I.big)
 ·exact h.elim
@[reducible] def zp4 (x y:V)(H:Hp)(Q:VK):Prop:=match x,y with
 | .int n,.ref d=>∃kvs,H d=some (.dK kvs)∧Q (.bl (zbb kvs (.inl n)).isSome) H
 | .str n,.ref d=>∃kvs,H d=some (.dK kvs)∧Q (.bl (zbb kvs (.inr n)).isSome) H
 | _,_=>False
theorem hu1 {k:Nat}{A:Around}(hr:Room k A):A.units+1<cLine:=by have:=zof hr; omega
theorem zmn {k:Nat}(hr:Room k X.A):OpR X (compareOp .In) zp4:=by
 intro pins s σ H x y v u Q I rx ry h
 unfold zp4 at h
 split at h
 ·rename_i n d
  obtain⟨kvs,hd,q⟩:=h
  cases ry
  exact zp9 (hu1 hr) I (DGet.k (k:=.inl n) hd) rx fun s3 I3=>⟨.bl _,H,I3,rfl,q⟩
 ·rename_i n d
  obtain⟨kvs,hd,q⟩:=h
  cases ry
  exact zp9 (hu1 hr) I (DGet.k (k:=.inr n) hd) rx fun s3 I3=>⟨.bl _,H,I3,rfl,q⟩
 ·exact h.elim
@[reducible] def zmi (x y:V)(H:Hp)(Q:VK):Prop:=match x,y with
 | .ref d,.int n=>∃kvs v,H d=some (.dK kvs)∧zbb kvs (.inl n)=some v∧Q v H
 | .ref d,.str n=>∃kvs v,H d=some (.dK kvs)∧zbb kvs (.inr n)=some v∧Q v H
 | _,_=>False
theorem zlh {k:Nat}(hr:Room k X.A){o i:Expr}{td ty:TE}{pos:Pos}(ho:PE X o td)(hi:PE X i ty)(hs:zo2 i):PE X (.Subscript o i pos) (tOp zmi td ty) :=
 z4m (zll (hu1 hr) (z1k ho) (z1k hi) hs) fun σ H Q h=>⟨_,h,fun x H1 q1=>⟨_,q1,fun y H2 q2=>by
  unfold zmi at q2
  split at q2
  ·obtain⟨kvs,v,h1,h2,h3⟩:=q2
   exact⟨_,v,rfl,by rw [←h2]; exact DGet.k (k:=.inl _) h1,h3⟩
  ·obtain⟨kvs,v,h1,h2,h3⟩:=q2
   exact⟨_,v,rfl,by rw [←h2]; exact DGet.k (k:=.inr _) h1,h3⟩
  ·exact q2.elim⟩⟩
end
end L2.EX
set_option Elab.async false
set_option linter.all false
set_option maxRecDepth 100000
namespace L2.EX
open PySem PySem.Spec PyProof.Rows
section
variable {X:Cx}{e:Expr}{te:TE}{p p2 pos pos2:Pos}
def zc2 (te:TE)(σ:St)(H:Hp)(Q:VK):Prop:=te σ H fun x H1=>match x with
 | .int j=>(0≤j∧j≤1000)∧∀l,H1 l=none→Q (.ref l) (upd H1 l (.lst ((y0b j.toNat).map fun (i:Nat)=>V.int (i:Int))))
 | _=>False
theorem zbr {j:Int}(h0:0≤j)(h1:j≤1000):Builtin.Range.small 0 j 1=true:=zj1 (by decide) (by decide) (by omega) (by omega) (by decide) (by decide)
theorem zc5 {j:Int}(h0:0≤j):Builtin.Range.rangeSize 0 j 1=(j.toNat:Int):=by
 unfold Builtin.Range.rangeSize
 rw [if_pos (by decide)]
 split
 ·have:(j - 0 - 1) / 1=j - 1:=by rw [Int.ediv_one]; omega
  omega
 ·omega
theorem za3 (hl:X.mg "list"=none)(hm:X.mg "range"=none)(he:PE X e te)(hg:Gl X "list":=by rfl)(hg2:Gl X "range":=by rfl)
  (hs:starEach [Expr.Call (.Name "range" p2) [e] [] pos2] X.env = [(false,eval (Expr.Call (.Name "range" p2) [e] [] pos2) X.env)]:=by rfl) (hs2:starEach [e] X.env = [(false,eval e X.env)]:=by rfl) (hc:X.calm=true:=by rfl) :
  PE X (.Call (.Name "list" p) [.Call (.Name "range" p2) [e] [] pos2] [] pos) (zc2 te):=by
 intro pins s σ H Q I h
 refine wpAny_Call_Name_kw (z5z I hg hl z4r ?_)
 refine y1s ?_ hs rfl
 rw [hs]
 show wpAny _ _ (spliced [(false,eval (Expr.Call (.Name "range" p2) [e] [] pos2) X.env)]) _ _ s
 refine Calls.spliced_cons ?_
 refine wpAny_Call_Name_kw (z5z I hg2 hm boot_range (y1s (thn ((z00 (z1k he) z04 hs2) pos2 pins s σ H (fun vs H1=>∃x,vs = [x]∧(match x with
  | .int j=>(0≤j∧j≤1000)∧∀l,H1 l=none→Q (.ref l) (upd H1 l (.lst ((y0b j.toNat).map fun (i:Nat)=>V.int (i:Int))))
  | _=>False)) I ⟨_,h,fun v H1 q=>⟨v,rfl,q⟩⟩) fun us s1 h1=>?_) hs2 rfl))
 obtain⟨vs,H1,I1,r1,x,rfl,q1⟩:=h1
 obtain⟨u,rfl,rx⟩:=z7a r1
 split at q1
 ·rename_i j
  obtain⟨t,rfl⟩:=rx
  obtain⟨⟨j0,j1⟩,q⟩:=q1
  refine call_range_1 ?_
  refine Calls.spliced_nil ?_
  have I2:Inv X pins σ H1 { s1 with heap:=s1.heap.push { cls:=.type "range",data:=.fields #[.int 0 s1.toks,.int j t,.int 1 (s1.toks+1)] },toks:=s1.toks+1+1 }:=I1.kept fun b o e=>Heap.get?_push_of_some _ e
  refine call_list_range (n:=j.toNat) (I1.ok.hd hc) (Heap.get?_push_size _ rfl) (zbr j0 j1) (zc5 j0) (by omega) fun h' tk acc c' hk hS hit=>?_
  refine⟨.ref _,_,I2.laid (t':=tk) hk (y0a _) (show ObjOk X.prog X.w _ h' _ (.lst ((y0b j.toNat).map fun (i:Nat)=>V.int (i:Int))) from ⟨?_,acc.toList,c',?_,by simpa using hS⟩),rfl,q _ (I2.hok.fresh (y0a _))⟩
  ·have:1000≤sizeLine:=by decide
   simp
   omega
  ·refine zc8 (by simp [hit.1]) fun i x u hx hu=>?_
   have hil:i<j.toNat:=by
    have:=(y00.mp hx).1
    simpa using this
   rw [y06,y1q hil] at hx
   cases hx
   obtain⟨t',ht'⟩:=hit.2 i u (by simpa using hu)
   exact⟨t',by rw [ht']; simp⟩
 ·exact q1.elim
end
end L2.EX
set_option Elab.async false
set_option linter.all false
set_option maxRecDepth 100000
namespace L2.EX
open PySem PySem.Spec PyProof.Rows
section
variable {X:Cx}
theorem z6o:∀{ns:List Int} {us:List Value},Vals (ns.map V.int) us→IntsAre us ns
 | [],us,h=>by cases h; exact .nil
 | n::ns,us,h=>by
  cases h with
  | cons h1 h2 =>
   obtain⟨t,rfl⟩:=h1
   exact .cons n t (z6o h2)
theorem z6m:∀{ns:List Int} {us:List Value},IntsAre us ns→Vals (ns.map V.int) us
 | _,_,.nil=>.nil
 | _,_,.cons n t h=>.cons ⟨t,rfl⟩ (z6m h)
@[reducible] def zfw (K:y03)(xs:List V)(H:Hp)(Q:VK):Prop:=match xs with
 | [.ref l]=>∃ns:List Int,SqL K H l (ns.map V.int)∧ns.length<64∧∀ms:List Int,ms.Perm ns→ms.Pairwise (·≤·)→∀p,H p=none→Q (.ref p) (upd H p (.lst (ms.map V.int)))
 | _=>False
theorem zfl:bootBuiltins "sorted"=some (.builtin "sorted"):=boot_sorted
theorem zf6:z44 X (.builtin "sorted") (zfw X.K):=by
 intro pins s σ H xs us Q I r h
 unfold zfw at h
 split at h
 ·rename_i l
  obtain⟨ns,hl,h64,q⟩:=h
  obtain⟨u,rfl,rx⟩:=z7a r
  cases rx
  obtain⟨its,rv,p,hz⟩:=I.list hl
  have hlen:=rv.length
  rw [y04] at hlen
  refine sorted_ints p.isList (z6o rv) (by omega) fun out ms hI hp hs=>?_
  obtain⟨e,he⟩:=sortedAll_at s.heap its out
  have hml:ms.length=ns.length:=hp.length_eq
  refine⟨.ref (s.heap.objs.size+1),_,I.laid (t':=s.toks) (fun b o hb=>sortedAll_old hb) (y53 _) (show ObjOk X.prog X.w _ _ _ (.lst (ms.map V.int)) from ⟨?_,out.toList,e,z6m hI,?_⟩),rfl,q ms hp hs _ (I.hok.fresh (y53 _))⟩
  ·rw [y04,hml]
   have:64≤sizeLine:=by decide
   omega
  ·simpa [seqObj] using he
 ·exact h.elim
end
end L2.EX
set_option Elab.async false
set_option linter.all false
set_option maxRecDepth 100000
namespace My
open PySem L2 L2.EX
theorem z7o:∀(ps kvs:List (Key×V)),(ps.map (·.1)).Nodup→(∀p∈ps,∀q∈kvs,q.1≠p.1)→z3e kvs ps=kvs++ps
 | [],kvs,_,_=>by simp [z3e]
 | p::ps,kvs,h1,h2=>by
  rw [y0h,y3b] at h1
  have e:zgl kvs p.1 p.2=kvs ++ [(p.1,p.2)]:=by
   unfold zgl
   rw [if_neg]
   rw [y1r]
   rintro⟨q,hq,hd⟩
   exact h2 p y0d q hq (of_decide_eq_true hd)
  show z3e (zgl kvs p.1 p.2) ps=_
  rw [e,z7o ps _ h1.2,y2z]
  ·rfl
  ·intro p' hp' q hq
   rcases y13.mp hq with hq | hq
   ·exact h2 p' (y0c _ hp') q hq
   ·rw [y0e.mp hq]
    rintro e
    exact h1.1 (y1h.mpr ⟨p',hp',e.symm⟩)
theorem z0g (l:List Nat):(z0a l).length=l.length:=by unfold z0a; rw [y04]
theorem z6k {l:List Nat}(h:l.Nodup){e a:Nat}(he:l[e]?=some a):l.idxOf a=e:=by
 obtain⟨h1,h2⟩:=y00.mp he
 rw [←h2]
 exact h.idxOf_getElem e h1
def z27 (hands:List Nat):List (Key×V):=(y0b hands.length).map fun j=>(Sum.inl ((hands.getD j 0:Nat):Int),V.int (j:Int))
theorem zby (hands:List Nat):(z27 hands).map (·.1)=hands.map fun (h:Nat)=>(Sum.inl (h:Int):Key):=by
 unfold z27
 rw [y26]
 refine List.ext_getElem (by simp) fun i h1 h2=>?_
 simp at h1 h2
 simp [y1k,h1]
theorem zfv {hands:List Nat}(h:hands.Nodup):(hands.map fun (h:Nat)=>(Sum.inl (h:Int):Key)).Nodup:=by
 refine List.Pairwise.map _ (fun a b hab e=>hab ?_) h
 injection e with e
 omega
theorem zdr {hands:List Nat}(h:hands.Nodup):z3e [] (z27 hands)=z27 hands:=by
 rw [z7o]
 ·simp
 ·rw [zby]
  exact zfv h
 ·intro p _ q hq
  cases hq
def z2o (hands:List Nat)(h:Nat):Option Nat:=if h∈hands then some (hands.idxOf h) else none
theorem zez {α:Type}{p:α→Bool}:∀{l:List α} {j:Nat} {x:α},l[j]?=some x→p x=true→(∀(m:Nat) y,m<j→l[m]?=some y→p y=false)→l.find? p=some x
 | [],_,_,h,_,_=>by simp at h
 | a::r,0,x,h,hp,_=>by
  simp at h
  subst h
  rw [y2v,hp]
 | a::r,j+1,x,h,hp,hn=>by
  have h0:=hn 0 a (by omega) rfl
  rw [y2v,h0]
  exact zez (by simpa using h) hp fun m y hm hy=>hn (m+1) y (by omega) (by simpa using hy)
theorem z7m {hands:List Nat}(hd:hands.Nodup)(h:Nat):zbb (z27 hands) (.inl (h:Int))=(z2o hands h).map fun j=>V.int (j:Int):=by
 have look:∀(m:Nat) y,(z27 hands)[m]?=some y→∃x,hands[m]?=some x∧y=(.inl (x:Int),.int (m:Int)):=fun m y hy=>by
  unfold z27 at hy
  have hm:=(y00.mp hy).1
  simp at hm
  rw [y06,y1q hm] at hy
  simp [y1k,hm] at hy
  exact⟨hands[m],y01 hm,hy.symm⟩
 unfold zbb z2o
 by_cases c:h∈hands
 ·rw [if_pos c]
  obtain⟨j,hj⟩:=y09 c
  have hjl:=(y00.mp hj).1
  have he:=(y00.mp hj).2
  have hidx:hands.idxOf h=j:=z6k hd hj
  have hat:(z27 hands)[j]?=some (.inl (h:Int),.int (j:Int)):=by
   unfold z27
   rw [y06,y1q hjl]
   simp [y1k,hj]
  rw [zez hat (by simp) fun m y hm hy=>?_,hidx]
  ·rfl
  ·obtain⟨x,hx,rfl⟩:=look m y hy
   refine decide_eq_false fun e=>?_
   injection e with e
   have ex:x=h:=by omega
   subst ex
   have hml:=(y00.mp hx).1
   have h1:=hd.idxOf_getElem m hml
   rw [(y00.mp hx).2] at h1
   omega
 ·rw [if_neg c]
  have:(z27 hands).find? (fun kv=>decide (kv.1 = .inl (h:Int)))=none:=by
   rw [List.find?_eq_none]
   intro y hy e
   obtain⟨m,hm⟩:=y09 hy
   obtain⟨x,hx,rfl⟩:=look m y hm
   have e':=of_decide_eq_true e
   injection e' with e'
   have ex:x=h:=by omega
   subst ex
   exact c (y02 hx)
  rw [this]
  rfl
def z32 (hands:List Nat)(g:Nat)(row:List Nat):List (Nat×Nat):=row.filterMap fun h=>(z2o hands h).map fun p=>(g,p)
def z3u (drs:List (List Nat))(hands chores:List Nat):Nat→List (Nat×Nat)
 | 0=>[]
 | i+1=>z3u drs hands chores i++z32 hands i (drs.getD (chores.getD i 0) [])
def z0j (drs:List (List Nat))(hands chores:List Nat):List (Nat×Nat):=z3u drs hands chores chores.length
theorem z93 {hands:List Nat}{h p:Nat}(hp:z2o hands h=some p):hands[p]?=some h:=by
 unfold z2o at hp
 split at hp
 ·rename_i c
  cases hp
  have:=y1m c
  rw [y01 this]
  simp
 ·cases hp
theorem place_of {hands:List Nat}(hd:hands.Nodup){h p:Nat}(hp:hands[p]?=some h):z2o hands h=some p:=by
 unfold z2o
 rw [if_pos (y02 hp),z6k hd hp]
theorem z7l {hands:List Nat}(hd:hands.Nodup){g:Nat}{row:List Nat}{a b:Nat}:(a,b)∈z32 hands g row↔a=g∧∃h,hands[b]?=some h∧h∈row:=by
 unfold z32
 rw [y4h]
 constructor
 ·rintro⟨h,hr,e⟩
  cases q:z2o hands h with
  | none=>rw [q] at e; cases e
  | some p =>
   rw [q] at e
   cases e
   exact⟨rfl,h,z93 q,hr⟩
 ·rintro⟨rfl,h,hb,hr⟩
  exact⟨h,hr,by rw [place_of hd hb]; rfl⟩
theorem z63 {drs:List (List Nat)}{hands chores:List Nat}(hd:hands.Nodup){a b:Nat}:∀{i:Nat},(a,b)∈z3u drs hands chores i↔a<i∧∃h,hands[b]?=some h∧h∈drs.getD (chores.getD a 0) []
 | 0=>by simp [z3u]
 | i+1=>by
  rw [z3u,y13,z63 hd,z7l hd]
  constructor
  ·rintro(⟨h1,h2⟩ | ⟨rfl,h2⟩)
   ·exact⟨by omega,h2⟩
   ·exact⟨by omega,h2⟩
  ·rintro⟨h1,h2⟩
   by_cases c:a=i
   ·subst c
    exact .inr ⟨rfl,h2⟩
   ·exact .inl ⟨by omega,h2⟩
theorem z1u {drs:List (List Nat)}{hands chores:List Nat}(hd:hands.Nodup):PM.TiesOk (fun c=>drs.getD c []) hands chores (z0j drs hands chores):=fun g t=>by
 unfold z0j
 rw [z63 hd]
 constructor
 ·rintro⟨h1,h,h2,h3⟩
  exact⟨chores.getD g 0,h,PM.get_of_lt h1,h2,h3⟩
 ·rintro⟨c,h,h1,h2,h3⟩
  refine⟨(y00.mp h1).1,h,h2,?_⟩
  rw [PM.getD_of h1]
  exact h3
theorem zca (hands:List Nat)(g:Nat)(row:List Nat):(z32 hands g row).length≤row.length:=List.length_filterMap_le _ _
theorem z6l (hands:List Nat)(g h:Nat)(row:List Nat):z32 hands g (row ++ [h])=z32 hands g row++(match z2o hands h with | some p=>[(g,p)] | none=>[]):=by
 unfold z32
 rw [List.filterMap_append]
 congr 1
 cases q:z2o hands h<;>simp [q]
def z5l (hands chores:List Nat):PyData:=.tuple [z37 hands,z37 chores]
def z8p (drs:List (List Nat)):PyData:=.list (drs.map z37)
theorem is_crowd {K:y03}{H:Hp}{v:V}{hands chores:List Nat}:Is K H v (z5l hands chores)↔∃a b c,v = .ref a∧H a=some (.tup [.ref b,.ref c])∧H b=some (.lst (z0a hands))∧H c=some (.lst (z0a chores)):=by
 unfold z5l z37
 constructor
 ·intro h
  obtain⟨a,xs,rfl,ha,al⟩:=is_tuple.mp h
  simp only [IsAll] at al
  obtain⟨v1,vs1,rfl,q1,v2,vs2,rfl,q2,rfl⟩:=al
  obtain⟨b,ys,rfl,hb,al1⟩:=is_list.mp q1
  obtain⟨c,zs,rfl,hc,al2⟩:=is_list.mp q2
  rw [z3t al1] at hb
  rw [z3t al2] at hc
  exact⟨a,b,c,rfl,ha,hb,hc⟩
 ·rintro⟨a,b,c,rfl,ha,hb,hc⟩
  exact is_tuple.mpr ⟨a,_,rfl,ha,z1c (is_list.mpr ⟨b,_,rfl,hb,z2c _⟩) (z4k (is_list.mpr ⟨c,_,rfl,hc,z2c _⟩))⟩
structure AsksC (K:y03)(H:Hp)(aw ad:Addr)(ws:List Int)(drs:List (List Nat)):Prop where
 w:H aw=some (.lst (ws.map V.int))
 d:Is K H (.ref ad) (z8p drs)
 len:drs.length=ws.length
 few:ws.length≤20
 row:∀r∈drs,r.length≤20
 pos:∀x∈ws,1≤x
 bd:∀x∈ws,Bd 300 x
theorem AsksC.same {K:y03}{H H':Hp}{aw ad:Addr}{ws:List Int}{drs:List (List Nat)}(t:AsksC K H aw ad ws drs)(s:Same H H'):AsksC K H' aw ad ws drs:=⟨s _ _ t.w,Is.same s _ _ t.d,t.len,t.few,t.row,t.pos,t.bd⟩
theorem zi6 {drs:List (List Nat)}(h:∀r∈drs,r.length≤20)(k:Nat):(drs.getD k []).length≤20:=by
 by_cases z:k<drs.length
 ·have e:drs.getD k []=drs[k]:=by simp [y1k,y01 z]
  rw [e]
  exact h _ (y36 z)
 ·have e:drs.getD k [] = []:=by simp [y1k,y0z (show drs.length≤k by omega)]
  rw [e]
  simp
theorem z6i {drs:List (List Nat)}{hands chores:List Nat}(h:∀r∈drs,r.length≤20):∀i,(z3u drs hands chores i).length≤i*20
 | 0=>by simp [z3u]
 | i+1=>by
  have a:=z6i (hands:=hands) (chores:=chores) h i
  have b:=zca hands i (drs.getD (chores.getD i 0) [])
  have c:=zi6 h (chores.getD i 0)
  rw [z3u,y0f]
  omega
def z2i (ws:List Int)(chores:List Nat):Int:=(chores.map fun c=>ws.getD c 0).sum
def z71 (K:y03):Sp:=fun vs H Q _=>∃(aw:Addr) (vc:V) (ws:List Int) (hands chores:List Nat),vs = [.ref aw,vc]∧H aw=some (.lst (ws.map V.int))∧Is K H vc (z5l hands chores)∧chores.length≤20∧(∀c∈chores,c<ws.length)∧∀H',Same H H'→Q (.int (z2i ws chores)) H'
structure CrowdOk (n m:Nat)(hands chores:List Nat):Prop where
 nd:hands.Nodup
 hl:hands.length≤20
 cl:chores.length≤20
 ci:∀c∈chores,c<n
def z1t (ws:List Int)(hands chores:List Nat):List Int:=chores.map fun c=>ws.getD c 0*(hands.length:Int)
def takesIn (ws:List Int)(hands chores:List Nat):List Int:=y05 hands.length (z2i ws chores)
def zct (K:y03):Sp:=fun vs H Q _=>∃(aw ad:Addr) (vc:V) (ws:List Int) (drs:List (List Nat)) (hands chores:List Nat),vs = [.ref aw,.ref ad,vc]∧AsksC K H aw ad ws drs∧Is K H vc (z5l hands chores)∧CrowdOk ws.length 0 hands chores ∧
 zo5 H Q (z1t ws hands chores) (takesIn ws hands chores) (z0j drs hands chores) fun _ _=>True
def pick {α:Type}(xs:List α)(bs:List Bool)(w:Bool):List α:=((xs.zip bs).filter fun p=>p.2==w).map (·.1)
theorem z7t {α:Type}{xs:List α}{bs:List Bool}{i:Nat}{x:α}{b w:Bool}(h1:xs[i]?=some x)(h2:bs[i]?=some b):pick (xs.take (i+1)) (bs.take (i+1)) w=pick (xs.take i) (bs.take i) w++(if b=w then [x] else []):=by
 unfold pick
 have e1:(xs.take i).length=(bs.take i).length:=by
  have:=(y00.mp h1).1
  have:=(y00.mp h2).1
  rw [y0v,y0v]
  omega
 rw [z0d h1,z0d h2,y5o e1,y39,y0g]
 congr 1
 by_cases c:b=w<;>simp [c]
def zcr (K:y03):Sp:=fun vs H Q _=>∃(ax ab:Addr) (xs:List Nat) (bs:List Bool) (w:Bool),vs = [.ref ax,.ref ab,.bl w]∧H ax=some (.lst (z0a xs))∧H ab=some (.lst (bs.map V.bl))∧xs.length=bs.length∧xs.length≤20∧∀l H',H l=none→Same H H'→H' l=some (.lst (z0a (pick xs bs w)))→Q (.ref l) H'
theorem zf8 {ws:List Int}(hb:∀x∈ws,Bd 300 x):∀{chores:List Nat},chores.length≤20→(∀c∈chores,c<ws.length)→Bd (300+chores.length) (z2i ws chores)
 | [],_,_=>by
  show(0:Int).natAbs<_
  exact Nat.two_pow_pos _
 | c::cs,hl,h=>by
  have ih:=zf8 hb (chores:=cs) (by simp at hl; omega) fun x hx=>h x (y0c _ hx)
  have hc:=h c y0d
  have b1:=hb _ (y02 (z0x hc))
  have e:z2i ws (c::cs)=ws.getD c 0+z2i ws cs:=by simp [z2i]
  rw [e]
  rw [y1b]
  exact Bd.add (k:=300+(cs.length+1)) (m:=300) (n:=300+cs.length) b1 ih (by omega) (by omega)
def z2h (c:PM.Cr):PyData:=z5l c.1 c.2
def z1n (ws:List Int)(c:Nat):Int:=if c<ws.length then ws.getD c 0 else 1
def z2k (drs:List (List Nat))(c:Nat):List Nat:=drs.getD c []
structure DoOk (ws:List Int)(drs:List (List Nat))(many:Nat):Prop where
 few:many≤20
 some:∀c<ws.length,z2k drs c ≠ []
 lt:∀c<ws.length,∀h∈z2k drs c,h<many
theorem z81 {ws:List Int}(h:∀x∈ws,1≤x)(c:Nat):0<z1n ws c:=by
 unfold z1n
 split
 ·rename_i hc
  have:=h _ (y02 (z0x hc))
  omega
 ·decide
theorem z83 {xs:List Nat}{bs:List Bool}{f:Nat→Bool}(hl:xs.length=bs.length)(h:∀(i x:Nat),xs[i]?=some x→bs[i]?=some (f x)):pick xs bs true=xs.filter f∧pick xs bs false=xs.filter fun x=>!f x:=by
 have key:∀(i:Nat) (w:Bool),i≤xs.length→pick (xs.take i) (bs.take i) w=(xs.take i).filter fun x=>f x==w:=by
  intro i w
  induction i with
  | zero=>intro _; simp [pick]
  | succ i ih =>
   intro hi
   have hx:xs[i]?=some xs[i]:=y01 (by omega)
   rw [z7t hx (h i _ hx),ih (by omega),z0d hx,y39]
   congr 1
   by_cases c:f xs[i]=w<;>simp [c]
 have k1:=key xs.length true (y0a _)
 have k2:=key xs.length false (y0a _)
 rw [y08 (y0a _),y08 (by omega)] at k1 k2
 refine⟨?_,?_⟩
 ·rw [k1]
  exact y4y fun x _=>by simp
 ·rw [k2]
  exact y4y fun x _=>by simp
theorem z1p {l:List Nat}(h:l.Pairwise (· < ·)):l.Nodup:=h.imp fun h=>y10 h
section
variable {ws:List Int}{drs:List (List Nat)}{c:PM.Cr}{sent spare steps:List Int}
theorem zgn (hh:c.1.Pairwise (· < ·))(hc:c.2.Pairwise (· < ·))(hi:∀x∈c.2,x<ws.length)
  (D:PM.Done (z2f (z1t ws c.1 c.2).length (takesIn ws c.1 c.2).length (z0j drs c.1 c.2)) (z1t ws c.1 c.2++takesIn ws c.1 c.2) sent spare steps) :
  ∃nc nh:Nat→Bool,PM.Cut (z1n ws) (z2k drs) c.1 c.2 c.1.length (PM.tot (z1n ws) c) nc nh∧(∀(i x:Nat),c.2[i]?=some x→((z3i steps).take (z1t ws c.1 c.2).length)[i]?=some (nc x))∧(∀(i x:Nat),c.1[i]?=some x→((z3i steps).drop (z1t ws c.1 c.2).length)[i]?=some (nh x)):=by
 have gl:(z1t ws c.1 c.2).length=c.2.length:=by unfold z1t; simp
 have tl:(takesIn ws c.1 c.2).length=c.1.length:=by unfold takesIn; simp
 rw [gl,tl] at D
 rw [gl]
 have n1:=z1p hh
 have n2:=z1p hc
 have ll:steps.length=c.2.length+c.1.length:=D.st.len
 have nl:(z3i steps).length=c.2.length+c.1.length:=by unfold z3i; rw [y04]; exact ll
 have ew:∀x∈c.2,ws.getD x 0=z1n ws x:=fun x hx=>by
  unfold z1n
  rw [if_pos (hi x hx)]
 have etot:z2i ws c.2=PM.tot (z1n ws) c:=by
  unfold z2i PM.tot
  rw [y0j ew]
 have eg:z1t ws c.1 c.2++takesIn ws c.1 c.2=c.2.map (fun x=>z1n ws x*(c.1.length:Int))++y05 c.1.length (PM.tot (z1n ws) c):=by
  unfold z1t takesIn
  rw [etot]
  congr 1
  exact y0j fun x hx=>by rw [ew x hx]
 rw [eg] at D
 have hok:PM.TiesOk (z2k drs) c.1 c.2 (z0j drs c.1 c.2):=z1u n1
 have hb:∀p∈z0j drs c.1 c.2,p.1<c.2.length∧p.2<c.1.length:=fun p hp=>by
  obtain⟨g,t⟩:=p
  obtain⟨x,h,g1,g2,_⟩:=(hok g t).mp hp
  exact⟨(y00.mp g1).1,(y00.mp g2).1⟩
 refine⟨fun x=>PM.nr steps (c.2.idxOf x),fun h=>PM.nr steps (c.2.length+c.1.idxOf h),?_,fun i x hx=>?_,fun i x hx=>?_⟩
 ·refine PM.cut_of (ties:=z0j drs c.1 c.2) hok (z5u hb) D (fun i x hx=>by rw [z6k n2 hx]) (fun i x hx=>by rw [z6k n1 hx]) ?_
  have e1:(c.1.map fun _=>PM.tot (z1n ws) c).sum=(c.1.length:Int)*PM.tot (z1n ws) c:=by
   generalize PM.tot (z1n ws) c=W
   induction c.1 with
   | nil=>simp
   | cons a r ih=>simp [ih]; rw [y58]; omega
  rw [e1]
  unfold PM.tot
  rw [PM.mul_sum]
  congr 1
  exact y0j fun x _=>y2l _ _
 ·have hil:=(y00.mp hx).1
  show _=some (PM.nr steps (c.2.idxOf x))
  rw [y68,if_pos hil,z6k n2 hx]
  have e:=zcq (steps:=steps) (e:=i) (by omega)
  rw [←e,y01 (by omega)]
  simp [y1k,y01 (show i<(z3i steps).length by omega)]
 ·have hil:=(y00.mp hx).1
  show _=some (PM.nr steps (c.2.length+c.1.idxOf x))
  rw [y4k,z6k n1 hx]
  have e:=zcq (steps:=steps) (e:=c.2.length+i) (by omega)
  rw [←e,y01 (by omega)]
  simp [y1k,y01 (show c.2.length+i<(z3i steps).length by omega)]
end
def zl1 (ws:List Int)(drs:List (List Nat))(c:PM.Cr):Prop:=PM.Hi (z1n ws) (z2k drs) c (PM.tot (z1n ws) c) c.1.length
theorem zl6 {ws:List Int}{drs:List (List Nat)}{c:PM.Cr}{nc nh:Nat→Bool}(C:PM.Cut (z1n ws) (z2k drs) c.1 c.2 c.1.length (PM.tot (z1n ws) c) nc nh)(hn:∀h∈c.1,nh h=false)(own:∀x∈c.2,∃h∈c.1,h∈z2k drs x):zl1 ws drs c:=by
 have h:=C.hi_rest
 have e:PM.restOf c nc nh=c:=by
  unfold PM.restOf
  have e1:(c.1.filter fun h=>!nh h)=c.1:=y5x.mpr fun h hh=>by rw [hn h hh]; rfl
  have e2:(c.2.filter fun x=>!nc x)=c.2:=y5x.mpr fun x hx=>by
   obtain⟨h,h1,h2⟩:=own x hx
   cases q:nc x with
   | false=>rfl
   | true =>
    have:=C.up x hx h h1 h2 q
    rw [hn h h1] at this
    cases this
  rw [e1,e2]
 rw [e] at h
 exact h
def z9i (K:y03):Sp:=fun vs H Q _=>∃(aw ad:Addr) (many:Nat) (ws:List Int) (drs:List (List Nat)),vs = [.ref aw,.ref ad,.int (many:Int)]∧AsksC K H aw ad ws drs∧DoOk ws drs many ∧
 ∀L:List PM.Cr,(many=0→L = [])→(0<many→PM.Crowds (z1n ws) (z2k drs) many ws.length L)→(∀c∈L,zl1 ws drs c)→Res K H Q (.list (L.map z2h))
theorem zai {ws:List Int}{drs:List (List Nat)}{many:Nat}(D:DoOk ws drs many)(h0:0<many):PM.Crowds (z1n ws) (z2k drs) many ws.length [(y0b many,y0b ws.length)]:=by
 refine⟨fun i x y hx hy=>?_,fun c hc=>?_,fun c hc x hx=>?_,fun i c hc x hx h hh=>?_,fun h=>?_,fun x=>?_,fun c hc=>?_,fun c hc=>?_⟩
 ·have:=(y00.mp hy).1
  simp at this
 ·rw [y0e.mp hc]
  intro e
  have e':y0b many = []:=e
  have:(y0b many).length=0:=by rw [e']; rfl
  simp at this
  omega
 ·rw [y0e.mp hc] at hx ⊢
  have hx':x<ws.length:=y1e.mp hx
  obtain⟨h,r,e⟩:=y2c (D.some x hx')
  have hm:h∈z2k drs x:=by rw [e]; exact y0d
  exact⟨h,y1e.mpr (D.lt x hx' h hm),hm⟩
 ·have hi:=(y00.mp hc).1
  simp at hi
  subst hi
  simp at hc
  subst hc
  have hx':x<ws.length:=y1e.mp hx
  exact⟨0,_,y0a _,rfl,y1e.mpr (D.lt x hx' h hh)⟩
 ·simp [y48]
 ·simp [y48]
 ·rw [y0e.mp hc]
  exact y3t
 ·rw [y0e.mp hc]
  exact y3t
def z6x (H:Hp)(a b:Addr):Hp:=del (del H a) b
theorem z5w {H H':Hp}{a b:Addr}(s:Same H H'):Same (z6x H a b) (z6x H' a b):=z4t (z4t s)
theorem z5r {H:Hp}{a b:Addr}:Same (z6x H a b) H:=del_sub.trans del_sub
theorem z3n {H:Hp}{a b x:Addr}(h1:x≠a)(h2:x≠b):z6x H a b x=H x:=by unfold z6x; rw [z90 h2,z90 h1]
theorem zd4 {H:Hp}{a b:Addr}:del (del H a) b=del (del H b) a:=by
 funext x
 unfold del
 split<;>split<;>rfl
theorem z7p {H:Hp}{a b:Addr}{o:HO}:z6x (upd H a o) a b=z6x H a b:=by unfold z6x; rw [z49]
theorem z4q {H:Hp}{a b:Addr}{o:HO}:z6x (upd H b o) a b=z6x H a b:=by unfold z6x; rw [zd4,z49,zd4]
structure Two (K:y03)(H H':Hp)(a b:Addr)(vs us:List V)(ds es:List PyData):Prop where
 ne:a≠b
 old:Same H (z6x H' a b)
 h1:H' a=some (.lst vs)
 h2:H' b=some (.lst us)
 a1:IsAll K (z6x H' a b) vs ds
 a2:IsAll K (z6x H' a b) us es
section
variable {K:y03}{H H' H'':Hp}{a b:Addr}{vs us:List V}{ds es:List PyData}
theorem Two.same (t:Two K H H' a b vs us ds es):Same H H':=t.old.trans z5r
theorem Two.more (t:Two K H H' a b vs us ds es)(s:Same H' H''):Two K H H'' a b vs us ds es:=⟨t.ne,t.old.trans (z5w s),s _ _ t.h1,s _ _ t.h2,IsAll.same (z5w s) _ _ t.a1,IsAll.same (z5w s) _ _ t.a2⟩
theorem Two.set1 (t:Two K H H' a b vs us ds es){ws:List V}{fs:List PyData}(h:IsAll K (z6x H' a b) ws fs):Two K H (upd H' a (.lst ws)) a b ws us fs es:=⟨t.ne,by rw [z7p]; exact t.old,z01,by rw [z09 t.ne.symm]; exact t.h2,by rw [z7p]; exact h,by rw [z7p]; exact t.a2⟩
theorem Two.set2 (t:Two K H H' a b vs us ds es){ws:List V}{fs:List PyData}(h:IsAll K (z6x H' a b) ws fs):Two K H (upd H' b (.lst ws)) a b vs ws ds fs:=⟨t.ne,by rw [z4q]; exact t.old,by rw [z09 t.ne]; exact t.h1,z01,by rw [z4q]; exact t.a1,by rw [z4q]; exact h⟩
theorem Two.crowd (t:Two K H H' a b vs us ds es){c x y:Addr}{hands chores:List Nat}(hx:x≠a∧x≠b)(hy:y≠a∧y≠b)(h0:H' c=some (.tup [.ref x,.ref y]))(h1:H' x=some (.lst (z0a hands)))(h2:H' y=some (.lst (z0a chores))):Is K (z6x H' a b) (.ref c) (z5l hands chores):=by
 have n1:c≠a:=fun z=>by rw [z,t.h1] at h0; cases h0
 have n2:c≠b:=fun z=>by rw [z,t.h2] at h0; cases h0
 exact is_crowd.mpr ⟨c,x,y,rfl,by rw [z3n n1 n2]; exact h0,by rw [z3n hx.1 hx.2]; exact h1,by rw [z3n hy.1 hy.2]; exact h2⟩
end
def z9x (U:List PM.Cr):Nat:=(U.map fun c=>2*c.1.length - 1).sum
theorem z78:∀{l:List Nat} {k n:Nat},l.Pairwise (· < ·)→(∀x∈l,k≤x)→(∀x∈l,x<n)→l ≠ []→k+l.length≤n
 | [],_,_,_,_,_,h=>absurd rfl h
 | x::r,k,n,h,hk,hn,_=>by
  rw [y3q] at h
  have h1:=hk x y0d
  have h2:=hn x y0d
  by_cases c:r = []
  ·subst c
   simp
   omega
  ·have ih:=z78 (l:=r) (k:=k+1) (n:=n) h.2 (fun y hy=>by have:=h.1 y hy; omega) (fun y hy=>hn y (y0c _ hy)) c
   rw [y1b]
   omega
theorem z1e {l:List Nat}{n:Nat}(h:l.Pairwise (· < ·))(hb:∀x∈l,x<n):l.length≤n:=by
 by_cases c:l = []
 ·subst c
  simp
 ·have:=z78 (k:=0) h (fun _ _=>y2g _) hb c
  omega
theorem zg0 {l:List Nat}{n:Nat}(hn:l.Nodup)(hb:∀x∈l,x<n):l.length≤n:=by
 have p:(l.mergeSort (fun a b=>decide (a≤b))).Perm l:=List.mergeSort_perm l _
 have sr:(l.mergeSort (fun a b=>decide (a≤b))).Pairwise (fun a b=>decide (a≤b)=true):=List.pairwise_mergeSort (fun a b c h1 h2=>by simp at h1 h2 ⊢; omega) (fun a b=>by simp; omega) l
 have nd:=p.nodup_iff.mpr hn
 have rs:(l.mergeSort (fun a b=>decide (a≤b))).Pairwise (· < ·):=(sr.and nd).imp fun h=>by
  have:=of_decide_eq_true h.1
  have:=h.2
  omega
 have:=z1e rs fun x hx=>hb x (p.mem_iff.mp hx)
 rw [p.length_eq] at this
 exact this
theorem z6g {ws:List Int}{drs:List (List Nat)}{many chores:Nat}{L:List PM.Cr}(C:PM.Crowds (z1n ws) (z2k drs) many chores L)(hm:many≤20:=by assumption):L.length≤20:=by
 have key:∀(L:List PM.Cr),(∀c∈L,c.1 ≠ [])→L.length≤(L.map fun c=>c.1.length).sum:=by
  intro L
  induction L with
  | nil=>intro _; simp
  | cons c r ih =>
   intro h
   have a:=ih fun d hd=>h d (y0c _ hd)
   have b:=y0s.mpr (h c y0d)
   simp
   omega
 have a:=key L C.ne
 have tot:∀(L:List PM.Cr),(∀h:Nat,(L.map fun c=>c.1.count h).sum≤if h<many then 1 else 0)→(L.map fun c=>c.1.length).sum≤many:=by
  intro L hL
  have e:(L.map fun c=>c.1.length).sum=(L.flatMap fun c=>c.1).length:=by rw [List.length_flatMap]
  rw [e]
  have cnt:∀h,(L.flatMap fun c=>c.1).count h=(L.map fun c=>c.1.count h).sum:=fun h=>by rw [y4m]; rfl
  have nd:(L.flatMap fun c=>c.1).Nodup:=y4a.mpr fun h=>by
   rw [cnt]
   have:=hL h
   split at this<;>omega
  have lt:∀h∈L.flatMap fun c=>c.1,h<many:=fun h hh=>by
   have p:=y2n.mpr hh
   rw [cnt] at p
   have:=hL h
   split at this<;>omega
  exact zg0 nd lt
 have b:=tot L fun h=>by rw [C.hs h]; exact y0a _
 omega
def zb7 (p:Int×Int)(c:PM.Cr):PyData:=.tuple [z9o p.1 p.2,z37 c.1,z37 c.2]
def z2p:List (Int×Int)→List PM.Cr→List PyData
 | p::ps,c::L=>zb7 p c::z2p ps L
 | _,_=>[]
theorem z6p:∀{ps:List (Int×Int)} {L:List PM.Cr} {p:Int×Int} {c:PM.Cr},ps.length=L.length→z2p (ps ++ [p]) (L ++ [c])=z2p ps L ++ [zb7 p c]
 | [],[],p,c,_=>rfl
 | [],_::_,_,_,h=>by simp at h
 | _::_,[],_,_,h=>by simp at h
 | p'::ps,c'::L,p,c,h=>by
  simp only [y6q,z2p]
  rw [z6p (by simpa using h)]
theorem z65:∀{ps:List (Int×Int)} {L:List PM.Cr} {i:Nat} {d:PyData},(z2p ps L)[i]?=some d→∃p c,ps[i]?=some p∧L[i]?=some c∧d=zb7 p c
 | [],_,_,_,h=>by simp [z2p] at h
 | _::_,[],_,_,h=>by simp [z2p] at h
 | p::ps,c::L,0,d,h=>by
  simp [z2p] at h
  exact⟨p,c,rfl,rfl,h.symm⟩
 | p::ps,c::L,i+1,d,h=>by
  simp [z2p] at h
  obtain⟨p',c',h1,h2,h3⟩:=z65 h
  exact⟨p',c',by simpa using h1,by simpa using h2,h3⟩
theorem z7j:∀{ps:List (Int×Int)} {L:List PM.Cr},ps.length=L.length→(z2p ps L).length=L.length
 | [],[],_=>rfl
 | [],_::_,h=>by simp at h
 | _::_,[],h=>by simp at h
 | p::ps,c::L,h=>by
  simp only [z2p,y1b]
  rw [z7j (by simpa using h)]
theorem z4s:∀{l:List Nat} {x:Nat},x∈l→x≤l.sum
 | [],_,h=>by cases h
 | y::r,x,h=>by
  rw [y0n]
  rcases y0m.mp h with rfl | h
  ·omega
  ·have:=z4s h
   omega
structure LayOk (ws:List Int)(L:List PM.Cr)(ps:List (Int×Int)):Prop where
 len:ps.length=L.length
 at_:∀(i:Nat) c p,L[i]?=some c→ps[i]?=some p→Low p∧p.1*(c.1.length:Int)=PM.tot (z1n ws) c*p.2
structure CrOk (ws:List Int)(drs:List (List Nat))(many:Nat)(L:List PM.Cr):Prop where
 none:many=0→L = []
 cr:0<many→PM.Crowds (z1n ws) (z2k drs) many ws.length L
 rst:∀c∈L,zl1 ws drs c
theorem CrOk.lt {ws:List Int}{drs:List (List Nat)}{many:Nat}{L:List PM.Cr}(C:CrOk ws drs many L){c:PM.Cr}(hc:c∈L):(∀h∈c.1,h<many)∧(∀x∈c.2,x<ws.length)∧c.1 ≠ []∧c.1.Pairwise (· < ·)∧c.2.Pairwise (· < ·):=by
 have h0:0<many:=by
  rcases y1x many with z | z
  ·rw [C.none z] at hc
   cases hc
  ·exact z
 have K:=C.cr h0
 obtain⟨i,hi⟩:=y09 hc
 have one:∀(f:PM.Cr→Nat),f c≤(L.map f).sum:=fun f=>by
  have:f c∈L.map f:=y1h.mpr ⟨c,hc,rfl⟩
  exact z4s this
 refine⟨fun h hh=>?_,fun x hx=>?_,K.ne c hc,K.hr c hc,K.cr c hc⟩
 ·have a:=one fun c=>c.1.count h
  rw [K.hs h] at a
  have b:=y2n.mpr hh
  by_cases z:h<many
  ·exact z
  ·rw [if_neg z] at a
   omega
 ·have a:=one fun c=>c.2.count x
  rw [K.cs x] at a
  have b:=y2n.mpr hx
  by_cases z:x<ws.length
  ·exact z
  ·rw [if_neg z] at a
   omega
theorem CrOk.few {ws:List Int}{drs:List (List Nat)}{many:Nat}{L:List PM.Cr}(C:CrOk ws drs many L)(hm:many≤20):L.length≤20:=by
 rcases y1x many with z | z
 ·rw [C.none z]
  simp
 ·exact z6g (C.cr z) hm
def zdd (K:y03):Sp:=fun vs H Q _=>∃(aw ad:Addr) (many:Nat) (ws:List Int) (drs:List (List Nat)),vs = [.ref aw,.ref ad,.int (many:Int)]∧AsksC K H aw ad ws drs∧DoOk ws drs many ∧
 ∀(L:List PM.Cr) (ps:List (Int×Int)),CrOk ws drs many L→LayOk ws L ps→Res K H Q (.list (z2p ps L))
structure LoadOk (many:Nat)(L:List PM.Cr)(ps qs:List (Int×Int)):Prop where
 len:qs.length=many
 at_:∀(i:Nat) c p,L[i]?=some c→ps[i]?=some p→∀h∈c.1,qs[h]?=some p
def zg3 (K:y03):Sp:=fun vs H Q _=>∃(aw ad:Addr) (many:Nat) (ws:List Int) (drs:List (List Nat)),vs = [.ref aw,.ref ad,.int (many:Int)]∧AsksC K H aw ad ws drs∧DoOk ws drs many ∧
 ∀(L:List PM.Cr) (ps qs:List (Int×Int)),CrOk ws drs many L→LayOk ws L ps→LoadOk many L ps qs→Res K H Q (zm5 qs)
theorem is_layer {K:y03}{H:Hp}{v:V}{p:Int×Int}{c:PM.Cr}:Is K H v (zb7 p c)↔∃a f x y,v = .ref a∧H a=some (.tup [.ref f,.ref x,.ref y])∧H f=some (.tup [.int p.1,.int p.2])∧H x=some (.lst (z0a c.1))∧H y=some (.lst (z0a c.2)):=by
 unfold zb7 z37
 constructor
 ·intro h
  obtain⟨a,xs,rfl,ha,al⟩:=is_tuple.mp h
  simp only [IsAll] at al
  obtain⟨v1,vs1,rfl,q1,v2,vs2,rfl,q2,v3,vs3,rfl,q3,rfl⟩:=al
  obtain⟨f,rfl,hf⟩:=is_frac.mp q1
  obtain⟨b,ys,rfl,hb,al1⟩:=is_list.mp q2
  obtain⟨d,zs,rfl,hd,al2⟩:=is_list.mp q3
  rw [z3t al1] at hb
  rw [z3t al2] at hd
  exact⟨a,f,b,d,rfl,ha,hf,hb,hd⟩
 ·rintro⟨a,f,x,y,rfl,ha,hf,hx,hy⟩
  exact is_tuple.mpr ⟨a,_,rfl,ha,z1c (is_frac.mpr ⟨f,rfl,hf⟩) (z1c (is_list.mpr ⟨x,_,rfl,hx,z2c _⟩) (z4k (is_list.mpr ⟨y,_,rfl,hy,z2c _⟩)))⟩
theorem z7k {K:y03}{H:Hp}{v:V}{d:PyData}(h:Is K H v d):∀n,IsAll K H (y05 n v) (y05 n d)
 | 0=>z0q
 | n+1=>by
  rw [y1p,y1p]
  exact z1c h (z7k h n)
theorem z76 {K:y03}{H:Hp}:∀{ds:List PyData} {xs:List V} {i:Nat} {v:V} {d:PyData},IsAll K H xs ds→Is K H v d→IsAll K H (xs.set i v) (ds.set i d)
 | [],xs,i,v,d,h,_=>by
  simp only [IsAll] at h
  subst h
  exact z0q
 | e::ds,xs,i,v,d,h,hv=>by
  simp only [IsAll] at h
  obtain⟨u,us,rfl,q,al⟩:=h
  cases i with
  | zero=>exact z1c hv al
  | succ i=>exact z1c q (z76 al hv)
theorem zi7 {α:Type}{l:List α}{n i:Nat}{x:α}(h:(l.take n)[i]?=some x):l[i]?=some x:=by
 rw [y68] at h
 split at h
 ·exact h
 ·cases h
theorem zfk:∀{l:List Nat} {i j a b:Nat},i≠j→l[i]?=some a→l[j]?=some b→a+b≤l.sum
 | [],_,_,_,_,_,h,_=>by simp at h
 | x::r,0,0,_,_,h,_,_=>absurd rfl h
 | x::r,0,j+1,a,b,_,h1,h2=>by
  simp at h1 h2
  subst h1
  have:=z4s (y02 h2)
  rw [y0n]
  omega
 | x::r,i+1,0,a,b,_,h1,h2=>by
  simp at h1 h2
  subst h2
  have:=z4s (y02 h1)
  rw [y0n]
  omega
 | x::r,i+1,j+1,a,b,h,h1,h2=>by
  have:=zfk (l:=r) (i:=i) (j:=j) (a:=a) (b:=b) (by omega) (by simpa using h1) (by simpa using h2)
  rw [y0n]
  omega
theorem CrOk.apart {ws:List Int}{drs:List (List Nat)}{many:Nat}{L:List PM.Cr}(C:CrOk ws drs many L)(hm:many≤20){i j h:Nat}{c d:PM.Cr}(hij:i≠j)(hi:L[i]?=some c)(hj:L[j]?=some d)(h1:h∈c.1):¬h∈d.1:=fun h2=>by
 have h0:0<many:=by
  rcases y1x many with z | z
  ·rw [C.none z] at hi
   simp at hi
  ·exact z
 have e:=(C.cr h0).hs h
 have a:=zfk (l:=L.map fun c=>c.1.count h) (i:=i) (j:=j) (a:=c.1.count h) (b:=d.1.count h) hij (by rw [y06,hi]; rfl) (by rw [y06,hj]; rfl)
 have p1:=y2n.mpr h1
 have p2:=y2n.mpr h2
 rw [e] at a
 split at a<;>omega
def RowsOk (n many:Nat)(drs:List (List Nat)):Prop:=drs.length=n∧∀r∈drs,r ≠ []∧r.Pairwise (· < ·)∧∀h∈r,h<many
theorem RowsOk.doOk {n many:Nat}{drs:List (List Nat)}{ws:List Int}(h:RowsOk n many drs)(hw:ws.length=n)(hm:many≤20):DoOk ws drs many:=by
 have look:∀c<ws.length,z2k drs c∈drs:=fun c hc=>by
  have hc':c<drs.length:=by rw [h.1]; omega
  have e:z2k drs c=drs[c]:=by unfold z2k; simp [y1k,y01 hc']
  rw [e]
  exact y36 hc'
 exact⟨hm,fun c hc=>(h.2 _ (look c hc)).1,fun c hc=>(h.2 _ (look c hc)).2.2⟩
theorem RowsOk.row {n many:Nat}{drs:List (List Nat)}(h:RowsOk n many drs)(hm:many≤20):∀r∈drs,r.length≤20:=fun r hr=>y1a (z1e (h.2 r hr).2.1 (h.2 r hr).2.2) hm
theorem zjx (ds:List PyData):PyData.eqv (.list ds) (.list [])=ds.isEmpty:=by
 cases ds with
 | nil=>exact z6z (z6b (n:=59) fun d hd=>by cases hd)
 | cons d ds=>simp [PyData.eqv,PyData.eqvAll]
def RowOk (many:Nat)(r:List Nat):Prop:=r.Pairwise (· < ·)∧∀h∈r,h<many
theorem RowOk.add {k many:Nat}{r:List Nat}(h:r.Pairwise (· < ·)∧∀x∈r,x<k):(r ++ [k]).Pairwise (· < ·)∧∀x∈r ++ [k],x<k+1:=by
 refine⟨List.pairwise_append.mpr ⟨h.1,y59 _ _,fun x hx y hy=>?_⟩,fun x hx=>?_⟩
 ·rw [y0e.mp hy]
  exact h.2 x hx
 ·rcases y13.mp hx with hx | hx
  ·have:=h.2 x hx
   omega
  ·rw [y0e.mp hx]
   omega
end My
set_option Elab.async false
set_option linter.all false
set_option maxRecDepth 100000
namespace My
open PySem L2 L2.EX
section
variable {ws:List Int}{drs:List (List Nat)}{many:Nat}{L:List PM.Cr}{ps:List (Int×Int)}
theorem zbj {n d k t:Int}(hg:y2h n d=1)(h:n*k=t*d):d∣k:=by
 have h1:d∣n*k:=⟨t,by rw [h,y2l]⟩
 have hg':Nat.Coprime d.natAbs n.natAbs:=by
  have:y2h d n=1:=by rw [Int.gcd_comm]; exact hg
  exact this
 have h2:d.natAbs∣n.natAbs*k.natAbs:=by
  rw [←y3z]
  exact y3e.mpr h1
 exact y3e.mp (hg'.dvd_of_dvd_mul_left h2)
theorem zne (hp:∀x∈ws,1≤x)(c:PM.Cr):0≤PM.tot (z1n ws) c:=by
 unfold PM.tot
 refine PM.sum_nn fun i x hx=>?_
 obtain⟨y,_,rfl⟩:=y1h.mp (y02 hx)
 exact y25 (z81 hp y)
theorem LayOk.part (lo:LayOk ws L ps)(co:CrOk ws drs many L)(hm:many≤20)(hp:∀x∈ws,1≤x)(hb:∀x∈ws,Bd 300 x)(hw:ws.length≤20){i:Nat}{c:PM.Cr}{p:Int×Int}(hc:L[i]?=some c)(hi:ps[i]?=some p):Low p∧0≤p.1∧p.2≤20∧Bd 400 p.1:=by
 obtain⟨low,e⟩:=lo.at_ i c p hc hi
 obtain⟨l1,l2,ne,r1,r2⟩:=co.lt (y02 hc)
 have cpos:=y0s.mpr ne
 have cl:=z1e r1 l1
 have cl2:=z1e r2 l2
 have t0:=zne hp c
 have d1:=low.1
 have dv:=zbj low.2 e
 have d20:p.2≤(c.1.length:Int):=Int.le_of_dvd (by omega) dv
 have n0:0≤p.1:=by
  rcases y2k p.1 0 with z | z
  ·have a:p.1*(c.1.length:Int)<0:=Int.mul_neg_of_neg_of_pos z (by omega)
   have b:0≤PM.tot (z1n ws) c*p.2:=y2j t0 (by omega)
   omega
  ·exact z
 have etot:z2i ws c.2=PM.tot (z1n ws) c:=by
  unfold z2i PM.tot
  rw [y0j fun x hx=>?_]
  unfold z1n
  rw [if_pos (l2 x hx)]
 have wb:=(zf8 hb (chores:=c.2) (by omega) l2).le (show 300+c.2.length≤320 by omega)
 rw [etot] at wb
 have b2:Bd 325 (PM.tot (z1n ws) c*p.2):=Bd.mul (m:=320) (n:=5) wb (by show _<_; omega)
 refine⟨low,n0,by omega,(b2.le (by decide)).of_le ?_⟩
 rw [←e]
 have:p.1≤p.1*(c.1.length:Int):=by
  have:=y1v (show(1:Int)≤(c.1.length:Int) by omega) n0
  omega
 have:0≤p.1*(c.1.length:Int):=y2j n0 (by omega)
 omega
theorem LayOk.falls (lo:LayOk ws L ps)(co:CrOk ws drs many L)(hp:∀x∈ws,1≤x){i:Nat}{c d:PM.Cr}{p q:Int×Int}(hc:L[i]?=some c)(hd:L[i+1]?=some d)(h1:ps[i]?=some p)(h2:ps[i+1]?=some q):q.1*p.2<p.1*q.2:=by
 have h0:0<many:=by
  rcases y1x many with z | z
  ·rw [co.none z] at hc
   simp at hc
  ·exact z
 have f:=PM.Crowds.fall (z81 hp) (co.cr h0) hc hd
 obtain⟨lp,ep⟩:=lo.at_ i c p hc h1
 obtain⟨lq,eq⟩:=lo.at_ (i+1) d q hd h2
 have nc:=y0s.mpr (co.lt (y02 hc)).2.2.1
 have nd:=y0s.mpr (co.lt (y02 hd)).2.2.1
 have p2:=lp.1
 have q2:=lq.1
 have m:0<p.2*q.2:=y56 (by omega) (by omega)
 have a:=y28 f m
 have e1:PM.tot (z1n ws) d*(c.1.length:Int)*(p.2*q.2)=(q.1*p.2)*((c.1.length:Int)*d.1.length):=by grind
 have e2:PM.tot (z1n ws) c*(d.1.length:Int)*(p.2*q.2)=(p.1*q.2)*((c.1.length:Int)*d.1.length):=by grind
 rw [e1,e2] at a
 exact y2d a (y2j (by omega) (by omega))
def z57 (L:List PM.Cr)(i:Nat):List Nat:=(L.take i).flatMap (·.1)
def z5p (L:List PM.Cr)(i:Nat):List Nat:=(L.take i).flatMap (·.2)
theorem z4y (co:CrOk ws drs many L)(h0:0<many):(z57 L L.length).Perm (y0b many):=by
 rw [y5y]
 intro h
 unfold z57
 rw [y08 (y0a _),y4m,y48]
 exact(co.cr h0).hs h
theorem z56 (co:CrOk ws drs many L)(h0:0<many):(z5p L L.length).Perm (y0b ws.length):=by
 rw [y5y]
 intro h
 unfold z5p
 rw [y08 (y0a _),y4m,y48]
 exact(co.cr h0).cs h
end
theorem z5m (l:List Nat):Sh 60 (z37 l):=(z6b (n:=0) fun d hd=>by
 obtain⟨x,_,rfl⟩:=y1h.mp hd
 exact z8d _).le (by decide)
theorem zmu {K:y03}{a aw:Addr}{cs:List Nat}{ws:List Int}{Q:VK}{H:Hp}(hS:H a=some (.lst (z0a cs)))(hw:H aw=some (.lst (ws.map V.int)))(hl:cs.length≤20)(hin:∀c∈cs,c<ws.length)
  (hd:∀l,H l=none→Q (.ref l) (upd H l (.lst ((cs.map fun c=>ws.getD c 0).map V.int)))):z50 (Itl K a) (z3x 0) zh9 (tOp (uIx K) (xV 1) (xV 0)) [none,some (.ref aw)] Q H:=by
 refine z1j (xs:=z0a cs) (fun i ys H2=>H2=H∧ys=((cs.take i).map fun c=>ws.getD c 0).map V.int) ⟨rfl,rfl⟩ (z0h (by rw [z0g]; omega)) ?_ ?_ ?_
 ·rintro i ys H2 hi ⟨rfl,rfl⟩
  exact⟨SqL.of hS,by simp; omega⟩
 ·rintro i x ys H2 hx ⟨rfl,rfl⟩
  have hil:=(y00.mp hx).1
  obtain⟨c,hc,rfl⟩:=z31 hx
  dsimp only [z3x,zh9,tOp,xV,sg,y79]
  refine z86 ⟨_,_,.inl (SqL.of hw),zhk (hin c (y02 hc)),CNx.mk ⟨rfl,?_⟩ hil⟩
  rw [z0d hc,y0g,y0g]
  rfl
 ·rintro ys H2 ⟨rfl,rfl⟩ l hl'
  rw [z0g,y08 (y0a _)]
  exact hd l hl'
theorem zhf {n:Nat}{τ:St}{Q:VK}{H:Hp}(hn:n≤20)(hd:∀l,H l=none→Q (.ref l) (upd H l (.lst (z0a (y0b n))))):z50 (Itr 0 n) (z3x 0) zh9 (xV 0) (none :: τ) Q H:=by
 refine z8i (fun i ys H2=>H2=H∧ys=z0a (y0b i)) ⟨rfl,rfl⟩ (z0h (by omega)) ?_ ?_ ?_
 ·rintro i ys H2 hi ⟨rfl,rfl⟩
  rw [z0g,y2i]
  omega
 ·rintro i ys H2 hi ⟨rfl,rfl⟩
  dsimp only [z3x,zh9,xV,sg,y79]
  refine z86 (CNx.mk ⟨rfl,?_⟩ hi)
  rw [y3g,show(0:Int)+(i:Int)=(i:Int) by omega]
  unfold z0a
  rw [y0g]
  rfl
 ·rintro ys H2 ⟨rfl,rfl⟩ l hl'
  exact hd l hl'
end My
set_option Elab.async false
set_option linter.all false
set_option maxRecDepth 100000
namespace My
open PySem L2 L2.EX
def QOk (qs:List (Int×Int)):Prop:=∀q∈qs,1≤q.2∧q.2≤20∧0≤q.1∧Bd 400 q.1
end My
set_option linter.all false
namespace PM
theorem z5v {α:Type}(f:α→List Nat)(g:Nat→Int):∀L:List α,((L.flatMap f).map g).sum=(L.map fun c=>((f c).map g).sum).sum
 | []=>rfl
 | c::r=>by rw [y4z,y0g,y20,y0h,y0n,z5v f g r]
theorem z5k {l m:List Nat}(g:Nat→Int)(h:l.Perm m):(l.map g).sum=(m.map g).sum:=by
 induction h with
 | nil=>rfl
 | cons x _ ih=>rw [y0h,y0h,y0n,y0n,ih]
 | swap x y l=>simp only [y0h,y0n]; omega
 | trans _ _ a b=>exact a.trans b
theorem sum_leI {α:Type}{f g:α→Int}:∀{l:List α},(∀x∈l,f x≤g x)→(l.map f).sum≤(l.map g).sum
 | [],_=>y1u _
 | x::r,h=>by
  rw [y0h,y0h,y0n,y0n]
  have a:=h x y0d
  have b:=sum_leI fun y hy=>h y (y0c x hy)
  omega
theorem z96 {α:Type}(f:α→Int)(k:Int):∀l:List α,(l.map f).sum*k=(l.map fun x=>f x*k).sum
 | []=>by simp
 | x::r=>by rw [y0h,y0h,y0n,y0n,y58,z96 f k r]
theorem sum_eqI {α:Type}{f g:α→Int}:∀{l:List α},(∀x∈l,f x≤g x)→(l.map g).sum≤(l.map f).sum→∀x∈l,f x=g x
 | [],_,_,x,hx=>by cases hx
 | y::r,h,k,x,hx=>by
  rw [y0h,y0h,y0n,y0n] at k
  have a:=h y y0d
  have b:=sum_leI fun z hz=>h z (y0c y hz)
  rcases y0m.mp hx with rfl | hx
  ·omega
  ·exact sum_eqI (fun z hz=>h z (y0c y hz)) (by omega) x hx
def SH (many:Nat)(T:Nat→Bool)(x:Nat→Int):Int:=((y0b many).map fun h=>if T h then x h else 0).sum
def IW (wk:Nat→Int)(dr:Nat→List Nat)(chores:Nat)(T:Nat→Bool):Int:=((y0b chores).map fun k=>if (dr k).all T then wk k else 0).sum
structure Sol (wk:Nat→Int)(dr:Nat→List Nat)(many chores:Nat)(M:Int)(L:List Cr)(x:Nat→Int):Prop where
 hp:(L.flatMap (·.1)).Perm (y0b many)
 cp:(L.flatMap (·.2)).Perm (y0b chores)
 hi:∀c∈L,Hi wk dr c (tot wk c) c.1.length
 ne:∀c∈L,c.1 ≠ []
 eq:∀c∈L,∀h∈c.1,x h*c.1.length=tot wk c*M
 up:∀(i:Nat) c,L[i]?=some c→∀k∈c.2,∀h∈dr k,∃(j:Nat) (d:Cr),j≤i∧L[j]?=some d∧h∈d.1
 fall:∀(i:Nat) c d,L[i]?=some c→L[i+1]?=some d→∀h∈c.1,∀g∈d.1,x g<x h
 wp:∀k,0<wk k
 mp:0<M
section
variable {wk:Nat→Int}{dr:Nat→List Nat}{many chores:Nat}{M:Int}{L L':List Cr}{x x':Nat→Int}
theorem Sol.len (S:Sol wk dr many chores M L x){c:Cr}(hc:c∈L):(0:Int)<c.1.length:=by
 have:=y0s.mpr (S.ne c hc)
 omega
theorem Sol.same (S:Sol wk dr many chores M L x){c:Cr}(hc:c∈L){h g:Nat}(hh:h∈c.1)(hg:g∈c.1):x h=x g:=by
 have a:=S.eq c hc h hh
 have b:=S.eq c hc g hg
 exact y2w (by have:=S.len hc; omega) (a.trans b.symm)
theorem Sol.borne (S:Sol wk dr many chores M L x)(T:Nat→Bool):IW wk dr chores T*M≤SH many T x:=by
 unfold IW SH
 rw [←z5k _ S.cp,←z5k _ S.hp,z5v,z5v,z96]
 refine sum_leI fun c hc=>?_
 have hn:=S.len hc
 obtain⟨h0,r0,e0⟩:=y2c (S.ne c hc)
 have m0:h0∈c.1:=by rw [e0]; exact y0d
 have ex:=S.eq c hc h0 m0
 have one:(c.2.map fun k=>if (dr k).all T then wk k else 0).sum≤inside wk dr c T:=by
  unfold inside
  refine sum_leI fun k hk=>?_
  have wpk:=S.wp k
  by_cases a:(dr k).all T=true
  ·have b:(c.1.all fun h=>(!(dr k).contains h||T h))=true:=y2p.mpr fun h hh=>by
    cases q:(dr k).contains h with
    | false=>rfl
    | true =>
     have:=y2p.mp a h (y1t.mp q)
     rw [this]
     rfl
   rw [if_pos a,if_pos b]
   exact y1u _
  ·rw [if_neg a]
   split<;>omega
 have two:(c.1.map fun h=>if T h then x h else 0).sum=x h0*cnt c T:=by
  unfold cnt
  rw [mul_sum]
  congr 1
  refine y0j fun h hh=>?_
  rw [S.same hc hh m0]
  split<;>simp
 rw [two]
 have thr:=S.hi c hc T
 refine y2x (y1g one (by have:=S.mp; omega)) ?_
 refine y4g (a:=(c.1.length:Int)) ?_ hn
 have e1:x h0*cnt c T*(c.1.length:Int)=tot wk c*cnt c T*M:=by
  rw [y1o,ex,y1o]
 rw [e1,y1o,y2l (inside wk dr c T) _]
 exact y1g thr (by have:=S.mp; omega)
theorem Sol.falls (S:Sol wk dr many chores M L x):∀(n i:Nat) {c d:Cr},L[i]?=some c→L[i+n]?=some d→∀h∈c.1,∀g∈d.1,x g≤x h
 | 0,i,c,d,hc,hd,h,hh,g,hg=>by
  rw [Nat.add_zero,hc] at hd
  cases hd
  have:=S.same (y02 hc) hh hg
  omega
 | n+1,i,c,d,hc,hd,h,hh,g,hg=>by
  have hlt:=(y00.mp hd).1
  have he:L[i+n]?=some (L[i+n]'(by omega)):=y01 (by omega)
  obtain⟨g0,r0,e0⟩:=y2c (S.ne _ (y02 he))
  have m0:g0∈(L[i+n]'(by omega)).1:=by rw [e0]; exact y0d
  have a:=S.falls n i hc he h hh g0 m0
  have b:=S.fall (i+n) _ _ he hd g0 m0 g hg
  omega
theorem Sol.tight (S:Sol wk dr many chores M L x)(v:Int):SH many (fun h=>decide (v≤x h)) x≤IW wk dr chores (fun h=>decide (v≤x h))*M:=by
 unfold IW SH
 rw [←z5k _ S.cp,←z5k _ S.hp,z5v,z5v,z96]
 refine sum_leI fun c hc=>?_
 obtain⟨i,hi⟩:=y09 hc
 have hn:=S.len hc
 obtain⟨h0,r0,e0⟩:=y2c (S.ne c hc)
 have m0:h0∈c.1:=by rw [e0]; exact y0d
 by_cases q:v≤x h0
 ·have one:(c.1.map fun h=>if decide (v≤x h)=true then x h else 0).sum=x h0*(c.1.length:Int):=by
   have:(c.1.map fun h=>if decide (v≤x h)=true then x h else 0)=c.1.map fun _=>x h0*1:=y0j fun h hh=>by
    rw [S.same hc hh m0,if_pos (decide_eq_true q),y3u]
   rw [this,←mul_sum]
   congr 1
   clear this e0 m0 hi hn hc
   induction c.1 with
   | nil=>rfl
   | cons y r ih=>rw [y0h,y0n,ih,y1b]; omega
  have two:(c.2.map fun k=>if (dr k).all (fun h=>decide (v≤x h))=true then wk k else 0).sum=tot wk c:=by
   unfold tot
   congr 1
   refine y0j fun k hk=>if_pos (y2p.mpr fun h hh=>decide_eq_true ?_)
   obtain⟨j,d,hj,hd,hin⟩:=S.up i c hi k hk h hh
   have:=S.falls (i - j) j hd (by rw [show j+(i - j)=i by omega]; exact hi) h hin h0 m0
   omega
  rw [one,two,S.eq c hc h0 m0]
  exact y1u _
 ·have one:(c.1.map fun h=>if decide (v≤x h)=true then x h else 0).sum=0:=by
   have:(c.1.map fun h=>if decide (v≤x h)=true then x h else 0)=c.1.map fun _=>0:=y0j fun h hh=>by
    rw [S.same hc hh m0,if_neg (fun z=>q (of_decide_eq_true z))]
   rw [this]
   clear this e0 m0 hi hn hc
   induction c.1 with
   | nil=>rfl
   | cons y r ih=>rw [y0h,y0n,ih]; rfl
  rw [one]
  refine y2j ?_ (by have:=S.mp; omega)
  have:((c.2.map fun _=>(0:Int))).sum≤(c.2.map fun k=>if (dr k).all (fun h=>decide (v≤x h))=true then wk k else 0).sum:=sum_leI fun k _=>by
   have:=S.wp k
   split<;>omega
  have z:∀l:List Nat,(l.map fun _=>(0:Int)).sum=0:=fun l=>by
   induction l with
   | nil=>rfl
   | cons y r ih=>rw [y0h,y0n,ih]; rfl
  rw [z] at this
  exact this
theorem Sol.level (S:Sol wk dr many chores M L x)(S':Sol wk dr many chores M L' x'){v:Int}(up:∀h<many,(v+1≤x h∨v+1≤x' h)→x h=x' h):∀h<many,v≤x h→x h=x' h:=by
 intro h hh hv
 have a:=S.tight v
 have b:=S'.borne fun h=>decide (v≤x h)
 have c:SH many (fun h=>decide (v≤x h)) x≤SH many (fun h=>decide (v≤x h)) x':=y2x a b
 unfold SH at c
 have k:=sum_eqI (f:=fun h=>if decide (v≤x h)=true then x' h else 0) (g:=fun h=>if decide (v≤x h)=true then x h else 0) (l:=y0b many) (fun g hg=>by
  have hg':=y1e.mp hg
  by_cases q:v≤x g
  ·simp only [decide_eq_true q,if_true]
   have:=up g hg'
   omega
  ·simp only [decide_eq_false q]
   exact y1u _) c h (y1e.mpr hh)
 simp only [decide_eq_true hv,if_true] at k
 exact k.symm
theorem Sol.unique (S:Sol wk dr many chores M L x)(S':Sol wk dr many chores M L' x'):∀h<many,x h=x' h:=by
 obtain⟨V,hV⟩:∃V:Int,∀h<many,x h<V∧x' h<V:=by
  clear S S'
  induction many with
  | zero=>exact⟨0,fun h hh=>by omega⟩
  | succ n ih =>
   obtain⟨V,hV⟩:=ih
   refine⟨(if V≤x n then x n+1 else V)+(if V≤x' n then (if x' n<0 then 0 else x' n)+1+(if V<0 then -V else V)+(if x n<0 then -(x n) else x n) else 0),fun h hh=>?_⟩
   by_cases z:h=n
   ·subst z
    constructor<;>(repeat split)<;>omega
   ·have:=hV h (by omega)
    constructor<;>(repeat split)<;>omega
 have key:∀n:Nat,∀h<many,(V - n≤x h∨V - n≤x' h)→x h=x' h:=by
  intro n
  induction n with
  | zero =>
   intro h hh hv
   have:=hV h hh
   omega
  | succ n ih =>
   intro h hh hv
   have e:V - ((n+1:Nat):Int)+1=V - (n:Int):=by omega
   rcases hv with hv | hv
   ·exact S.level S' (v:=V - ((n+1:Nat):Int)) (fun g hg hv'=>ih g hg (by rw [e] at hv'; exact hv')) h hh hv
   ·exact(S'.level S (v:=V - ((n+1:Nat):Int)) (fun g hg hv'=>(ih g hg (by rw [e] at hv'; exact hv'.symm)).symm) h hh hv).symm
 intro h hh
 refine key (V - x h).toNat h hh (.inl ?_)
 have:=hV h hh
 omega
end
end PM
set_option Elab.async false
set_option linter.all false
set_option maxRecDepth 100000
namespace My
open PySem L2 L2.EX
def z6s:List (Int×Int)→Int
 | []=>1
 | p::r=>p.2*z6s r
theorem z5x:∀{ps:List (Int×Int)},(∀p∈ps,1≤p.2)→0<z6s ps
 | [],_=>by decide
 | p::r,h=>by
  have a:=h p y0d
  have b:=z5x fun q hq=>h q (y0c _ hq)
  show 0<p.2*z6s r
  exact y56 (by omega) b
theorem z3d:∀{ps:List (Int×Int)} {p:Int×Int},p∈ps→p.2∣z6s ps
 | q::r,p,h=>by
  show p.2∣q.2*z6s r
  rcases y0m.mp h with rfl | h
  ·exact y50 _ _
  ·exact y3r (z3d h) (y5a _ _)
theorem zmr {p q:Int×Int}(l1:Low p)(l2:Low q)(e:p.1*q.2=q.1*p.2):p=q:=by
 have a:=(zgj l1.2 e).1
 have b:=(zgj l2.2 e.symm).1
 have h1:=l1.1
 have h2:=l2.1
 have e2:p.2=q.2:=Int.dvd_antisymm (by omega) (by omega) a b
 rw [e2] at e
 have e1:=y2w (by omega) e
 exact Prod.ext e1 e2
def xOf (qs:List (Int×Int))(M:Int)(h:Nat):Int:=(qs.getD h (0,1)).1*(M / (qs.getD h (0,1)).2)
theorem zc0 {qs:List (Int×Int)}{M:Int}{h:Nat}{p:Int×Int}(hp:qs[h]?=some p)(hd:p.2∣M):xOf qs M h*p.2=p.1*M:=by
 unfold xOf
 rw [y07,hp]
 show p.1*(M / p.2)*p.2=p.1*M
 rw [y2y,Int.ediv_mul_cancel hd]
variable {ws:List Int}{drs:List (List Nat)}{many:Nat}{L L':List PM.Cr}{ps ps' qs qs':List (Int×Int)}
theorem z4a {α:Type}{f:PM.Cr→List α}:(L.take L.length).flatMap f=L.flatMap f:=by rw [y08 (y0a _)]
theorem LoadOk.of_hand (lk:LoadOk many L ps qs)(lo:LayOk ws L ps)(co:CrOk ws drs many L)(h0:0<many){h:Nat}(hh:h<many):∃(i:Nat) (c:PM.Cr) (p:Int×Int),L[i]?=some c∧ps[i]?=some p∧h∈c.1∧qs[h]?=some p:=by
 have hm:h∈z57 L L.length:=(z4y co h0).mem_iff.mpr (y1e.mpr hh)
 unfold z57 at hm
 rw [z4a] at hm
 obtain⟨c,hc,hin⟩:=y38.mp hm
 obtain⟨i,hi⟩:=y09 hc
 have hil:=(y00.mp hi).1
 have hp:ps[i]?=some (ps[i]'(by rw [lo.len]; exact hil)):=y01 _
 exact⟨i,c,_,hi,hp,hin,lk.at_ i c _ hi hp h hin⟩
theorem LoadOk.sol (lk:LoadOk many L ps qs)(lo:LayOk ws L ps)(co:CrOk ws drs many L)(h0:0<many)(hp:∀x∈ws,1≤x){M:Int}(hM:0<M)(hd:∀p∈ps,p.2∣M):PM.Sol (z1n ws) (z2k drs) many ws.length M L (xOf qs M):=by
 have K:=co.cr h0
 have pick:∀{i:Nat} {c:PM.Cr},L[i]?=some c→∃p,ps[i]?=some p∧p.2∣M∧Low p∧p.1*(c.1.length:Int)=PM.tot (z1n ws) c*p.2∧∀h∈c.1,xOf qs M h*p.2=p.1*M:=fun {i c} hi=>by
  have hil:=(y00.mp hi).1
  have hp:ps[i]?=some (ps[i]'(by rw [lo.len]; exact hil)):=y01 _
  have a:=lo.at_ i c _ hi hp
  have d:=hd _ (y02 hp)
  exact⟨_,hp,d,a.1,a.2,fun h hh=>zc0 (lk.at_ i c _ hi hp h hh) d⟩
 refine⟨by have:=z4y co h0; unfold z57 at this; rwa [z4a] at this,by have:=z56 co h0; unfold z5p at this; rwa [z4a] at this,fun c hc=>co.rst c hc,K.ne,fun c hc h hh=>?_,K.up,fun i c d hc hd' h hh g hg=>?_,fun k=>z81 hp k,hM⟩
 ·obtain⟨i,hi⟩:=y09 hc
  obtain⟨p,_,_,low,e,ex⟩:=pick hi
  have ex:=ex h hh
  refine y2w (a:=p.2) (by have:=low.1; omega) ?_
  rw [y1o,ex,y1o,e,y1o]
 ·obtain⟨p,hp1,_,low,_,ex⟩:=pick hc
  obtain⟨q,hq1,_,low',_,ey⟩:=pick hd'
  have ex:=ex h hh
  have ey:=ey g hg
  have f:=lo.falls co hp hc hd' hp1 hq1
  have l1:=low.1
  have l2:=low'.1
  have pos:0<p.2*q.2:=y56 (by omega) (by omega)
  refine y2d (a:=p.2*q.2) ?_ (by omega)
  have a1:xOf qs M g*(p.2*q.2)=q.1*p.2*M:=by
   rw [y2l p.2 q.2,←y2y,ey,y1o]
  have a2:xOf qs M h*(p.2*q.2)=p.1*q.2*M:=by
   rw [←y2y,ex,y1o]
  rw [a1,a2]
  exact y28 f hM
theorem LoadOk.qok (lk:LoadOk many L ps qs)(lo:LayOk ws L ps)(co:CrOk ws drs many L)(h0:0<many)(hm:many≤20)(hp:∀x∈ws,1≤x)(hb:∀x∈ws,Bd 300 x)(hw:ws.length≤20):QOk qs∧∀q∈qs,Low q:=by
 have all:∀q∈qs,Low q∧0≤q.1∧q.2≤20∧Bd 400 q.1:=fun q hq=>by
  obtain⟨h,hh⟩:=y09 hq
  have hl:=(y00.mp hh).1
  rw [lk.len] at hl
  obtain⟨i,c,p,h1,h2,h3,h4⟩:=lk.of_hand lo co h0 hl
  rw [hh] at h4
  cases h4
  exact lo.part co hm hp hb hw h1 h2
 exact⟨fun q hq=>⟨(all q hq).1.1,(all q hq).2.2.1,(all q hq).2.1,(all q hq).2.2.2⟩,fun q hq=>(all q hq).1⟩
theorem LoadOk.unique (lk:LoadOk many L ps qs)(lo:LayOk ws L ps)(co:CrOk ws drs many L)(lk':LoadOk many L' ps' qs')(lo':LayOk ws L' ps')(co':CrOk ws drs many L')(h0:0<many)(hp:∀x∈ws,1≤x):qs=qs':=by
 have low:∀{L:List PM.Cr} {ps:List (Int×Int)},LayOk ws L ps→∀p∈ps,Low p:=fun {L ps} lo p hp=>by
  obtain⟨i,hi⟩:=y09 hp
  have hil:=(y00.mp hi).1
  rw [lo.len] at hil
  exact(lo.at_ i _ p (y01 hil) hi).1
 have m1:=z5x fun p hp=>(low lo p hp).1
 have m2:=z5x fun p hp=>(low lo' p hp).1
 have mm:0<z6s ps*z6s ps':=y56 m1 m2
 have s:=lk.sol lo co h0 hp mm fun p hp=>y3r (z3d hp) (y50 _ _)
 have s':=lk'.sol lo' co' h0 hp mm fun p hp=>y3r (z3d hp) (y5a _ _)
 have u:=s.unique s'
 refine y30 fun h=>?_
 by_cases hh:h<many
 ·obtain⟨i,c,p,_,hp1,_,e1⟩:=lk.of_hand lo co h0 hh
  obtain⟨j,d,q,_,hq1,_,e2⟩:=lk'.of_hand lo' co' h0 hh
  have a1:=zc0 e1 (y3r (z3d (y02 hp1)) (y50 _ (z6s ps')))
  have a2:=zc0 e2 (y3r (z3d (y02 hq1)) (y5a (z6s ps) _))
  rw [←u h hh] at a2
  have l1:=low lo p (y02 hp1)
  have l2:=low lo' q (y02 hq1)
  have e:p.1*q.2=q.1*p.2:=by
   refine y2w (a:=z6s ps*z6s ps') (by omega) ?_
   rw [y1o,←a1,y1o,y1o q.1,←a2,y1o]
  rw [e1,e2]
  exact congrArg some (zmr l1 l2 e)
 ·rw [y0z (by rw [lk.len]; omega),y0z (by rw [lk'.len]; omega)]
end My
set_option Elab.async false
set_option linter.all false
set_option maxRecDepth 100000
namespace My
open PySem L2 L2.EX
section
variable {H H' H'':Hp}{vs us:List V}{l:Addr}{o:HO}
end
end My
namespace My
open PySem L2 L2.EX
variable {L:List PM.Cr}{many:Nat}
end My
namespace My
open PySem L2 L2.EX
end My
set_option linter.all false
namespace PM
def ab (l:List Int)(T:Int):Int:=(l.map fun x=>if T<x then x - T else 0).sum
theorem sum_zeroI {α:Type}:∀l:List α,(l.map fun _=>(0:Int)).sum=0
 | []=>rfl
 | x::r=>by rw [y0h,y0n,sum_zeroI r]; rfl
section
variable {wk:Nat→Int}{dr:Nat→List Nat}{many chores:Nat}{M:Int}{L:List Cr}{x o:Nat→Int}
end
end PM
set_option Elab.async false
set_option linter.all false
set_option maxRecDepth 100000
namespace My
open PySem L2 L2.EX
section
variable {X:Cx}{o e:Expr}{es:List Expr}{ta:TE}{t:TA}{apos cpos:Pos}
end
def vl (M:Int)(p:Int×Int):Int:=p.1*(M / p.2)
def FOk (p:Int×Int):Prop:=1≤p.2∧p.2≤60∧0≤p.1∧Bd 400 p.1
def zq3 (lv a p:Int×Int):Int×Int:=if 0<p.1*lv.2 - lv.1*p.2 then (a.1*p.2*lv.2+(p.1*lv.2 - lv.1*p.2)*a.2,a.2*p.2*lv.2) else a
def zpa (qs:List (Int×Int))(lv:Int×Int):Int×Int:=qs.foldl (zq3 lv) (0,1)
theorem z2z {A B:Hp}{b:Addr}(s:Same A B)(h:B b=none):A b=none:=by
 cases hz:A b with
 | none=>rfl
 | some o=>rw [s _ _ hz] at h; cases h
structure SS (way c size j:Nat)(lf:Int)(ss:List Int):Prop where
 len:ss.length=size
 nn:∀x∈ss,0≤x
 sum:ss.sum+lf=60
 lf0:0≤lf
 zero:∀i,j≤i→i<size→ss[i]?=some 0
 w1:way=1→lf=if c<j then 0 else 60
 w2:way=2→lf=60 - (j:Int)*(60 / (size:Int))
theorem zcx:∀{l:List Int},(∀x∈l,0≤x)→0≤l.sum
 | [],_=>by decide
 | x::r,h=>by
  rw [y0n]
  have:=h x y0d
  have:=zcx fun y hy=>h y (y0c _ hy)
  omega
def zs (T:Nat→Bool)(w:Int)(l:List (Nat×Int)):Int:=(l.map fun p=>if T p.1 then w*p.2 else 0).sum
structure Cmp (M:Int)(qs oq:List (Int×Int))(ws:List Int):Prop where
 hM:0<M
 qok:∀p∈qs,FOk p∧p.2∣M
 ook:∀p∈oq,FOk p∧p.2∣M
 len:qs.length=oq.length
 ab:∀T,PM.ab (qs.map (vl M)) T≤PM.ab (oq.map (vl M)) T
 sq:(qs.map fun p=>vl M p*vl M p).sum≤(oq.map fun p=>vl M p*vl M p).sum
 tot:(zpa qs (0,1)).1=ws.sum*(zpa qs (0,1)).2
theorem zbf {α β:Type}(f:α→β)(d:α):∀l:List α,((y0b l.length).map fun h=>f (l.getD h d))=l.map f:=fun l=>by
 refine y30 fun h=>?_
 by_cases c:h<l.length
 ·rw [y06,y06,y1q c,y01 c]
  simp [y07,c]
 ·rw [y0z (by rw [y04,y2i]; omega),y0z (by rw [y04]; omega)]
end My
set_option Elab.async false
set_option linter.all false
set_option maxRecDepth 100000
namespace My
open PySem L2 L2.EX
theorem z43 (f:Nat→Int):∀n,PM.upTo f n=((y0b n).map f).sum
 | 0=>rfl
 | n+1=>by
  rw [y3g,y0g,y20,PM.upTo,z43 f n]
  simp
theorem z4o {l:List Nat}(h:l.Nodup){e a:Nat}(he:l[e]?=some a):l.idxOf a=e:=by
 obtain⟨h1,h2⟩:=y00.mp he
 subst h2
 exact h.idxOf_getElem e h1
theorem zjz {gs ts:List Int}{ties:List (Nat×Nat)}(S:Nat→Bool):PM.bnd (z2f gs.length ts.length ties) (gs++ts) S=PM.upTo (fun e=>if S e then 0 else gs.getD e 0) gs.length+PM.upTo (fun j=>if S (gs.length+j) then ts.getD j 0 else 0) ts.length:=by
 show PM.upTo (fun e=>if PM.side (z2f gs.length ts.length ties) S e then (gs++ts).getD e 0 else 0) (gs.length+ts.length)=_
 rw [PM.upTo_split]
 congr 1
 ·refine PM.upTo_congr fun e he=>?_
  have:PM.side (z2f gs.length ts.length ties) S e = !S e:=by
   unfold PM.side
   exact if_pos he
  rw [this,z4l he]
  cases S e<;>rfl
 ·refine PM.upTo_congr fun e he=>?_
  have:PM.side (z2f gs.length ts.length ties) S (gs.length+e)=S (gs.length+e):=by
   unfold PM.side
   exact if_neg (show ¬gs.length+e<gs.length by omega)
  rw [this,z42]
structure Turned (gs ts:List Int)(ties:List (Nat×Nat))(bg bt:List Nat)(m:Nat)(gs2 ts2:List Int)(turned some':List (Nat×Nat)):Prop where
 hbg:bg.Perm (y0b gs.length)
 hbt:bt.Perm (y0b ts.length)
 lg:gs2.length=gs.length+m
 lt:ts2.length=ts.length+m
 g1:∀e<gs.length,gs2.getD e 0=gs.getD (bg.getD e 0) 0
 g2:∀e,gs.length≤e→gs2.getD e 0=0
 t1:∀e<ts.length,ts2.getD e 0=ts.getD (bt.getD e 0) 0
 t2:∀e,0≤ts2.getD e 0
 hA:∀p'∈turned,∃p∈ties,bg[p'.1]?=some p.1∧bt[p'.2]?=some p.2
 hB:∀p∈ties,∃p'∈turned,bg[p'.1]?=some p.1∧bt[p'.2]?=some p.2
 hs:∀p∈some',gs.length≤p.1∧p.1<gs.length+m∧p.2<ts.length
section
variable {gs ts gs2 ts2 sent spare steps sent' spare' steps':List Int}{ties turned some':List (Nat×Nat)}{bg bt:List Nat}{m:Nat}
end
theorem z8n (l:List Nat):z0a l=(l.map fun (n:Nat)=>(n:Int)).map V.int:=by unfold z0a; rw [y26]; rfl
theorem zma {l:List Nat}{i n:Nat}(h:l[i]?=some n):atI (z0a l) (i:Int)=some (.int (n:Int)):=z28 (zek h)
theorem zn0 {l:List Nat}{n j:Nat}(h:(l.map fun (n:Nat)=>(n:Int))[j]?=some (n:Int)):l[j]?=some n:=by
 rw [y06] at h
 cases q:l[j]? with
 | none=>rw [q] at h; cases h
 | some x =>
  rw [q] at h
  simp at h
  exact congrArg some (by omega)
structure TurnP (ties:List (Nat×Nat))(bg bt bi:List Nat)(tn:List (Nat×Nat)):Prop where
 at_:∀(k:Nat) p',tn[k]?=some p'→∃(a:Nat) (p:Nat×Nat),bi[k]?=some a∧ties[a]?=some p∧bg[p'.1]?=some p.1∧bt[p'.2]?=some p.2
end My
set_option linter.all false
namespace PM
structure Ev (own:(Nat→Bool)→Int)(many:Nat)(x:Nat→Int):Prop where
 borne:∀T,own T≤SH many T x
 tight:∀v:Int,SH many (fun h=>decide (v≤x h)) x≤own fun h=>decide (v≤x h)
section
variable {wk:Nat→Int}{dr:Nat→List Nat}{chores:Nat}
end
theorem Sol.ev {wk:Nat→Int}{dr:Nat→List Nat}{many chores:Nat}{M:Int}{L:List Cr}{x:Nat→Int}(S:Sol wk dr many chores M L x):Ev (fun T=>IW wk dr chores T*M) many x:=⟨S.borne,S.tight⟩
end PM
set_option Elab.async false
set_option linter.all false
set_option maxRecDepth 100000
namespace L2.EX
section
variable {X:Cx}
open PySem
def zpb (x y:V)(H:Hp)(Q:VK):Prop:=match y with
 | .non=>Q (.bl (!decide (x = .non))) H
 | _=>False
end
end L2.EX
namespace My
open PySem L2 L2.EX
def zpz (ws:List Int)(drs:List (List Nat))(M:Int)(T:Nat→Bool):Int:=PM.IW (z1n ws) (z2k drs) ws.length T*M
def zqa (p:Int×Int):Prop:=Low p∧0≤p.1∧p.2≤20∧Bd 400 p.1
structure Borns (ws:List Int)(drs:List (List Nat))(many:Nat)(qs:List (Int×Int)):Prop where
 len:qs.length=many
 ok:∀q∈qs,zqa q
 ev:∃D:Int,0<D∧(∀q∈qs,q.2∣D)∧∀M:Int,0<M→D∣M→PM.Ev (zpz ws drs M) many (xOf qs M)
theorem zif {ws:List Int}{drs:List (List Nat)}{many:Nat}{L:List PM.Cr}{ps qs:List (Int×Int)}(co:CrOk ws drs many L)(lo:LayOk ws L ps)(lk:LoadOk many L ps qs)(h0:0<many)(hm:many≤20)(hp:∀x∈ws,1≤x)(hb:∀x∈ws,Bd 300 x)(hw:ws.length≤20):Borns ws drs many qs:=by
 obtain⟨qok,qlow⟩:=lk.qok lo co h0 hm hp hb hw
 have low:∀p∈ps,1≤p.2:=fun p hp=>by
  obtain⟨i,hi⟩:=y09 hp
  have hil:=(y00.mp hi).1
  rw [lo.len] at hil
  exact(lo.at_ i _ p (y01 hil) hi).1.1
 refine⟨lk.len,fun q hq=>⟨qlow q hq,(qok q hq).2.2.1,(qok q hq).2.1,(qok q hq).2.2.2⟩,z6s ps,z5x low,fun q hq=>?_,fun M hM hd=>?_⟩
 ·obtain⟨h,hh⟩:=y09 hq
  have hl:=(y00.mp hh).1
  rw [lk.len] at hl
  obtain⟨i,c,p,_,h2,_,h4⟩:=lk.of_hand lo co h0 hl
  rw [hh] at h4
  cases h4
  exact z3d (y02 h2)
 ·exact(lk.sol lo co h0 hp hM fun p hp=>y3r (z3d hp) hd).ev
section
variable {ws ws':List Int}{drs drs':List (List Nat)}{many:Nat}{qs qs':List (Int×Int)}
theorem zl9 {ws:List Int}{k:Nat}(h:k<ws.length):z1n ws k=ws.getD k 0:=if_pos h
end
structure TArgs (K:y03)(H:Hp)(a aw ad al:Addr)(ns ws:List Int)(drs:List (List Nat))(many:Nat)(qs:List (Int×Int)):Prop where
 s:SqL K H a (ns.map V.int)
 ask:AsksC K H aw ad ws drs
 rows:RowsOk ws.length many drs
 works:∀x∈ws,x≤10^60+1000
 h0:0<many
 h5:many≤5
 few:ws.length≤6
 isf:Is K H (.ref al) (zm5 qs)
 b:Borns ws drs many qs
theorem zc3 {l:List Nat}{ms:List Int}(hp:ms.Perm (l.map fun (x:Nat)=>(x:Int))):∃r:List Nat,ms.map V.int=z0a r∧r.Perm l:=by
 have e:(ms.map y42).Perm l:=by
  have:=hp.map y42
  rw [y26] at this
  have i:l.map (y42∘fun (x:Nat)=>(x:Int))=l:=by
   conv=>rhs; rw [←List.map_id l]
   exact y0j fun x _=>by simp
  rw [i] at this
  exact this
 refine⟨ms.map y42,?_,e⟩
 unfold z0a
 rw [y26]
 refine y0j fun x hx=>?_
 obtain⟨n,_,rfl⟩:=y1h.mp (hp.mem_iff.mp hx)
 simp
end My
set_option linter.all false
namespace PM
end PM
set_option Elab.async false
set_option linter.all false
set_option maxRecDepth 100000
namespace My
open PySem L2 L2.EX
theorem zlx (ns:List Int)(a n:Nat):∃ms:List Int,zec (ns.map V.int) (some (a:Int)) (some ((a:Int)+(n:Int)))=ms.map V.int∧ms.length≤n∧ms.length≤ns.length:=by
 unfold zec
 rw [show(a:Int)+(n:Int)=((a+n:Nat):Int) by omega,HT.sIx_nat,HT.sIx_nat]
 refine⟨(ns.drop (min a (ns.map V.int).length)).take (min (a+n) (ns.map V.int).length - min a (ns.map V.int).length),?_,?_,?_⟩
 ·rw [y77,y78]
 ·rw [y0v,y44]
  omega
 ·rw [y0v,y44]
  omega
def zfb:Sp:=fun vs H Q _=>∃c:Int,vs = [.int c]∧∀z:Int,1≤z→z≤10^60→Q (.int z) H
def zeq:Sp:=fun vs H Q _=>∃(c:Int) (many:Nat) (th:Bool),vs = [.int c,.int (many:Int),.bl th]∧1≤many∧many≤12∧∀(r:Addr) (row:List Nat) (H':Hp),row ≠ []→row.Pairwise (· < ·)→(∀h∈row,h<many)→H r=none→Same H H'→H' r=some (.lst (z0a row))→Q (.ref r) H'
structure CrowdA (K:y03)(H:Hp)(aw ad:Addr)(ws:List Int)(drs:List (List Nat))(many:Nat):Prop where
 ask:AsksC K H aw ad ws drs
 rows:RowsOk ws.length many drs
 works:∀x∈ws,x≤10^60
 h0:0<many
 h12:many≤12
 few:ws.length≤8
theorem CrowdA.same {K:y03}{H H':Hp}{aw ad:Addr}{ws:List Int}{drs:List (List Nat)}{many:Nat}(c:CrowdA K H aw ad ws drs many)(s:Same H H'):CrowdA K H' aw ad ws drs many:=⟨c.ask.same s,c.rows,c.works,c.h0,c.h12,c.few⟩
def zh6 (K:y03):Sp:=fun vs H Q _=>∃(a:Addr) (ns:List Int),vs = [.ref a]∧SqL K H a (ns.map V.int)∧ns.length≤63∧∀(p aw ad:Addr) (ws:List Int) (drs:List (List Nat)) (many:Nat) (H':Hp),CrowdA K H' aw ad ws drs many→Same H H'→H' p=some (.tup [.ref aw,.ref ad,.int (many:Int)])→Q (.ref p) H'
theorem zfm {K:y03}{H:Hp}{lw ld u:Addr}{O:HO}(h1:H lw=none)(h2:upd H lw (.lst []) ld=none)(h3:upd (upd H lw (.lst [])) ld (.lst []) u=none):Two K (upd H u O) (upd (upd (upd H lw (.lst [])) ld (.lst [])) u O) lw ld [] [] [] []∧u≠lw∧u≠ld∧H u=none:=by
 have n1:ld≠lw:=fun z=>by rw [z,z01] at h2; cases h2
 have n2:u≠ld:=fun z=>by rw [z,z01] at h3; cases h3
 have n3:u≠lw:=fun z=>by rw [z,z09 n1.symm,z01] at h3; cases h3
 have hld:H ld=none:=by rw [z09 n1] at h2; exact h2
 have hu:H u=none:=by rw [z09 n2,z09 n3] at h3; exact h3
 refine⟨⟨n1.symm,fun b o hb=>?_,?_,?_,z0q,z0q⟩,n3,n2,hu⟩
 ·by_cases z:b=u
  ·subst z
   rw [z3n n3 n2,z01]
   rw [z01] at hb
   exact hb
  ·rw [z09 z] at hb
   have m1:=z06 hb h1
   have m2:=z06 hb hld
   rw [z3n m1 m2,z09 z,z09 m2,z09 m1]
   exact hb
 ·rw [z09 n3.symm,z09 n1.symm,z01]
 ·rw [z09 n2.symm,z01]
theorem zkf {P:Bool→Prop}{c b:Bool}(h:∀th,P th):if c=true then P true else P b:=by
 split
 ·exact h _
 ·exact h _
theorem zel {l:List Nat}{ms:List Int}(nd:l.Nodup)(hp:ms.Perm (l.map fun (x:Nat)=>(x:Int)))(hs:ms.Pairwise (·≤·)):∃r:List Nat,ms.map V.int=z0a r∧r.Perm l∧r.Pairwise (· < ·):=by
 obtain⟨r,e,p⟩:=zc3 hp
 refine⟨r,e,p,?_⟩
 have em:ms=r.map fun (x:Nat)=>(x:Int):=by
  rw [z8n] at e
  exact List.map_inj_right (fun x y h=>by cases h; rfl) |>.mp e
 rw [em,y6h] at hs
 have nr:r.Nodup:=p.nodup_iff.mpr nd
 exact(hs.and nr).imp fun h=>by omega
def za0 (j many:Nat):List Nat:=if 2≤many then [j % many,(j+1) % many] else [j % many]
theorem zi0 {j many:Nat}(h0:0<many):(za0 j many).Nodup∧za0 j many ≠ []∧∀h∈za0 j many,h<many:=by
 unfold za0
 have a:=y74 j h0
 have b:=y74 (j+1) h0
 split
 ·rename_i h2
  refine⟨?_,by simp,fun h hh=>?_⟩
  ·have:j % many≠(j+1) % many:=fun z=>by
    have e:(j+1) % many=(j % many+1) % many:=by rw [Nat.add_mod,y6r (show 1<many by omega)]
    rw [e] at z
    by_cases w:j % many+1<many
    ·rw [y6r w] at z
     omega
    ·have w':j % many+1=many:=by omega
     rw [w',Nat.mod_self] at z
     omega
   simp [this]
  ·simp at hh
   omega
 ·exact⟨by simp,by simp,fun h hh=>by simp at hh; omega⟩
theorem zj3 {j many:Nat}(h0:0<many):zec [V.int ((j:Int) % (many:Int)),V.int (((j:Int)+1) % (many:Int))] none (some (if (2:Int)<(many:Int) then 2 else (many:Int)))=((za0 j many).map fun (x:Nat)=>(x:Int)).map V.int:=by
 obtain⟨m,hm⟩:∃m:Nat,(if (2:Int)<(many:Int) then (2:Int) else (many:Int))=(m:Int):=by
  split
  ·exact⟨2,rfl⟩
  ·exact⟨many,rfl⟩
 rw [hm,zg5]
 unfold za0
 have e1:(j:Int) % (many:Int)=((j % many:Nat):Int):=by omega
 have e2:((j:Int)+1) % (many:Int)=(((j+1) % many:Nat):Int):=by
  rw [show(j:Int)+1=((j+1:Nat):Int) by omega]
  omega
 rw [e1,e2]
 split
 ·rename_i h2
  have:m=2:=by split at hm<;>omega
  subst this
  rfl
 ·rename_i h2
  have:m=1:=by split at hm<;>omega
  subst this
  rfl
structure ShOk (M:Int)(drs:List (List Nat))(many:Nat)(shs:List (List (Int×Int))):Prop where
 len:shs.length=drs.length
 few:drs.length≤20
 row:∀(i:Nat) r s,drs[i]?=some r→shs[i]?=some s→s.length=r.length∧r.length≤12∧∀h∈r,h<many
 ok:∀s∈shs,∀p∈s,Low p∧p.2∣M∧Bd 600 p.1
 hM:0<M
 bM:Bd 600 M
def FV (M:Int)(p:Int×Int)(X:Int):Prop:=Low p∧p.1*M=p.2*X
section
variable {M:Int}{p q:Int×Int}{X Y:Int}
end
structure FVs (M:Int)(ps:List (Int×Int))(Xs:List Int):Prop where
 len:ps.length=Xs.length
 at_:∀(i:Nat) p X,ps[i]?=some p→Xs[i]?=some X→FV M p X
 hM:0<M
 bM:Bd 600 M
 bX:∀X∈Xs,Bd 1220 X
 few:Xs.length≤30
structure Deal (M:Int)(ws:List Int)(drs:List (List Nat))(shs:List (List (Int×Int))):Prop where
 len:shs.length=drs.length
 at_:∀(i:Nat) r s,drs[i]?=some r→shs[i]?=some s→s.length=r.length∧(s.map (vl M)).sum=ws.getD i 0*M
 ok:∀s∈shs,∀p∈s,Low p∧0≤p.1∧p.2∣M∧Bd 300 p.1
structure Both (M:Int)(qs oq:List (Int×Int))(Xs Os:List Int)(w:Int):Prop where
 f1:FVs M qs Xs
 f2:FVs M oq Os
 b1:∀X∈Xs,Bd 1200 X
 b2:∀X∈Os,Bd 1200 X
 len:Xs.length=Os.length
 l12:Xs.length≤12
 pos:0<Xs.length
 s1:Xs.sum=w*M
 s2:Os.sum=w*M
 ab:∀T,PM.ab Xs T≤PM.ab Os T
 d:232792560∣M
end My
set_option linter.all false
namespace PM
section
variable {α:Type}
def putT (R:List (List α))(t:Nat×Nat × α):List (List α):=R.set t.1 ((R.getD t.1 []).set t.2.1 t.2.2)
def at2 (no:α)(R:List (List α))(x k:Nat):α:=(R.getD x []).getD k no
def S2 (no:α)(n:Nat)(ln:Nat→Nat)(W:Nat→Nat→α→Int)(R:List (List α)):Int:=((y0b n).map fun x=>((y0b (ln x)).map fun k=>W x k (at2 no R x k)).sum).sum
def Shp (n:Nat)(ln:Nat→Nat)(R:List (List α)):Prop:=R.length=n∧∀x<n,(R.getD x []).length=ln x
variable {no:α}{n:Nat}{ln:Nat→Nat}{W:Nat→Nat→α→Int}{R:List (List α)}
theorem z85 {β:Type}{l:List β}{i j:Nat}{v d:β}(h:i<l.length):(l.set i v).getD j d=if j=i then v else l.getD j d:=by
 by_cases c:j=i
 ·subst c
  rw [if_pos rfl,y07,y0t h]
  rfl
 ·rw [if_neg c,y07,y11 (by omega),y07]
theorem Shp.put (s:Shp n ln R){x k:Nat}{a:α}(hx:x<n):Shp n ln (putT R (x,k,a)):=by
 refine⟨by unfold putT; rw [y22]; exact s.1,fun y hy=>?_⟩
 unfold putT
 rw [z85 (by rw [s.1]; exact hx)]
 split
 ·rename_i c
  subst c
  rw [y22]
  exact s.2 y hy
 ·exact s.2 y hy
theorem z9f (s:Shp n ln R){x k:Nat}{a:α}(hx:x<n)(hk:k<ln x)(y j:Nat):at2 no (putT R (x,k,a)) y j=if y=x∧j=k then a else at2 no R y j:=by
 unfold at2 putT
 rw [z85 (by rw [s.1]; exact hx)]
 by_cases c:y=x
 ·subst c
  rw [if_pos rfl,z85 (by rw [s.2 y hx]; exact hk)]
  by_cases d:j=k
  ·rw [if_pos d,if_pos ⟨rfl,d⟩]
  ·rw [if_neg d,if_neg (fun z=>d z.2)]
 ·rw [if_neg c,if_neg (fun z=>c z.1)]
theorem sum_oneN (F F':Nat→Int)(g:Nat)(h:∀k,k≠g→F' k=F k):∀n:Nat,g<n→((y0b n).map F').sum=((y0b n).map F).sum+(F' g - F g)
 | 0,hn=>by omega
 | n+1,hn=>by
  rw [y3g,y0g,y0g,y20,y20]
  simp only [y0h,y3c,y0n,List.sum_nil,y5k]
  by_cases c:n=g
  ·subst c
   have:(y0b n).map F'=(y0b n).map F:=y0j fun k hk=>h k (by have:=y1e.mp hk; omega)
   rw [this]
   omega
  ·rw [sum_oneN F F' g h n (by omega),h n c]
   omega
theorem zml (s:Shp n ln R){x k:Nat}{a:α}(hx:x<n)(hk:k<ln x):S2 no n ln W (putT R (x,k,a))=S2 no n ln W R+(W x k a - W x k (at2 no R x k)):=by
 unfold S2
 rw [sum_oneN (fun y=>((y0b (ln y)).map fun j=>W y j (at2 no R y j)).sum) (fun y=>((y0b (ln y)).map fun j=>W y j (at2 no (putT R (x,k,a)) y j)).sum) x (fun y hy=>by
  show((y0b (ln y)).map fun j=>W y j (at2 no (putT R (x,k,a)) y j)).sum=_
  congr 1
  refine y0j fun j _=>?_
  rw [z9f s hx hk,if_neg (fun z=>hy z.1)]) n hx]
 rw [sum_oneN (fun j=>W x j (at2 no R x j)) (fun j=>W x j (at2 no (putT R (x,k,a)) x j)) k (fun j hj=>by
  show W x j (at2 no (putT R (x,k,a)) x j)=_
  rw [z9f s hx hk,if_neg (fun z=>hj z.2)]) (ln x) hk]
 rw [z9f s hx hk,if_pos ⟨rfl,rfl⟩]
 omega
theorem fold_S2 (w0:∀x k,W x k no=0):∀(T:List (Nat×Nat × α)) (R:List (List α)),Shp n ln R→(∀t∈T,t.1<n∧t.2.1<ln t.1)→T.Pairwise (fun t u=>¬(t.1=u.1∧t.2.1=u.2.1))→(∀t∈T,at2 no R t.1 t.2.1=no)→Shp n ln (T.foldl putT R)∧S2 no n ln W (T.foldl putT R)=S2 no n ln W R+(T.map fun t=>W t.1 t.2.1 t.2.2).sum
 | [],R,s,_,_,_=>⟨s,by simp⟩
 | t::T,R,s,hb,hp,hn=>by
  obtain⟨b1,b2⟩:=hb t y0d
  have hp':=y3q.mp hp
  have s':Shp n ln (putT R t):=s.put (x:=t.1) (k:=t.2.1) (a:=t.2.2) b1
  obtain⟨r1,r2⟩:=fold_S2 w0 T (putT R t) s' (fun u hu=>hb u (y0c _ hu)) hp'.2 (fun u hu=>by
   have e:at2 no (putT R t) u.1 u.2.1=_:=z9f (x:=t.1) (k:=t.2.1) (a:=t.2.2) s b1 b2 u.1 u.2.1
   rw [e,if_neg (fun z=>hp'.1 u hu ⟨z.1.symm,z.2.symm⟩)]
   exact hn u (y0c _ hu))
  refine⟨r1,?_⟩
  have e:S2 no n ln W (putT R t)=_:=zml (x:=t.1) (k:=t.2.1) (a:=t.2.2) s b1 b2
  rw [y3m,r2,e,y0h,y0n,hn t y0d,w0]
  omega
theorem fold_all {P:α→Prop}(p0:P no):∀(T:List (Nat×Nat × α)) (R:List (List α)),(∀t∈T,P t.2.2)→(∀r∈R,∀a∈r,P a)→∀r∈T.foldl putT R,∀a∈r,P a
 | [],R,_,h=>h
 | t::T,R,ht,h=>by
  rw [y3m]
  refine fold_all p0 T (putT R t) (fun u hu=>ht u (y0c _ hu)) fun r hr a ha=>?_
  unfold putT at hr
  rcases y4q hr with z | z
  ·exact h r z a ha
  ·rw [z] at ha
   rcases y4q ha with y | y
   ·by_cases c:t.1<R.length
    ·refine h (R.getD t.1 []) ?_ a y
     rw [y07,y01 c]
     exact y36 c
    ·rw [y07,y0z (by omega)] at y
     cases y
   ·rw [y]
    exact ht t y0d
end
theorem sum_only {β:Type}{F:β→Int}:∀{l:List β} {i:Nat} {y:β},l[i]?=some y→(∀(j:Nat) z,l[j]?=some z→j≠i→F z=0)→(l.map F).sum=F y
 | x::r,0,y,h,k=>by
  cases h
  rw [y0h,y0n]
  have:(r.map F).sum=0:=by
   have:∀z∈r,F z=0:=fun z hz=>by
    obtain⟨j,hj⟩:=y09 hz
    exact k (j+1) z (by simpa using hj) (by omega)
   rw [y0j this,sum_zeroI]
  omega
 | x::r,i+1,y,h,k=>by
  rw [y0h,y0n,k 0 x rfl (by omega),y33]
  exact sum_only (i:=i) (by simpa using h) fun j z hj hn=>k (j+1) z (by simpa using hj) (by omega)
theorem load_zip:∀(ends:List (Nat×Nat)) (sent:List Int) (e:Nat),load ends sent e=((ends.zip sent).map fun q=>if inc q.1 e then q.2 else 0).sum
 | [],_,_=>by simp [load]
 | _::_,[],_=>by simp [load]
 | p::r,s::q,e=>by
  rw [load,y4l,y0h,y0n,load_zip r q e]
end PM
set_option Elab.async false
set_option linter.all false
set_option maxRecDepth 100000
namespace My
open PySem L2 L2.EX
theorem z68 {f g:Nat→Int}{n:Nat}(h:∀e<n,f e≤g e)(k:PM.upTo g n≤PM.upTo f n):∀e<n,f e=g e:=by
 rw [z43,z43] at k
 intro e he
 exact PM.sum_eqI (fun x hx=>h x (y1e.mp hx)) k e (y1e.mpr he)
section
variable {gs ts sent spare steps:List Int}{ties:List (Nat×Nat)}
theorem z73 {G T:Nat}:(z2f G T ties).ends=ties.map fun p=>(p.1,G+p.2):=rfl
theorem zd1 (W:(z2f gs.length ts.length ties).WF)(F:PM.Flow (z2f gs.length ts.length ties) (gs++ts) sent spare)(b:Bool):PM.upTo (fun e=>if decide (e<gs.length)=b then PM.load (z2f gs.length ts.length ties).ends sent e else 0) (gs.length+ts.length)=sent.sum:=by
 have lo:=PM.load_over (S:=fun e=>decide (decide (e<gs.length)=b)) W.two F.ls
 have e1:PM.upTo (fun e=>if decide (e<gs.length)=b then PM.load (z2f gs.length ts.length ties).ends sent e else 0) (gs.length+ts.length)=PM.upTo (fun e=>if decide (decide (e<gs.length)=b)=true then PM.load (z2f gs.length ts.length ties).ends sent e else 0) (gs.length+ts.length):=PM.upTo_congr fun e he=>by
  by_cases c:decide (e<gs.length)=b
  ·rw [if_pos c,if_pos (decide_eq_true c)]
  ·rw [if_neg c,if_neg (fun z=>c (of_decide_eq_true z))]
 rw [e1]
 refine lo.trans ?_
 rw [←PM.zip_snd F.ls]
 congr 1
 refine y0j fun q hq=>?_
 obtain⟨k,hk⟩:=y09 (y1i hq).1
 have:=W.lo k q.1 hk
 have g1:q.1.1<gs.length:=this.1
 have g2:¬q.1.2<gs.length:=by have:=this.2.1; show ¬_; exact y73.mpr this
 rw [decide_eq_true g1,decide_eq_false g2]
 cases b<;>simp
theorem zdp (W:(z2f gs.length ts.length ties).WF)(F:PM.Flow (z2f gs.length ts.length ties) (gs++ts) sent spare)(h:gs.sum≤sent.sum):∀g<gs.length,PM.load (z2f gs.length ts.length ties).ends sent g=gs.getD g 0:=by
 have s:=zd1 W F true
 have k:=z68 (f:=fun e=>if decide (e<gs.length)=true then PM.load (z2f gs.length ts.length ties).ends sent e else 0) (g:=fun e=>if decide (e<gs.length)=true then (gs++ts).getD e 0 else 0) (n:=gs.length+ts.length) (fun e he=>by
  split
  ·exact(F.load_le he).1
  ·exact y1u _) (by
  rw [s,PM.upTo_split]
  have z:PM.upTo (fun e=>if decide (gs.length+e<gs.length)=true then (gs++ts).getD (gs.length+e) 0 else 0) ts.length=0:=by
   rw [PM.upTo_congr (g:=fun _=>0) fun e _=>if_neg (by simp),PM.upTo_zero]
  have y:PM.upTo (fun e=>if decide (e<gs.length)=true then (gs++ts).getD e 0 else 0) gs.length=gs.sum:=by
   rw [PM.upTo_congr (g:=fun e=>gs.getD e 0) fun e he=>by rw [if_pos (decide_eq_true he),z4l he],z43]
   have:=zbf (fun x:Int=>x) 0 gs
   rw [this,List.map_id']
  rw [z,y]
  omega)
 intro g hg
 have:=k g (by omega)
 rw [decide_eq_true hg,if_pos rfl,if_pos rfl,z4l hg] at this
 exact this
theorem zdn (W:(z2f gs.length ts.length ties).WF)(F:PM.Flow (z2f gs.length ts.length ties) (gs++ts) sent spare)(h:ts.sum≤sent.sum):∀t<ts.length,PM.load (z2f gs.length ts.length ties).ends sent (gs.length+t)=ts.getD t 0:=by
 have s:=zd1 W F false
 have k:=z68 (f:=fun e=>if decide (e<gs.length)=false then PM.load (z2f gs.length ts.length ties).ends sent e else 0) (g:=fun e=>if decide (e<gs.length)=false then (gs++ts).getD e 0 else 0) (n:=gs.length+ts.length) (fun e he=>by
  split
  ·exact(F.load_le he).1
  ·exact y1u _) (by
  rw [s,PM.upTo_split]
  have z:PM.upTo (fun e=>if decide (e<gs.length)=false then (gs++ts).getD e 0 else 0) gs.length=0:=by
   rw [PM.upTo_congr (g:=fun _=>0) fun e he=>if_neg (by simp [he]),PM.upTo_zero]
  have y:PM.upTo (fun e=>if decide (gs.length+e<gs.length)=false then (gs++ts).getD (gs.length+e) 0 else 0) ts.length=ts.sum:=by
   rw [PM.upTo_congr (g:=fun e=>ts.getD e 0) fun e he=>by rw [if_pos (by simp),z42],z43]
   have:=zbf (fun x:Int=>x) 0 ts
   rw [this,List.map_id']
  rw [z,y]
  omega)
 intro t ht
 have:=k (gs.length+t) (by omega)
 rw [decide_eq_false (by omega),if_pos rfl,if_pos rfl,z42] at this
 exact this
theorem zih {ws:List Int}{drs:List (List Nat)}{c:PM.Cr}(hn:c.1.Nodup)(cn:c.2.Nodup)(rst:zl1 ws drs c)(wp:∀x∈ws,1≤x)(lg:gs.length=c.2.length)(D:PM.Done (z2f gs.length ts.length (z0j drs c.1 c.2)) (gs++ts) sent spare steps) :
  ∃nh:Nat→Bool,(c.1.length:Int)*PM.upTo (fun g=>if PM.nr steps g then z1n ws (c.2.getD g 0) else 0) c.2.length≤PM.tot (z1n ws) c*PM.cnt c nh∧PM.cnt c nh≤c.1.length∧0≤PM.cnt c nh∧∀v:Int,PM.upTo (fun j=>if PM.nr steps (gs.length+j) then v else 0) c.1.length=v*PM.cnt c nh:=by
 refine⟨fun h=>PM.nr steps (gs.length+c.1.idxOf h),?_,?_,?_,fun v=>?_⟩
 ·have hi:=rst fun h=>PM.nr steps (gs.length+c.1.idxOf h)
  refine y2x (y1v ?_ (by omega)) hi
  have e:PM.upTo (fun g=>if PM.nr steps g then z1n ws (c.2.getD g 0) else 0) c.2.length=(c.2.map fun x=>if PM.nr steps (c.2.idxOf x) then z1n ws x else 0).sum:=by
   rw [←PM.upTo_list]
   refine PM.upTo_congr fun g hg=>?_
   rw [z4o cn (PM.get_of_lt hg)]
  rw [e]
  unfold PM.inside
  refine PM.sum_leI fun x hx=>?_
  have wpx:=z81 wp x
  by_cases z:PM.nr steps (c.2.idxOf x)=true
  ·have all:(c.1.all fun h=>(!(z2k drs x).contains h||PM.nr steps (gs.length+c.1.idxOf h)))=true:=y2p.mpr fun h hh=>by
    cases q:(z2k drs x).contains h with
    | false=>rfl
    | true =>
     have hm:=y1t.mp q
     have lx:=y1m hx
     have lh:=y1m hh
     have gx:c.2[c.2.idxOf x]?=some x:=by rw [y01 lx]; simp
     have gh:c.1[c.1.idxOf h]?=some h:=by rw [y01 lh]; simp
     have tie:(c.2.idxOf x,c.1.idxOf h)∈z0j drs c.1 c.2:=(z1u hn _ _).mpr ⟨x,h,gx,gh,hm⟩
     obtain⟨k,hk⟩:=y09 tie
     have t:PM.Tie (z2f gs.length ts.length (z0j drs c.1 c.2)) (c.2.idxOf x) k (gs.length+c.1.idxOf h):=⟨(c.2.idxOf x,gs.length+c.1.idxOf h),by rw [z73,y06,hk]; rfl,.inl ⟨rfl,rfl⟩⟩
     have:=D.ties _ _ _ t (show c.2.idxOf x<gs.length by omega) z
     rw [this]
     rfl
   rw [if_pos z,if_pos all]
   exact y1u _
  ·rw [if_neg z]
   split<;>omega
 ·unfold PM.cnt
  have:∀l:List Nat,(l.map fun h=>if PM.nr steps (gs.length+c.1.idxOf h)=true then (1:Int) else 0).sum≤l.length:=fun l=>by
   induction l with
   | nil=>simp
   | cons x r ih =>
    rw [y0h,y0n,y1b]
    split<;>omega
  exact this c.1
 ·unfold PM.cnt
  refine zcx fun x hx=>?_
  obtain⟨y,_,rfl⟩:=y1h.mp hx
  split<;>omega
 ·unfold PM.cnt
  rw [PM.mul_sum,←PM.upTo_list]
  refine PM.upTo_congr fun g hg=>?_
  show _=v*if PM.nr steps (gs.length+List.idxOf (c.1.getD g 0) c.1)=true then 1 else 0
  rw [z4o hn (PM.get_of_lt hg)]
  split
  ·rw [y3u]
  ·rw [Int.mul_zero]
theorem ziq {c:PM.Cr}{wk:Nat→Int}:PM.upTo (fun g=>wk (c.2.getD g 0)) c.2.length=PM.tot wk c:=PM.upTo_list _
theorem zj2 (S:Nat→Bool)(f:Nat→Int)(n:Nat):PM.upTo (fun g=>if S g then 0 else f g) n=PM.upTo f n - PM.upTo (fun g=>if S g then f g else 0) n:=by
 induction n with
 | zero=>rfl
 | succ n ih =>
  show PM.upTo (fun g=>if S g then 0 else f g) n+(if S n then 0 else f n)=(PM.upTo f n+f n) - (PM.upTo (fun g=>if S g then f g else 0) n+(if S n then f n else 0))
  rw [ih]
  split<;>omega
theorem z5j {n:Nat}{v:Int}{j:Nat}(h:j<n):(y05 n v).getD j 0=v:=by
 rw [y07,y1f,if_pos h]
 rfl
theorem z92 {ws:List Int}{drs:List (List Nat)}{c:PM.Cr}{v:Int}(hn:c.1.Nodup)(cn:c.2.Nodup)(rst:zl1 ws drs c)(wp:∀x∈ws,1≤x)(n0:0<c.1.length)(hi:∀x∈c.2,x<ws.length)
  (D:PM.Done (z2f (c.2.map fun x=>ws.getD x 0).length (y05 c.1.length v).length (z0j drs c.1 c.2)) ((c.2.map fun x=>ws.getD x 0)++y05 c.1.length v) sent spare steps) :
  (v*c.1.length≤PM.tot (z1n ws) c→0≤v→v*c.1.length≤sent.sum)∧(PM.tot (z1n ws) c≤v*c.1.length→PM.tot (z1n ws) c≤sent.sum):=by
 have lg:(c.2.map fun x=>ws.getD x 0).length=c.2.length:=y04 ..
 have lt:(y05 c.1.length v).length=c.1.length:=y0x ..
 have W:=z5u (G:=(c.2.map fun x=>ws.getD x 0).length) (T:=(y05 c.1.length v).length) (ties:=z0j drs c.1 c.2) fun p hp=>by
  obtain⟨x,h,h1,h2,_⟩:=(z1u hn p.1 p.2).mp hp
  rw [lg,lt]
  exact⟨(y00.mp h1).1,(y00.mp h2).1⟩
 obtain⟨nh,k1,k2,k3,k4⟩:=zih hn cn rst wp lg D
 have b:=D.bnd W
 rw [zjz,lg,lt] at b
 have e1:PM.upTo (fun e=>if PM.nr steps e=true then 0 else (c.2.map fun x=>ws.getD x 0).getD e 0) c.2.length=PM.tot (z1n ws) c - PM.upTo (fun g=>if PM.nr steps g=true then z1n ws (c.2.getD g 0) else 0) c.2.length:=by
  rw [←ziq,←zj2]
  refine PM.upTo_congr fun g hg=>?_
  have:(c.2.map fun x=>ws.getD x 0).getD g 0=z1n ws (c.2.getD g 0):=by
   rw [y07,y06,PM.get_of_lt hg]
   show ws.getD (c.2.getD g 0) 0=_
   rw [zl9 (hi _ (y02 (PM.get_of_lt hg)))]
  rw [this]
 have e2:PM.upTo (fun j=>if PM.nr steps (c.2.length+j)=true then (y05 c.1.length v).getD j 0 else 0) c.1.length=v*PM.cnt c nh:=by
  rw [←k4 v,lg]
  refine PM.upTo_congr fun j hj=>?_
  rw [z5j hj]
 rw [e1,e2] at b
 generalize PM.upTo (fun g=>if PM.nr steps g=true then z1n ws (c.2.getD g 0) else 0) c.2.length=A at k1 b
 generalize PM.cnt c nh=m at k1 k2 k3 b
 generalize PM.tot (z1n ws) c=t at *
 generalize hN:(c.1.length:Int)=N at *
 have N0:0<N:=by omega
 constructor
 ·intro h1 h2
  rw [b]
  have p1:v*N*(N - m)≤t*(N - m):=y1g h1 (by omega)
  have p2:N*(v*(N - m))≤N*(t - A):=by
   have a1:N*(v*(N - m))=v*N*(N - m):=by grind
   have a2:N*(t - A)=t*N - N*A:=by grind
   have a3:t*(N - m)=t*N - t*m:=by grind
   omega
  have p3:v*(N - m)≤t - A:=y4r p2 N0
  have a4:v*(N - m)=v*N - v*m:=by grind
  omega
 ·intro h1
  rw [b]
  have p1:t*m≤v*N*m:=y1g h1 k3
  have p2:N*A≤N*(v*m):=by
   have a1:N*(v*m)=v*N*m:=by grind
   omega
  have p3:A≤v*m:=y4r p2 N0
  omega
end
def z6v (H:Hp)(S:List Addr):Hp:=fun b=>if b∈S then none else H b
theorem za6 {H H':Hp}{S:List Addr}(s:Same H H'):Same (z6v H S) (z6v H' S):=fun b o h=>by
 unfold z6v at h ⊢
 split at h
 ·cases h
 ·rename_i c
  rw [if_neg c]
  exact s b o h
theorem zcu {H:Hp}{S:List Addr}:Same (z6v H S) H:=fun b o h=>by
 unfold z6v at h
 split at h
 ·cases h
 ·exact h
theorem zbp {H:Hp}{S:List Addr}{b:Addr}(h:b ∉ S):z6v H S b=H b:=if_neg h
theorem zhg {H:Hp}{S:List Addr}{a:Addr}{o:HO}(h:a∈S):z6v (upd H a o) S=z6v H S:=by
 funext b
 unfold z6v
 split
 ·rfl
 ·rename_i c
  rw [z09 (fun z=>c (by rw [z]; exact h))]
theorem zfn {H:Hp}{S:List Addr}{l:Addr}{o:HO}(h:H l=none):Same (z6v H S) (z6v (upd H l o) (S ++ [l])):=fun b u q=>by
 unfold z6v at q ⊢
 split at q
 ·cases q
 ·rename_i c
  have n:=z06 q h
  rw [if_neg (fun z=>by
   rcases y13.mp z with z | z
   ·exact c z
   ·exact n (y0e.mp z)),z09 n]
  exact q
structure Rw (K:y03)(Hb H':Hp)(rv:List Addr)(vals:List (List V))(ds:List (List PyData)):Prop where
 nd:rv.Nodup
 len:vals.length=rv.length
 dlen:ds.length=rv.length
 at_:∀(i:Nat) r v,rv[i]?=some r→vals[i]?=some v→H' r=some (.lst v)
 old:Same Hb (z6v H' rv)
 all:∀(i:Nat) v d,vals[i]?=some v→ds[i]?=some d→IsAll K (z6v H' rv) v d
section
variable {K:y03}{Hb H' H1:Hp}{rv:List Addr}{vals:List (List V)}{ds:List (List PyData)}
theorem Rw.same (g:Rw K Hb H' rv vals ds):Same Hb H':=g.old.trans zcu
theorem Rw.more (g:Rw K Hb H' rv vals ds)(s:Same H' H1):Rw K Hb H1 rv vals ds:=⟨g.nd,g.len,g.dlen,fun i r v h1 h2=>s _ _ (g.at_ i r v h1 h2),g.old.trans (za6 s),fun i v d h1 h2=>IsAll.same (za6 s) _ _ (g.all i v d h1 h2)⟩
theorem Rw.here (g:Rw K Hb H' rv vals ds){r:Addr}(h:r∈rv):∃v,H' r=some (.lst v):=by
 obtain⟨i,hi⟩:=y09 h
 have hil:=(y00.mp hi).1
 have hv:vals[i]?=some (vals[i]'(by rw [g.len]; exact hil)):=y01 _
 exact⟨_,g.at_ i r _ hi hv⟩
theorem z48 {β:Type}{l:List β}{x y:β}{i:Nat}(h:(l ++ [x])[i]?=some y):l[i]?=some y∨(i=l.length∧y=x):=by
 by_cases c:i<l.length
 ·rw [y0q c] at h
  exact .inl h
 ·rw [y0w (by omega)] at h
  have z:i - l.length=0:=by
   have:=(y00.mp h).1
   simp at this
   omega
  rw [z] at h
  cases h
  exact .inr ⟨by omega,rfl⟩
theorem Rw.snoc (g:Rw K Hb H1 rv vals ds){l:Addr}(hl:H1 l=none){v:List V}{d:List PyData}(al:IsAll K (z6v H1 rv) v d):Rw K Hb (upd H1 l (.lst v)) (rv ++ [l]) (vals ++ [v]) (ds ++ [d]):=by
 have nl:l ∉ rv:=fun z=>by
  obtain⟨v,hv⟩:=g.here z
  rw [hl] at hv
  cases hv
 have sn:=zfn (S:=rv) (o:=.lst v) hl
 refine⟨?_,by rw [y0f,y0f,g.len]; rfl,by rw [y0f,y0f,g.dlen]; rfl,fun i r w h1 h2=>?_,g.old.trans sn,fun i w e h1 h2=>?_⟩
 ·rw [y51]
  exact⟨g.nd,by simp,fun a ha b hb=>by rw [y0e.mp hb]; exact fun z=>nl (z▸ha)⟩
 ·rcases z48 h1 with z | ⟨z1,z2⟩
  ·rcases z48 h2 with y | ⟨y1,y2⟩
   ·have:=g.at_ i r w z y
    rw [z09 (z06 this hl)]
    exact this
   ·have:=(y00.mp z).1
    have:=g.len
    omega
  ·rcases z48 h2 with y | ⟨y1,y2⟩
   ·have:=(y00.mp y).1
    have:=g.len
    omega
   ·rw [z2,y2,z01]
 ·rcases z48 h1 with z | ⟨z1,z2⟩
  ·rcases z48 h2 with y | ⟨y1,y2⟩
   ·exact IsAll.same sn _ _ (g.all i w e z y)
   ·have:=(y00.mp z).1
    have:=g.len
    have:=g.dlen
    omega
  ·rcases z48 h2 with y | ⟨y1,y2⟩
   ·have:=(y00.mp y).1
    have:=g.len
    have:=g.dlen
    omega
   ·rw [z2,y2]
    exact IsAll.same sn _ _ al
theorem Rw.set (g:Rw K Hb H' rv vals ds){i:Nat}{r:Addr}{v w:List V}{e:List PyData}(hr:rv[i]?=some r)(hv:vals[i]?=some v)(al:IsAll K (z6v H' rv) w e):Rw K Hb (upd H' r (.lst w)) rv (vals.set i w) (ds.set i e):=by
 have hil:=(y00.mp hr).1
 have du:=zhg (H:=H') (o:=.lst w) (y02 hr)
 refine⟨g.nd,by rw [y22]; exact g.len,by rw [y22]; exact g.dlen,fun j q u h1 h2=>?_,by rw [du]; exact g.old,fun j u f h1 h2=>?_⟩
 ·by_cases c:j=i
  ·subst c
   rw [hr] at h1
   cases h1
   rw [y0t (by rw [g.len]; exact hil)] at h2
   cases h2
   exact z01
  ·rw [y11 (by omega)] at h2
   have:=g.at_ j q u h1 h2
   have n:q≠r:=fun z=>by
    subst z
    obtain⟨x1,y1⟩:=y00.mp h1
    obtain⟨x2,y2⟩:=y00.mp hr
    have e1:=g.nd.idxOf_getElem j x1
    have e2:=g.nd.idxOf_getElem i x2
    rw [y1] at e1
    rw [y2] at e2
    omega
   rw [z09 n]
   exact this
 ·rw [du]
  by_cases c:j=i
  ·subst c
   rw [y0t (by rw [g.len]; exact hil)] at h1
   rw [y0t (by rw [g.dlen]; exact hil)] at h2
   cases h1
   cases h2
   exact al
  ·rw [y11 (by omega)] at h1 h2
   exact g.all j u f h1 h2
end
def z5f {α:Type}(drs:List (List Nat))(c:PM.Cr)(ss:List α):List (Nat×Nat × α):=((z0j drs c.1 c.2).zip ss).map fun t=>(c.2.getD t.1.1 0,(z2k drs (c.2.getD t.1.1 0)).idxOf (c.1.getD t.1.2 0),t.2)
def z54 {α:Type}(drs:List (List Nat))(no:α):List (List α):=drs.map fun r=>y05 r.length no
def z36 {α:Type}(drs:List (List Nat))(L:List PM.Cr)(sss:List (List α))(no:α):List (List α):=((L.zip sss).flatMap fun x=>z5f drs x.1 x.2).foldl PM.putT (z54 drs no)
structure TellR {α:Type}(K:y03)(H H':Hp)(l:Addr)(rv:List Addr)(emb:α→PyData)(R:List (List α)):Prop where
 same:Same H H'
 new:H l=none
 out:H' l=some (.lst (rv.map V.ref))
 rows:∀r∈rv,H r=none∧r≠l
 len:rv.length=R.length
 at_:∀(i:Nat) r row,rv[i]?=some r→R[i]?=some row→∃v,H' r=some (.lst v)∧IsAll K H' v (row.map emb)
def zh2 {α:Type}(K:y03)(emb:α→PyData):Sp:=fun vs H Q _=>∃(ad ac as:Addr) (vn:V) (drs:List (List Nat)) (L:List PM.Cr) (sss:List (List α)) (no:α),vs = [.ref ad,.ref ac,.ref as,vn]∧Is K H (.ref ad) (z8p drs)∧Is K H (.ref ac) (.list (L.map z2h))∧Is K H (.ref as) (.list (sss.map fun ss=>.list (ss.map emb)))∧Is K H vn (emb no)∧drs.length≤20∧(∀r∈drs,r.length≤20)∧(∀r∈drs,r.Nodup)∧L.length≤20 ∧
 (∀c∈L,c.1.Nodup∧c.1.length≤20∧c.2.length≤20∧∀x∈c.2,x<drs.length)∧sss.length=L.length∧(∀(i:Nat) c ss,L[i]?=some c→sss[i]?=some ss→ss.length=(z0j drs c.1 c.2).length)∧∀(l:Addr) (rv:List Addr) (H':Hp),TellR K H H' l rv emb (z36 drs L sss no)→Q (.ref l) H'
def z5q (K:y03):Sp:=fun vs H Q _=>∃(ad:Addr) (vc:V) (drs:List (List Nat)) (hands chores:List Nat),vs = [.ref ad,vc]∧Is K H (.ref ad) (z8p drs)∧Is K H vc (z5l hands chores)∧hands.Nodup∧hands.length≤20∧chores.length≤20∧(∀r∈drs,r.length≤20)∧(∀c∈chores,c<drs.length) ∧
 ∀v H',Same H H'→Is K H' v (.list ((z0j drs hands chores).map pr))→(∃l,v = .ref l∧H l=none)→Q v H'
section
variable {K:y03}{Hb Hc H':Hp}{rv:List Addr}{vals:List (List V)}{ds:List (List PyData)}
theorem Rw.rebase (g:Rw K Hb H' rv vals ds):Rw K (z6v H' rv) H' rv vals ds:=⟨g.nd,g.len,g.dlen,g.at_,Same.refl _,g.all⟩
theorem Rw.base (g:Rw K Hc H' rv vals ds)(s:Same Hb Hc):Rw K Hb H' rv vals ds:=⟨g.nd,g.len,g.dlen,g.at_,s.trans g.old,g.all⟩
theorem Rw.prs (g:Rw K Hb H' rv vals ds):∀{ts:List (Nat×Nat)} {xs:List V},IsAll K H' xs (ts.map pr)→IsAll K (z6v H' rv) xs (ts.map pr)
 | [],xs,h=>by simpa only [y3c,IsAll] using h
 | p::ts,xs,h=>by
  rw [y0h] at h ⊢
  simp only [IsAll] at h
  obtain⟨v,vs,rfl,q,al⟩:=h
  refine z1c ?_ (g.prs al)
  obtain⟨a,rfl,ha⟩:=(is_frac (n:=(p.1:Int)) (d:=(p.2:Int))).mp q
  refine(is_frac (n:=(p.1:Int)) (d:=(p.2:Int))).mpr ⟨a,rfl,?_⟩
  rw [zbp (fun z=>by
   obtain⟨v,hv⟩:=g.here z
   rw [ha] at hv
   cases hv)]
  exact ha
end
theorem zku {α β:Type}{f:α→β}{R:List (List α)}{x k:Nat}{a:α}(hx:x<R.length):(PM.putT R (x,k,a)).map (fun r=>r.map f)=(R.map fun r=>r.map f).set x (((R.getD x []).map f).set k (f a)):=by
 unfold PM.putT
 rw [y2b,y2b]
theorem zcg {α:Type}{n:Nat}{ln:Nat→Nat}:∀(T:List (Nat×Nat × α)) (R:List (List α)),(∀t∈T,t.1<n)→PM.Shp n ln R→PM.Shp n ln (T.foldl PM.putT R)
 | [],R,_,s=>s
 | t::T,R,h,s=>zcg T _ (fun u hu=>h u (y0c _ hu)) (s.put (x:=t.1) (k:=t.2.1) (a:=t.2.2) (h t y0d))
theorem z4b {α:Type}{drs:List (List Nat)}{c:PM.Cr}{ss:List α}(hn:c.1.Nodup){t:Nat×Nat × α}(h:t∈z5f drs c ss):∃(g p x hd:Nat),((g,p),t.2.2)∈(z0j drs c.1 c.2).zip ss∧c.2[g]?=some x∧c.1[p]?=some hd∧hd∈z2k drs x∧t.1=x∧t.2.1=(z2k drs x).idxOf hd:=by
 unfold z5f at h
 obtain⟨u,hu,rfl⟩:=y1h.mp h
 obtain⟨x,hd,h1,h2,h3⟩:=(z1u hn u.1.1 u.1.2).mp (y1i hu).1
 refine⟨u.1.1,u.1.2,x,hd,hu,h1,h2,h3,PM.getD_of h1,?_⟩
 show(z2k drs (c.2.getD u.1.1 0)).idxOf (c.1.getD u.1.2 0)=_
 rw [PM.getD_of h1,PM.getD_of h2]
theorem zb5 {α:Type}(drs:List (List Nat))(no:α):PM.Shp drs.length (fun x=>(z2k drs x).length) (z54 drs no):=by
 unfold z54
 refine⟨y04 ..,fun x hx=>?_⟩
 rw [y07,y06,y01 hx]
 show(y05 _ no).length=_
 rw [y0x]
 show _=(drs.getD x []).length
 rw [y07,y01 hx]
 rfl
structure CrowdP (ws:List Int)(drs:List (List Nat))(c:PM.Cr):Prop where
 nd:c.1.Nodup
 cn:c.2.Nodup
 hl:c.1.length≤20
 cl:c.2.length≤20
 ci:∀x∈c.2,x<ws.length
 n0:0<c.1.length
 rst:zl1 ws drs c
def z64 {α:Type}(f:α→Int)(ties:List (Nat×Nat))(ss:List α)(P:Nat×Nat→Bool):Int:=((ties.zip ss).map fun q=>if P q.1 then f q.2 else 0).sum
structure PcOk (ws:List Int)(drs:List (List Nat))(c:PM.Cr)(ss:List Int):Prop where
 len:ss.length=(z0j drs c.1 c.2).length
 nn:∀s∈ss,0≤s
 gv:∀g<c.2.length,z64 id (z0j drs c.1 c.2) ss (fun p=>p.1==g)=ws.getD (c.2.getD g 0) 0
 tk:∀t<c.1.length,(z64 id (z0j drs c.1 c.2) ss (fun p=>p.2==t) - 1)*c.1.length<PM.tot (z1n ws) c∧PM.tot (z1n ws) c<(z64 id (z0j drs c.1 c.2) ss (fun p=>p.2==t)+1)*c.1.length
def z8f (K:y03):Sp:=fun vs H Q _=>∃(aw ad:Addr) (vc:V) (ws:List Int) (drs:List (List Nat)) (c:PM.Cr),vs = [.ref aw,.ref ad,vc]∧AsksC K H aw ad ws drs∧Is K H vc (z2h c)∧CrowdP ws drs c∧∀(l:Addr) (ss:List Int) (H':Hp),PcOk ws drs c ss→Same H H'→H' l=some (.lst (ss.map V.int))→Q (.ref l) H'
theorem zfu {G:Nat}{ties:List (Nat×Nat)}{ss:List Int}{g:Nat}(hg:g<G):PM.load (ties.map fun p=>(p.1,G+p.2)) ss g=z64 id ties ss (fun p=>p.1==g):=by
 rw [PM.load_zip]
 unfold z64
 rw [y6i,y26]
 congr 1
 refine y0j fun q _=>?_
 show(if PM.inc (q.1.1,G+q.1.2) g then q.2 else 0)=if (q.1.1==g)=true then q.2 else 0
 have:PM.inc (q.1.1,G+q.1.2) g=(q.1.1==g):=by
  unfold PM.inc
  rw [y27]
  simp
  omega
 rw [this]
theorem z7x {G:Nat}{ties:List (Nat×Nat)}{ss:List Int}{t:Nat}(hp:∀p∈ties,p.1<G):PM.load (ties.map fun p=>(p.1,G+p.2)) ss (G+t)=z64 id ties ss (fun p=>p.2==t):=by
 rw [PM.load_zip]
 unfold z64
 rw [y6i,y26]
 congr 1
 refine y0j fun q hq=>?_
 have:=hp q.1 (y1i hq).1
 show(if PM.inc (q.1.1,G+q.1.2) (G+t) then q.2 else 0)=if (q.1.2==t)=true then q.2 else 0
 have:PM.inc (q.1.1,G+q.1.2) (G+t)=(q.1.2==t):=by
  unfold PM.inc
  rw [y27]
  simp
  omega
 rw [this]
theorem z9j {t n:Int}(hn:0<n):t.fdiv n*n≤t∧t<(t.fdiv n+1)*n:=by
 rw [y3i _ (by omega)]
 have a:=Int.emod_add_mul_ediv t n
 have b:=y29 t (show n≠0 by omega)
 have c:=y2a t hn
 have e:t / n*n=n*(t / n):=y2l _ _
 rw [y58,y5z,e]
 omega
theorem zh5 {t n:Int}(hn:0<n):t≤(-(-t).fdiv n)*n∧(-(-t).fdiv n - 1)*n<t:=by
 obtain⟨a,b⟩:=z9j (t:=-t) hn
 generalize (-t).fdiv n=q at *
 have e1:-q*n = -(q*n):=y55 _ _
 have e2:(-q - 1)*n = -(q*n) - n:=by rw [Int.sub_mul,y5z,e1]
 have e3:(q+1)*n=q*n+n:=by rw [y58,y5z]
 omega
theorem z9g {t n:Int}(hn:0<n):t.fdiv n≤-(-t).fdiv n:=by
 obtain⟨a,_⟩:=z9j (t:=t) hn
 obtain⟨b,_⟩:=zh5 (t:=t) hn
 exact y4g (y2x a b) hn
theorem zp0 {ws:List Int}{drs:List (List Nat)}{c:PM.Cr}{s1 p1 t1 s2 p2 t2:List Int}(pc:CrowdP ws drs c)(wp:∀x∈ws,1≤x)
  (D1:PM.Done (z2f (c.2.map fun x=>ws.getD x 0).length (y05 c.1.length ((PM.tot (z1n ws) c).fdiv c.1.length)).length (z0j drs c.1 c.2)) ((c.2.map fun x=>ws.getD x 0)++y05 c.1.length ((PM.tot (z1n ws) c).fdiv c.1.length)) s1 p1 t1)
  (D2:PM.Done (z2f (c.2.map fun x=>ws.getD x 0).length (y05 c.1.length (-(-(PM.tot (z1n ws) c)).fdiv c.1.length)).length (z0j drs c.1 c.2)) ((c.2.map fun x=>ws.getD x 0)++y05 c.1.length (-(-(PM.tot (z1n ws) c)).fdiv c.1.length)) s2 p2 t2)
  (R:∀e<c.2.length+c.1.length,p2.getD e 0≤((c.2.map fun x=>ws.getD x 0)++y05 c.1.length (-(-(PM.tot (z1n ws) c)).fdiv c.1.length)).getD e 0 - PM.load ((z0j drs c.1 c.2).map fun p=>(p.1,c.2.length+p.2)) s1 e):PcOk ws drs c s2:=by
 have n0:=pc.n0
 have N0:(0:Int)<c.1.length:=by omega
 have gl:(c.2.map fun x=>ws.getD x 0).length=c.2.length:=y04 ..
 have lt:∀v:Int,(y05 c.1.length v).length=c.1.length:=fun v=>y0x ..
 have tie:∀p∈z0j drs c.1 c.2,p.1<c.2.length∧p.2<c.1.length:=fun p hp=>by
  obtain⟨x,h,h1,h2,_⟩:=(z1u pc.nd p.1 p.2).mp hp
  exact⟨(y00.mp h1).1,(y00.mp h2).1⟩
 obtain⟨f1,f2⟩:=z9j (t:=PM.tot (z1n ws) c) N0
 obtain⟨c1,c2⟩:=zh5 (t:=PM.tot (z1n ws) c) N0
 have tot0:0≤PM.tot (z1n ws) c:=by
  unfold PM.tot
  refine zcx fun x hx=>?_
  obtain⟨y,_,rfl⟩:=y1h.mp hx
  have:=z81 wp y
  omega
 have fl0:0≤(PM.tot (z1n ws) c).fdiv c.1.length:=y6y tot0 (by omega)
 have b1:=(z92 pc.nd pc.cn pc.rst wp n0 pc.ci D1).1 f1 fl0
 have b2:=(z92 pc.nd pc.cn pc.rst wp n0 pc.ci D2).2 c1
 generalize (PM.tot (z1n ws) c).fdiv c.1.length=fl at *
 generalize -(-(PM.tot (z1n ws) c)).fdiv c.1.length=ce at *
 have rsum:∀v:Int,(y05 c.1.length v).sum=v*c.1.length:=fun v=>by
  generalize c.1.length=m
  induction m with
  | zero=>simp
  | succ m ih =>
   rw [y1p,y0n,ih,show((m+1:Nat):Int)=(m:Int)+1 by omega,y54,y3u]
   omega
 have gsum:(c.2.map fun x=>ws.getD x 0).sum=PM.tot (z1n ws) c:=by
  unfold PM.tot
  rw [y0j fun x hx=>(zl9 (pc.ci x hx)).symm]
 have W1:=z5u (G:=(c.2.map fun x=>ws.getD x 0).length) (T:=(y05 c.1.length fl).length) (ties:=z0j drs c.1 c.2) fun p hp=>by rw [gl,lt]; exact tie p hp
 have W2:=z5u (G:=(c.2.map fun x=>ws.getD x 0).length) (T:=(y05 c.1.length ce).length) (ties:=z0j drs c.1 c.2) fun p hp=>by rw [gl,lt]; exact tie p hp
 have tk1:=zdn W1 D1.flow (by rw [rsum]; exact b1)
 have gv2:=zdp W2 D2.flow (by rw [gsum]; exact b2)
 rw [lt,gl] at tk1
 rw [gl] at gv2
 have en:∀{v:Int},(z2f (c.2.map fun x=>ws.getD x 0).length (y05 c.1.length v).length (z0j drs c.1 c.2)).ends=(z0j drs c.1 c.2).map fun p=>(p.1,c.2.length+p.2):=fun {v}=>by rw [z73,gl]
 refine⟨by have:=D2.flow.ls; rw [en,y04] at this; exact this,fun s hs=>?_,fun g hg=>?_,fun t ht=>?_⟩
 ·obtain⟨k,hk⟩:=y09 hs
  exact D2.flow.nn k s hk
 ·have:=gv2 g hg
  rw [z73,zfu hg] at this
  rw [this]
  rw [y07,y06,PM.get_of_lt hg]
  rfl
 ·have h1:=tk1 t ht
  rw [z73,z7x (fun p hp=>(tie p hp).1),z5j ht] at h1
  have h2:=D2.flow.load_le (e:=c.2.length+t) (by show _<(c.2.map fun x=>ws.getD x 0).length+(y05 c.1.length ce).length; rw [gl,lt]; omega)
  have cap:((c.2.map fun x=>ws.getD x 0)++y05 c.1.length ce).getD (c.2.length+t) 0=ce:=by
   have:=z42 (a:=c.2.map fun x=>ws.getD x 0) (b:=y05 c.1.length ce) (i:=t) (d:=(0:Int))
   rw [gl] at this
   rw [this,z5j ht]
  rw [en,z7x (fun p hp=>(tie p hp).1),cap] at h2
  have r:=R (c.2.length+t) (by omega)
  rw [z7x (fun p hp=>(tie p hp).1),cap,h1] at r
  generalize z64 id (z0j drs c.1 c.2) s2 (fun p=>p.2==t)=ld at *
  generalize (c.1.length:Int)=N at *
  have l1:fl≤ld:=by omega
  have l2:ld≤ce:=h2.1
  have m1:(ld - 1)*N≤(ce - 1)*N:=y1g (by omega) (by omega)
  have m2:(fl+1)*N≤(ld+1)*N:=y1g (by omega) (by omega)
  omega
def zce (K:y03):Sp:=fun vs H Q _=>∃(aw ad:Addr) (many:Nat) (ws:List Int) (drs:List (List Nat)),vs = [.ref aw,.ref ad,.int (many:Int)]∧AsksC K H aw ad ws drs∧DoOk ws drs many∧(∀r∈drs,r.Nodup) ∧
 ∀(L:List PM.Cr) (sss:List (List Int)) (l:Addr) (rv:List Addr) (H':Hp),CrOk ws drs many L→sss.length=L.length→(∀(i:Nat) c ss,L[i]?=some c→sss[i]?=some ss→PcOk ws drs c ss)→TellR K H H' l rv (fun z:Int=>PyData.int z) (z36 drs L sss 0)→Q (.ref l) H'
theorem CrOk.crowdP {ws:List Int}{drs:List (List Nat)}{many:Nat}{L:List PM.Cr}(C:CrOk ws drs many L)(hm:many≤20)(hw:ws.length≤20){c:PM.Cr}(hc:c∈L):CrowdP ws drs c:=by
 obtain⟨a,b,d,e,f⟩:=C.lt hc
 exact⟨z1p e,z1p f,y1a (z1e e a) hm,y1a (z1e f b) hw,b,y0s.mpr d,C.rst c hc⟩
end My
set_option Elab.async false
set_option linter.all false
set_option maxRecDepth 100000
namespace My
open PySem L2 L2.EX
theorem z7b {L:List PM.Cr}{f:PM.Cr→List Nat}(nd:(L.flatMap f).Nodup){i j x:Nat}{c d:PM.Cr}(hi:L[i]?=some c)(hj:L[j]?=some d)(hx:x∈f c)(hy:x∈f d):i=j:=by
 have pw:=(y43.mp nd).2
 rw [y23] at pw
 obtain⟨i1,i2⟩:=y00.mp hi
 obtain⟨j1,j2⟩:=y00.mp hj
 rcases y2s i j with h | h | h
 ·exact absurd rfl (pw i j i1 j1 h x (by rw [i2]; exact hx) x (by rw [j2]; exact hy))
 ·exact h
 ·exact absurd rfl (pw j i j1 i1 h x (by rw [j2]; exact hy) x (by rw [i2]; exact hx))
theorem ze7 {hands:List Nat}(g:Nat){row:List Nat}(nr:row.Nodup):(z32 hands g row).Nodup:=by
 unfold z32
 refine List.Pairwise.filterMap _ (fun a b hab p hp q hq=>?_) nr
 intro e
 cases ha:z2o hands a with
 | none=>rw [ha] at hp; cases hp
 | some u =>
  cases hb:z2o hands b with
  | none=>rw [hb] at hq; cases hq
  | some v =>
   rw [ha] at hp
   rw [hb] at hq
   cases hp
   cases hq
   cases e
   have h1:=z93 ha
   have h2:=z93 hb
   rw [h1] at h2
   exact hab (y12 h2)
theorem zae {drs:List (List Nat)}{hands chores:List Nat}(hn:hands.Nodup)(nr:∀r∈drs,r.Nodup):∀i:Nat,(z3u drs hands chores i).Nodup
 | 0=>by simp [z3u]
 | i+1=>by
  rw [z3u,y51]
  refine⟨zae hn nr i,ze7 i ?_,fun a ha b hb e=>?_⟩
  ·by_cases z:chores.getD i 0<drs.length
   ·have e:drs.getD (chores.getD i 0) []=drs[chores.getD i 0]:=by rw [y07,y01 z]; rfl
    rw [e]
    exact nr _ (y36 z)
   ·rw [y07,y0z (by omega)]
    simp
  ·subst e
   have h1:=(z63 hn (a:=a.1) (b:=a.2)).mp ha
   have h2:=(z7l hn (a:=a.1) (b:=a.2)).mp hb
   omega
theorem zen {α β:Type}{R:α→α→Prop}:∀{l:List α} {m:List β},l.Pairwise R→(l.zip m).Pairwise fun x y=>R x.1 y.1
 | [],_,_=>by simp
 | _::_,[],_=>by simp
 | a::l,b::m,h=>by
  rw [y4l]
  have h':=y3q.mp h
  exact y3q.mpr ⟨fun y hy=>h'.1 y.1 (y1i hy).1,zen h'.2⟩
section
variable {α:Type}{drs:List (List Nat)}{L:List PM.Cr}{sss:List (List α)}
structure RowsH (drs:List (List Nat))(L:List PM.Cr):Prop where
 nr:∀r∈drs,r.Nodup
 nd:∀c∈L,c.1.Nodup∧c.2.Nodup∧∀x∈c.2,x<drs.length
 cd:(L.flatMap (·.2)).Nodup
 hd:(L.flatMap (·.1)).Nodup
theorem zlg {c:PM.Cr}{ss:List α}(nr:∀r∈drs,r.Nodup)(hn:c.1.Nodup)(cn:c.2.Nodup):(z5f drs c ss).Pairwise fun t u=>¬(t.1=u.1∧t.2.1=u.2.1):=by
 unfold z5f
 rw [y6h]
 have z:=zen (m:=ss) (zae (drs:=drs) (chores:=c.2) hn nr c.2.length)
 refine y52 (fun {a b} ha hb hab=>?_) z
 rintro⟨e1,e2⟩
 obtain⟨x,h,h1,h2,h3⟩:=(z1u hn a.1.1 a.1.2).mp (y1i ha).1
 obtain⟨y,k,k1,k2,k3⟩:=(z1u hn b.1.1 b.1.2).mp (y1i hb).1
 dsimp only at e1 e2
 rw [PM.getD_of h1,PM.getD_of k1] at e1
 subst e1
 rw [PM.getD_of h1,PM.getD_of k1,PM.getD_of h2,PM.getD_of k2] at e2
 have g1:a.1.1=b.1.1:=by rw [←z4o cn h1,←z4o cn k1]
 have ek:h=k:=by
  have l1:=y1m h3
  have l2:=y1m k3
  have q1:(z2k drs x)[(z2k drs x).idxOf h]'l1=h:=y4n l1
  have q2:(z2k drs x)[(z2k drs x).idxOf k]'l2=k:=y4n l2
  rw [←q1,←q2]
  congr 1
 subst ek
 have g2:a.1.2=b.1.2:=by rw [←z4o hn h2,←z4o hn k2]
 exact hab (Prod.ext g1 g2)
theorem z9c (h:RowsH drs L)(hl:sss.length=L.length){no:α}{W:Nat→Nat→α→Int}(w0:∀x k,W x k no=0) :
  PM.Shp drs.length (fun x=>(z2k drs x).length) (z36 drs L sss no)∧PM.S2 no drs.length (fun x=>(z2k drs x).length) W (z36 drs L sss no)=((L.zip sss).map fun x=>((z5f drs x.1 x.2).map fun t=>W t.1 t.2.1 t.2.2).sum).sum:=by
 have at0:∀x k,PM.at2 no (z54 drs no) x k=no:=fun x k=>by
  unfold PM.at2 z54
  by_cases z:x<drs.length
  ·have e:(drs.map fun r=>y05 r.length no).getD x []=y05 (drs[x].length) no:=by
    rw [y07,y06,y01 z]
    rfl
   rw [e,y07,y1f]
   split<;>rfl
  ·have e:(drs.map fun r=>y05 r.length no).getD x [] = []:=by
    rw [y07,y0z (by rw [y04]; omega)]
    rfl
   rw [e]
   rfl
 have bnd:∀t∈(L.zip sss).flatMap fun x=>z5f drs x.1 x.2,t.1<drs.length∧t.2.1<(z2k drs t.1).length:=fun t ht=>by
  obtain⟨u,hu,hu2⟩:=y38.mp ht
  have hc:=h.nd u.1 (y1i hu).1
  obtain⟨_,_,x,hd,_,z1,_,z3,z4,z5⟩:=z4b hc.1 hu2
  rw [z4,z5]
  exact⟨hc.2.2 x (y02 z1),y1m z3⟩
 have pw:((L.zip sss).flatMap fun x=>z5f drs x.1 x.2).Pairwise fun t u=>¬(t.1=u.1∧t.2.1=u.2.1):=by
  rw [y43]
  refine⟨fun u hu=>?_,?_⟩
  ·have hc:=h.nd u.1 (y1i hu).1
   exact zlg h.nr hc.1 hc.2.1
  ·have z:=zen (m:=sss) (y43.mp h.cd).2
   refine y52 (fun {a b} ha hb hab t ht u hu=>?_) z
   have ca:=h.nd a.1 (y1i ha).1
   have cb:=h.nd b.1 (y1i hb).1
   obtain⟨_,_,x,_,_,z1,_,_,z4,_⟩:=z4b ca.1 ht
   obtain⟨_,_,y,_,_,y1,_,_,y4,_⟩:=z4b cb.1 hu
   rintro⟨e,_⟩
   rw [z4,y4] at e
   exact hab x (y02 z1) y (y02 y1) e
 obtain⟨s1,s2⟩:=PM.fold_S2 (n:=drs.length) (ln:=fun x=>(z2k drs x).length) w0 _ _ (zb5 drs no) bnd pw fun t _=>at0 t.1 t.2.1
 refine⟨s1,?_⟩
 have z0:PM.S2 no drs.length (fun x=>(z2k drs x).length) W (z54 drs no)=0:=by
  unfold PM.S2
  have:∀x,((y0b (z2k drs x).length).map fun k=>W x k (PM.at2 no (z54 drs no) x k)).sum=0:=fun x=>by
   rw [y0j (fun k _=>by rw [at0,w0]:∀k∈y0b (z2k drs x).length,W x k (PM.at2 no (z54 drs no) x k)=0),PM.sum_zeroI]
  rw [y0j fun x _=>this x,PM.sum_zeroI]
 unfold z36
 rw [s2,z0,y33]
 have fl:∀l:List (PM.Cr×List α),((l.flatMap fun x=>z5f drs x.1 x.2).map fun t=>W t.1 t.2.1 t.2.2).sum=(l.map fun x=>((z5f drs x.1 x.2).map fun t=>W t.1 t.2.1 t.2.2).sum).sum:=fun l=>by
  induction l with
  | nil=>rfl
  | cons a r ih=>rw [y4z,y0g,y20,y0h,y0n,ih]
 exact fl _
theorem zlf (h:RowsH drs L)(hl:sss.length=L.length){no:α}{f:α→Int}(f0:f no=0){i g x:Nat}{c:PM.Cr}{ss:List α}(hc:L[i]?=some c)(hs:sss[i]?=some ss)(hg:c.2[g]?=some x):(((z36 drs L sss no).getD x []).map f).sum=z64 f (z0j drs c.1 c.2) ss fun p=>p.1==g:=by
 obtain⟨sh,e⟩:=z9c h hl (no:=no) (W:=fun y k a=>if y=x then f a else 0) fun y k=>by rw [f0]; split<;>rfl
 have xl:x<drs.length:=(h.nd c (y02 hc)).2.2 x (y02 hg)
 have lhs:PM.S2 no drs.length (fun x=>(z2k drs x).length) (fun y k a=>if y=x then f a else 0) (z36 drs L sss no)=(((z36 drs L sss no).getD x []).map f).sum:=by
  unfold PM.S2
  have o:=PM.sum_oneN (fun _=>(0:Int)) (fun y=>((y0b (z2k drs y).length).map fun k=>if y=x then f (PM.at2 no (z36 drs L sss no) y k) else 0).sum) x (fun y hy=>by
   show((y0b (z2k drs y).length).map fun k=>if y=x then f (PM.at2 no (z36 drs L sss no) y k) else 0).sum=0
   rw [y0j (fun k _=>if_neg hy:∀k∈y0b (z2k drs y).length,_=(0:Int)),PM.sum_zeroI]) drs.length xl
  rw [PM.sum_zeroI,y33,Int.sub_zero] at o
  rw [o]
  simp only [if_true]
  have ln:((z36 drs L sss no).getD x []).length=(z2k drs x).length:=sh.2 x xl
  rw [←ln]
  have:=zbf f no ((z36 drs L sss no).getD x [])
  rw [←this]
  rfl
 rw [lhs] at e
 rw [e]
 have zi:(L.zip sss)[i]?=some (c,ss):=(y0u (z:=(c,ss))).mpr ⟨hc,hs⟩
 rw [PM.sum_only zi fun j z hz hj=>?_]
 ·unfold z5f z64
  rw [y26]
  congr 1
  refine y0j fun q hq=>?_
  obtain⟨y,hd,h1,h2,h3⟩:=(z1u (h.nd c (y02 hc)).1 q.1.1 q.1.2).mp (y1i hq).1
  show(if c.2.getD q.1.1 0=x then f q.2 else 0)=if (q.1.1==g)=true then f q.2 else 0
  rw [PM.getD_of h1]
  have cn:=(h.nd c (y02 hc)).2.1
  by_cases z:q.1.1=g
  ·have:y=x:=by rw [z,hg] at h1; exact(y12 h1).symm
   rw [if_pos this,if_pos (by simp [z])]
  ·have:¬y=x:=fun e=>z (by rw [←z4o cn h1,←z4o cn hg,e])
   rw [if_neg this,if_neg (by simp [z])]
 ·obtain⟨z1,z2⟩:=(y0u (z:=z)).mp hz
  have:∀t∈z5f drs z.1 z.2,(fun t:Nat×Nat × α=>if t.1=x then f t.2.2 else 0) t=0:=fun t ht=>by
   obtain⟨_,_,y,_,_,y1,_,_,y4,_⟩:=z4b (h.nd z.1 (y02 z1)).1 ht
   refine if_neg fun e=>hj ?_
   rw [y4] at e
   subst e
   exact z7b h.cd z1 hc (y02 y1) (y02 hg)
  rw [y0j this,PM.sum_zeroI]
theorem zb4 {β γ:Type}(F:β × γ→Int)(d:β)(e:γ):∀{r:List β} {s:List γ},s.length=r.length→((r.zip s).map F).sum=((y0b r.length).map fun k=>F (r.getD k d,s.getD k e)).sum:=fun {r s} hl=>by
 congr 1
 refine y30 fun k=>?_
 by_cases c:k<r.length
 ·rw [y06,y06,y1q c,(y0u (z:=(r.getD k d,s.getD k e))).mpr ⟨?_,?_⟩]
  ·rfl
  ·show r[k]?=some (r.getD k d)
   rw [y07,y01 c]; rfl
  ·show s[k]?=some (s.getD k e)
   rw [y07,y01 (show k<s.length by omega)]; rfl
 ·rw [y0z (by rw [y04,y5p]; omega),y0z (by rw [y04,y2i]; omega)]
def zdt (f:α→Int)(l:List (Nat × α))(h:Nat):Int:=(l.map fun x=>if x.1=h then f x.2 else 0).sum
def z69 (drs:List (List Nat))(R:List (List α)):List (Nat × α):=(drs.zip R).flatMap fun x=>x.1.zip x.2
theorem ziu (h:RowsH drs L)(hl:sss.length=L.length){no:α}{f:α→Int}(f0:f no=0){i p h0:Nat}{c:PM.Cr}{ss:List α}(hc:L[i]?=some c)(hs:sss[i]?=some ss)(hp:c.1[p]?=some h0):zdt f (z69 drs (z36 drs L sss no)) h0=z64 f (z0j drs c.1 c.2) ss fun q=>q.2==p:=by
 obtain⟨sh,e⟩:=z9c h hl (no:=no) (W:=fun x k a=>if (z2k drs x).getD k 0=h0 then f a else 0) fun y k=>by rw [f0]; split<;>rfl
 have lhs:PM.S2 no drs.length (fun x=>(z2k drs x).length) (fun x k a=>if (z2k drs x).getD k 0=h0 then f a else 0) (z36 drs L sss no)=zdt f (z69 drs (z36 drs L sss no)) h0:=by
  unfold PM.S2 zdt z69
  have fl:∀l:List (List Nat×List α),((l.flatMap fun x=>x.1.zip x.2).map fun x=>if x.1=h0 then f x.2 else 0).sum=(l.map fun x=>((x.1.zip x.2).map fun x=>if x.1=h0 then f x.2 else 0).sum).sum:=fun l=>by
   induction l with
   | nil=>rfl
   | cons a r ih=>rw [y4z,y0g,y20,y0h,y0n,ih]
  rw [fl,zb4 _ [] [] sh.1]
  congr 1
  refine y0j fun x hx=>?_
  have xl:=y1e.mp hx
  show _=((((drs.getD x []).zip ((z36 drs L sss no).getD x [])).map fun x=>if x.1=h0 then f x.2 else 0)).sum
  rw [zb4 _ 0 no (show((z36 drs L sss no).getD x []).length=(drs.getD x []).length from sh.2 x xl)]
  rfl
 rw [lhs] at e
 rw [e]
 have zi:(L.zip sss)[i]?=some (c,ss):=(y0u (z:=(c,ss))).mpr ⟨hc,hs⟩
 have val:∀{x hd:Nat},hd∈z2k drs x→(z2k drs x).getD ((z2k drs x).idxOf hd) 0=hd:=fun {x hd} hm=>by
  have l1:=y1m hm
  rw [y07,y01 l1]
  exact y4n l1
 rw [PM.sum_only zi fun j z hz hj=>?_]
 ·unfold z5f z64
  rw [y26]
  congr 1
  refine y0j fun q hq=>?_
  have hn:=(h.nd c (y02 hc)).1
  obtain⟨y,hd,h1,h2,h3⟩:=(z1u hn q.1.1 q.1.2).mp (y1i hq).1
  show(if (z2k drs (c.2.getD q.1.1 0)).getD ((z2k drs (c.2.getD q.1.1 0)).idxOf (c.1.getD q.1.2 0)) 0=h0 then f q.2 else 0)=if (q.1.2==p)=true then f q.2 else 0
  rw [PM.getD_of h1,PM.getD_of h2,val h3]
  by_cases z:q.1.2=p
  ·have:hd=h0:=by rw [z,hp] at h2; exact(y12 h2).symm
   rw [if_pos this,if_pos (by simp [z])]
  ·have:¬hd=h0:=fun e=>z (by rw [←z4o hn h2,←z4o hn hp,e])
   rw [if_neg this,if_neg (by simp [z])]
 ·obtain⟨z1,z2⟩:=(y0u (z:=z)).mp hz
  have:∀t∈z5f drs z.1 z.2,(fun t:Nat×Nat × α=>if (z2k drs t.1).getD t.2.1 0=h0 then f t.2.2 else 0) t=0:=fun t ht=>by
   obtain⟨_,_,y,hd,_,y1,y2,y3,y4,y5⟩:=z4b (h.nd z.1 (y02 z1)).1 ht
   refine if_neg fun e=>hj ?_
   rw [y4,y5,val y3] at e
   subst e
   exact z7b h.hd z1 hc (y02 y2) (y02 hp)
  rw [y0j this,PM.sum_zeroI]
end
theorem CrOk.rowsH {ws:List Int}{drs:List (List Nat)}{many:Nat}{L:List PM.Cr}(C:CrOk ws drs many L)(h0:0<many)(hl:drs.length=ws.length)(nr:∀r∈drs,r.Nodup):RowsH drs L:=by
 refine⟨nr,fun c hc=>?_,?_,?_⟩
 ·obtain⟨a,b,d,e,f⟩:=C.lt hc
  exact⟨z1p e,z1p f,fun x hx=>by rw [hl]; exact b x hx⟩
 ·have:=z56 C h0
  unfold z5p at this
  rw [z4a] at this
  exact this.nodup_iff.mpr y47
 ·have:=z4y C h0
  unfold z57 at this
  rw [z4a] at this
  exact this.nodup_iff.mpr y47
theorem zit {ws:List Int}{drs:List (List Nat)}{many:Nat}{L:List PM.Cr}(C:CrOk ws drs many L)(h0:0<many):∃ps qs,LayOk ws L ps∧LoadOk many L ps qs:=by
 have low:∀c∈L,∃p:Int×Int,Low p∧p.1*(c.1.length:Int)=PM.tot (z1n ws) c*p.2:=fun c hc=>by
  have n0:0<c.1.length:=y0s.mpr (C.lt hc).2.2.1
  obtain⟨_,_,h3,h4,h5⟩:=zax (a:=PM.tot (z1n ws) c) (b:=(c.1.length:Int)) (by omega) rfl
  exact⟨(_,_),⟨h3,h4⟩,h5⟩
 have pf:∃pf:PM.Cr→Int×Int,∀c∈L,Low (pf c)∧(pf c).1*(c.1.length:Int)=PM.tot (z1n ws) c*(pf c).2:=by
  refine⟨fun c=>if h:c∈L then Classical.choose (low c h) else (0,1),fun c hc=>?_⟩
  simp only [hc,dif_pos]
  exact Classical.choose_spec (low c hc)
 obtain⟨pf,hpf⟩:=pf
 have hp:=z4y C h0
 unfold z57 at hp
 rw [z4a] at hp
 have ex:∀h<many,∃c,c∈L∧h∈c.1:=fun h hh=>by
  obtain⟨c,hc,hin⟩:=y38.mp (hp.mem_iff.mpr (y1e.mpr hh))
  exact⟨c,hc,hin⟩
 have nd:(L.flatMap (·.1)).Nodup:=hp.nodup_iff.mpr y47
 refine⟨L.map pf,(y0b many).map fun h=>if hh:h<many then pf (Classical.choose (ex h hh)) else (0,1),⟨y04 ..,fun i c p hc hp'=>?_⟩,⟨by rw [y04,y2i],fun i c p hc hp' h hh=>?_⟩⟩
 ·rw [y06,hc] at hp'
  cases hp'
  exact hpf c (y02 hc)
 ·rw [y06,hc] at hp'
  cases hp'
  have hlt:h<many:=(C.lt (y02 hc)).1 h hh
  rw [y06,y1q hlt]
  simp only [y6u,hlt,dif_pos]
  obtain⟨z1,z2⟩:=Classical.choose_spec (ex h hlt)
  generalize Classical.choose (ex h hlt)=d at z1 z2
  obtain⟨j,hj⟩:=y09 z1
  have:j=i:=z7b nd hj hc z2 hh
  subst this
  rw [hc] at hj
  cases hj
  rfl
structure PcsOk (ws:List Int)(drs:List (List Nat))(R:List (List Int))(qs:List (Int×Int)):Prop where
 len:R.length=drs.length
 row:∀(i:Nat) r s,drs[i]?=some r→R[i]?=some s→s.length=r.length∧s.sum=ws.getD i 0∧∀z∈s,0≤z
 got:∀(h:Nat) q,qs[h]?=some q→q.1 - q.2<zdt id (z69 drs R) h*q.2∧zdt id (z69 drs R) h*q.2<q.1+q.2
theorem zmj {ws:List Int}{drs:List (List Nat)}{many:Nat}{L L':List PM.Cr}{sss:List (List Int)}{ps qs:List (Int×Int)}(C:CrOk ws drs many L)(h0:0<many)(hl:drs.length=ws.length)(nr:∀r∈drs,r.Nodup)(wp:∀x∈ws,1≤x)(sl:sss.length=L.length)(pk:∀(i:Nat) c ss,L[i]?=some c→sss[i]?=some ss→PcOk ws drs c ss)
  (co:CrOk ws drs many L') (lo:LayOk ws L' ps) (lk:LoadOk many L' ps qs):PcsOk ws drs (z36 drs L sss 0) qs:=by
 have rh:=C.rowsH h0 hl nr
 obtain⟨ps',qs',lo',lk'⟩:=zit C h0
 have eq:=lk.unique lo co lk' lo' C h0 wp
 subst eq
 have sh:=(z9c rh sl (no:=(0:Int)) (W:=fun _ _ _=>0) fun _ _=>rfl).1
 have pick:∀(i:Nat) c,L[i]?=some c→∃ss,sss[i]?=some ss∧PcOk ws drs c ss:=fun i c hc=>by
  have hi:=(y00.mp hc).1
  have hs:sss[i]?=some (sss[i]'(by omega)):=y01 _
  exact⟨_,hs,pk i c _ hc hs⟩
 have nn:=PM.fold_all (P:=fun z:Int=>0≤z) (no:=0) (y1u 0) ((L.zip sss).flatMap fun x=>z5f drs x.1 x.2) (z54 drs 0) (fun t ht=>by
  obtain⟨u,hu,hu2⟩:=y38.mp ht
  obtain⟨i,hi⟩:=y09 hu
  obtain⟨z1,z2⟩:=(y0u (z:=u)).mp hi
  obtain⟨_,_,_,_,z3,_⟩:=z4b (rh.nd u.1 (y02 z1)).1 hu2
  exact(pk i u.1 u.2 z1 z2).nn _ (y1i z3).2) (fun r hr a ha=>by
  unfold z54 at hr
  obtain⟨x,_,rfl⟩:=y1h.mp hr
  rw [y32 ha]
  exact y1u _)
 refine⟨sh.1,fun i r s hr hs=>?_,fun h q hq=>?_⟩
 ·have il:=(y00.mp hr).1
  have es:(z36 drs L sss 0).getD i []=s:=by rw [y07,hs]; rfl
  have er:z2k drs i=r:=by unfold z2k; rw [y07,hr]; rfl
  have cp:=z56 C h0
  unfold z5p at cp
  rw [z4a] at cp
  obtain⟨c,hc,hin⟩:=y38.mp (cp.mem_iff.mpr (y1e.mpr (show i<ws.length by omega)))
  obtain⟨j,hj⟩:=y09 hc
  obtain⟨g,hg⟩:=y09 hin
  obtain⟨ss,hss,pk1⟩:=pick j c hj
  have rs:=zlf rh sl (f:=id) (no:=(0:Int)) rfl hj hss hg
  have gl:=(y00.mp hg).1
  rw [es,List.map_id,pk1.gv g gl,PM.getD_of hg] at rs
  refine⟨?_,rs,fun z hz=>nn s (y02 hs) z hz⟩
  have:((z36 drs L sss 0).getD i []).length=(z2k drs i).length:=sh.2 i il
  rw [es,er] at this
  exact this
 ·have hh:h<many:=by rw [←lk.len]; exact(y00.mp hq).1
  obtain⟨i,c,p,hc,hp,hin,hq'⟩:=lk'.of_hand lo' C h0 hh
  rw [hq] at hq'
  cases hq'
  obtain⟨t,ht⟩:=y09 hin
  obtain⟨ss,hss,pk1⟩:=pick i c hc
  have hs:=ziu rh sl (f:=id) (no:=(0:Int)) rfl hc hss ht
  rw [hs]
  obtain⟨k1,k2⟩:=pk1.tk t (y00.mp ht).1
  obtain⟨l1,l2⟩:=lo'.at_ i c q hc hp
  generalize z64 id (z0j drs c.1 c.2) ss (fun q=>q.2==t)=ld at *
  have n0:(0:Int)<c.1.length:=by
   have:=y0s.mpr (C.lt (y02 hc)).2.2.1
   omega
  have q1:=l1.1
  generalize PM.tot (z1n ws) c=t at *
  generalize (c.1.length:Int)=N at *
  constructor
  ·refine y2d (a:=N) ?_ (by omega)
   have e1:(q.1 - q.2)*N=t*q.2 - q.2*N:=by rw [Int.sub_mul,l2]
   have e2:ld*q.2*N=(ld+1)*N*q.2 - q.2*N:=by grind
   have e3:t*q.2<(ld+1)*N*q.2:=y28 k2 (by omega)
   omega
  ·refine y2d (a:=N) ?_ (by omega)
   have e1:(q.1+q.2)*N=t*q.2+q.2*N:=by rw [y58,l2]
   have e2:ld*q.2*N=(ld - 1)*N*q.2+q.2*N:=by grind
   have e3:(ld - 1)*N*q.2<t*q.2:=y28 k1 (by omega)
   omega
def zfd (K:y03):Sp:=fun vs H Q _=>∃(ap aw ad:Addr) (ws:List Int) (drs:List (List Nat)) (R:List (List Int)),vs = [.ref ap,.ref aw,.ref ad]∧AsksC K H aw ad ws drs∧Is K H (.ref ap) (.list (R.map fun r=>.list (r.map fun z:Int=>PyData.int z)))∧R.length=drs.length∧(∀(i:Nat) r s,drs[i]?=some r→R[i]?=some s→s.length=r.length∧s.sum=ws.getD i 0∧∀z∈s,0≤z)∧∀H',Same H H'→Q (.bl true) H'
def zju (K:y03):Sp:=fun vs H Q _=>∃(ap ad:Addr) (many:Nat) (drs:List (List Nat)) (R:List (List Int)),vs = [.ref ap,.ref ad,.int (many:Int)]∧Is K H (.ref ad) (z8p drs)∧Is K H (.ref ap) (.list (R.map fun r=>.list (r.map fun z:Int=>PyData.int z)))∧R.length=drs.length∧(∀(i:Nat) r s,drs[i]?=some r→R[i]?=some s→s.length=r.length)∧(∀r∈drs,∀h∈r,h<many)∧many≤20∧∀(l:Addr) (fs:List Int) (H':Hp),fs.length=many→(∀(h:Nat) z,fs[h]?=some z→z=zdt id (z69 drs R) h)→Same H H'→H' l=some (.lst (fs.map V.int))→Q (.ref l) H'
theorem zgs {α:Type}(f:α→Int)(l:List (Nat × α))(g:Nat)(a:α)(h:Nat):zdt f (l ++ [(g,a)]) h=zdt f l h+(if g=h then f a else 0):=by
 unfold zdt
 rw [y0g,y20]
 simp only [y0h,y3c,y0n,List.sum_nil,y5k]
theorem ze0 {α:Type}{drs:List (List Nat)}{R:List (List α)}{i:Nat}{r:List Nat}{s:List α}(hr:drs[i]?=some r)(hs:R[i]?=some s):z69 (drs.take (i+1)) (R.take (i+1))=z69 (drs.take i) (R.take i)++r.zip s:=by
 unfold z69
 have hi:=(y00.mp hr).1
 have hi2:=(y00.mp hs).1
 rw [z0d hr,z0d hs,y5o (by rw [y0v,y0v]; omega),y60]
 simp
theorem zh4 {K:y03}{H:Hp}{v:V}{s:List Int}(h:Is K H v (.list (s.map fun z:Int=>PyData.int z))):∃a,v = .ref a∧H a=some (.lst (s.map V.int)):=by
 obtain⟨a,xs,rfl,ha,al⟩:=is_list.mp h
 have:∀{s:List Int} {xs:List V},IsAll K H xs (s.map fun z:Int=>PyData.int z)→xs=s.map V.int:=fun {s}=>by
  induction s with
  | nil =>
   intro xs al
   simpa only [y3c,IsAll] using al
  | cons z r ih =>
   intro xs al
   rw [y0h] at al
   simp only [IsAll] at al
   obtain⟨v,vs,rfl,q,al⟩:=al
   simp only [Is] at q
   rw [q,ih al]
   rfl
 rw [this al] at ha
 exact⟨a,rfl,ha⟩
theorem zd3 {K:y03}{a:Addr}{rs:List V}{drs:List (List Nat)}{Q:VK}{H:Hp}(hS:H a=some (.lst rs))(hrs:IsAll K H rs (drs.map z37))(hl:drs.length≤20)
  (hd:∀(l:Addr) (ys:List V) (H':Hp),Same H H'→H' l=some (.lst ys)→IsAll K H' ys (drs.map z37)→Q (.ref l) H'):z50 (Itl K a) (z3x 0) zh9 (tCB (zl8 K) (zf2 (xV 0) zka)) [none] Q H:=by
 have rsl:rs.length=drs.length:=by rw [z0i hrs,y04]
 refine z1j (xs:=rs) (fun j ys H5=>Same H H5∧ys.length≤j∧IsAll K H5 ys ((drs.take j).map z37)) ⟨Same.refl _,y0a _,z0q⟩ (z0h (by omega)) ?_ ?_ ?_
 ·rintro j ys H5 _ ⟨e4,yl,_⟩
  exact⟨SqL.of (e4 _ _ hS),yl⟩
 ·rintro j x ys H5 hx ⟨e4,yl,al4⟩
  have hj:=(y00.mp hx).1
  have hSj:drs[j]?=some (drs[j]'(by omega)):=y01 (by omega)
  obtain⟨ra,hra1,hra⟩:=z46 hrs hSj
  rw [hx] at hra1
  cases hra1
  dsimp only [z3x,zh9,tCB,zf2,zka,xV,sg,y79]
  refine z86 ⟨_,.inl (SqL.of (e4 _ _ hra)),fun l1 hl1=>?_⟩
  have f1:=z03 hl1 (.lst (z0a (drs[j]'(by omega))))
  refine CNx.mk ⟨e4.trans f1,by rw [y0f]; show _+1≤_; omega,?_⟩ hj
  rw [z0d hSj,y0g]
  exact z26 (IsAll.same f1 _ _ al4) (is_list.mpr ⟨l1,_,rfl,z01,z2c _⟩)
 rintro ys H3 ⟨e3,yl,al3⟩ l hl'
 rw [rsl,y08 (y0a _)] at al3
 have f3:=z03 hl' (.lst ys)
 exact hd l ys _ (e3.trans f3) z01 (IsAll.same f3 _ _ al3)
theorem zb3 {K:y03}{H:Hp}:∀{xs:List V} {ds:List PyData},xs.length=ds.length→(∀(i:Nat) x d,xs[i]?=some x→ds[i]?=some d→Is K H x d)→IsAll K H xs ds
 | [],[],_,_=>z0q
 | x::xs,d::ds,hl,h=>z1c (h 0 x d rfl rfl) (zb3 (by simpa using hl) fun i y e h1 h2=>h (i+1) y e (by simpa using h1) (by simpa using h2))
theorem TellR.is {α:Type}{K:y03}{H H':Hp}{l:Addr}{rv:List Addr}{emb:α→PyData}{R:List (List α)}(t:TellR K H H' l rv emb R):Is K H' (.ref l) (.list (R.map fun r=>.list (r.map emb))):=by
 refine is_list.mpr ⟨l,_,rfl,t.out,zb3 (by rw [y04,y04,t.len]) fun i x d hx hd=>?_⟩
 rw [y06] at hx hd
 cases hr:rv[i]? with
 | none=>rw [hr] at hx; cases hx
 | some r =>
  cases hR:R[i]? with
  | none=>rw [hR] at hd; cases hd
  | some row =>
   rw [hr] at hx
   rw [hR] at hd
   cases hx
   cases hd
   obtain⟨v,h1,h2⟩:=t.at_ i r row hr hR
   exact is_list.mpr ⟨r,v,rfl,h1,h2⟩
theorem zex {α:Type}(drs:List (List Nat))(L:List PM.Cr)(sss:List (List α))(no:α):(z36 drs L sss no).length=drs.length:=by
 unfold z36
 have:∀(T:List (Nat×Nat × α)) (R:List (List α)),(T.foldl PM.putT R).length=R.length:=fun T=>by
  induction T with
  | nil=>intro R; rfl
  | cons t T ih =>
   intro R
   rw [y3m,ih]
   unfold PM.putT
   rw [y22]
 rw [this]
 unfold z54
 rw [y04]
end My
set_option Elab.async false
set_option linter.all false
set_option maxRecDepth 100000
set_option maxHeartbeats 4000000
namespace My
open PySem L2 L2.EX
def top (i:Nat):Stmt:=PySem.Challenge.pw_evenyoke_k41_whole_pieces.main.body.getD i (.Pass ⟨0,0,0,0⟩)
local macro_rules | `(tactic| walk_at "run")=>`(tactic| try dsimp only [zc2,zpb,zh8,Cx.nox,Cx.wish,zpf,zom,xT,onB,tOp,xV,sg,tC,zlb,z3x,List.set,zny,zkm,tCB,zf2,zka,tUn,znl,znk,znj,znp,znt,zni,znn,uEq,uNe,uLt,uLe,uGt,uGe,zno,zhd,zmf,zpl,zim,tyN,zo7,xOr,zol,zor,tOr,zot,zk0,zpe,zlr,znv,zo0,spG,z8u,zd2,z3l,z4n,zmc,zjc,zeg,zc4,zp2,zph,za2,zh9,zbx,zld,zoh,znz,zl2,zp5,zm3,zp7,zg4,zp6,znw,zpi,zkb,zow,tIf,zob,zlq,zid,zk4,znm,xSl,zp1,zox,zf9,znu,zck,zdc,zod,zoz,xR1,xR2,xR3,xT2,xT3,zkt,uIs])
local macro_rules | `(tactic| walk_at "one")=>`(tactic| try dsimp only [zc2,zpb,zh8,Cx.nox,Cx.wish,zom,xT,onB,tOp,xV,sg,tC,zlb,z3x,List.set,zny,zkm,tCB,zf2,zka,tUn,znl,znk,znj,znp,znt,zni,znn,uEq,uNe,uLt,uLe,uGt,uGe,zno,zhd,zmf,zpl,zim,tyN,zo7,xOr,zol,zor,tOr,zot,zk0,zpe,zlr,znv,zo0,spG,z8u,zd2,z3l,z4n,zmc,zjc,zeg,zc4,zp2,zph,za2,zh9,zbx,zld,zoh,znz,zl2,zp5,zm3,zp7,zg4,zp6,znw,zpi,zkb,zow,tIf,zob,zlq,zid,zk4,znm,xSl,zp1,zox,zf9,znu,zck,zdc,zod,zoz,xR1,xR2,xR3,xT2,xT3,zkt,uIs])
local macro_rules | `(tactic| walk_at "c")=>`(tactic| first | rfl | (dsimp only [z0u]; done) | (dsimp only [z0u]; rfl))
section
variable {P:Program}{w:World}{K:y03}{mg:Str→Option Value}{base:Heap}
structure FldsPour (K:y03)(C:Addr):Prop where
 many_gives:ClsF K C "many_gives"
 sent:ClsF K C "sent"
 spare:ClsF K C "spare"
 tie_ends:ClsF K C "tie_ends"
 ties_at:ClsF K C "ties_at"
variable {CPour:Addr}
abbrev z4u:Stmt:=top 25
theorem sc_Lmixed:FnScope ["_law_cell","_law_k","_law_number","_law_time"] ["_law_cell","_law_k"] (z05 z4u):=⟨rfl,rfl,rfl,by decide +kernel,rfl,by decide +kernel,by decide +kernel⟩
theorem zfa (T:Top K mg "_law_mixed" z4u ["_law_cell","_law_k"])(B:Blt mg) :Def P w K mg base "_law_mixed" 1 ["_law_cell","_law_k"] (z4n):=by
 refine z1x (k:=0) T sc_Lmixed (fun vs H Q E h=>?_) (fun f cdv A outer s H vs Q E hr h=>?_)
 ·unfold z4n at h
  split at h
  ·rfl
  ·exact h.elim
 unfold z4n at h
 split at h
 ·rename_i c k
  obtain⟨k0,k1,q⟩:=h
  refine⟨_,(z02 (z3k (z0y z6a (z0o z2g (cv 0) z07) z07 (z0r _))
   (z02 (z0c 2 sc_Lmixed.nd (z0o z4f (z47 zei B.abs zef (z00 (cv 0) z04)) z07))
    (z02 (z1w (zgz B.range (z00 (cv 1) z04)) (z0b 3 sc_Lmixed.nd)
    (z08 (z0c 2 sc_Lmixed.nd (z0o z4f (cv 2) (z0o zjd z07 z07)))))
    (z08 (z0s (cv 2)))))
   z1r)
   (z02 (z0c 2 sc_Lmixed.nd (z0o z2g (z0o z30 (cv 0) (z0o z35 z07 (cv 1))) z07))
   (z02 (z0c 2 sc_Lmixed.nd (z0o z2g (z0o z30 (z0o z30 (z0o z35 (cv 2) (cv 2)) (z0o z35 z07 (cv 2))) (cv 1)) z07))
   (z08 (z0s (z0o z2g (z0o z35 (cv 2) (cv 2)) z07)))))),?_⟩
  refine rd (σ':=[some (.int c),some (.int k),none,none]) rfl ?_
  walk_at "run"
  refine⟨by decide,z4i (fun _=>?_) (fun _=>?_)⟩
  ·refine⟨by decide,by decide +kernel,⟨by omega,by omega⟩,?_⟩
   refine z9n (fun i σ H'=>H'=H∧∃(z:Int) (t:Option V),σ = [some (.int c),some (.int k),some (.int z),t]∧0≤z) ⟨rfl,_,_,rfl,?_⟩ ?_ ?_
   ·rw [y3i _ (by decide)]
    have:=zew c
    omega
   ·rintro i σ H' hi ⟨rfl,z,t,rfl,hz⟩
    walk_at "run"
    refine⟨by decide,by decide +kernel,by decide +kernel,by decide +kernel,rfl,_,_,rfl,?_⟩
    rw [y3i _ (by decide +kernel)]
    exact y6t hz (by decide +kernel)
   ·rintro σ H' ⟨rfl,z,t,rfl,hz⟩
    exact q z hz
  ·have m1:=y29 (c+7919*k) (show(2147483629:Int)≠0 by decide)
   have m2:=y2a (c+7919*k) (show(0:Int)<2147483629 by decide)
   have b1:=zcs m1 m2
   refine⟨zbv (m:=20) (n:=20) (by show _<_; decide) ?_ (by decide),by decide,zbv b1 b1 (by decide),zbv (m:=20) (by show _<_; decide) b1 (by decide),by decide,?_⟩
   ·show k.natAbs<2^20
    have:(2:Nat)^20=1048576:=by decide
    omega
   have m3:=y29 ((c+7919*k) % 2147483629*((c+7919*k) % 2147483629)+16807*((c+7919*k) % 2147483629)+k) (show(2147483629:Int)≠0 by decide)
   have m4:=y2a ((c+7919*k) % 2147483629*((c+7919*k) % 2147483629)+16807*((c+7919*k) % 2147483629)+k) (show(0:Int)<2147483629 by decide)
   have b2:=zcs m3 m4
   exact⟨zbv b2 b2 (by decide),by decide,q _ (y29 _ (by decide))⟩
 ·exact h.elim
abbrev z3b:Stmt:=top 24
theorem zbs:FnScope ["_law_script","_law_k"] ["_law_script","_law_k"] (z05 z3b):=⟨rfl,rfl,rfl,by decide +kernel,rfl,by decide +kernel,by decide +kernel⟩
theorem zbz (T:Top K mg "_law_cell_at" z3b ["_law_script","_law_k"])(B:Blt mg) :Def P w K mg base "_law_cell_at" 1 ["_law_script","_law_k"] (z8u K):=by
 refine z1x (k:=0) T zbs (fun vs H Q E h=>?_) (fun f cdv A outer s H vs Q E hr h=>?_)
 ·unfold z8u at h
  split at h
  ·rfl
  ·exact h.elim
 unfold z8u at h
 split at h
 ·rename_i a k
  obtain⟨ns,hS,hk,q⟩:=h
  refine⟨_,(z02 (z3k (z0y za8 (cv 1) (z47 z1z B.len y18 (z00 (cv 0) z04)) (z0r _))
   (z08 (z0s (z0m z0l (cv 0) (cv 1) (fun _ _=>rfl))))
   z1r)
   (z08 (z0s z07))),?_⟩
  refine rd (σ':=[some (.ref a),some (.int k)]) rfl ?_
  walk_at "run"
  refine⟨_,.inl hS,z4i (fun c=>?_) (fun c=>?_)⟩
  ·exact⟨_,_,.inl hS,zlj hk (of_decide_eq_true c),q⟩
  ·have c':¬k<((ns.map V.int).length:Nat):=fun z=>c (decide_eq_true z)
   rw [y04] at c'
   have e:ns.getD k.toNat 0=0:=by
    rw [y07,y0z (by omega)]
    rfl
   rw [e] at q
   exact q
 ·exact h.elim
abbrev z8h:Stmt:=top 28
theorem sc_Lrow:FnScope ["_law_cell","_law_many","_law_thin","_law_number","_law_other","_law_row_here","_law_hand"] ["_law_cell","_law_many","_law_thin"] (z05 z8h):=⟨rfl,rfl,rfl,by decide +kernel,rfl,by decide +kernel,by decide +kernel⟩
theorem zkg (T:Top K mg "_law_row" z8h ["_law_cell","_law_many","_law_thin"])(B:Blt mg)(D_Lmixed:Def P w K mg base "_law_mixed" 1 ["_law_cell","_law_k"] (z4n)):Def P w K mg base "_law_row" 2 ["_law_cell","_law_many","_law_thin"] (zeq):=by
 refine z1x (k:=1) T sc_Lrow (fun vs H Q E h=>?_) (fun f cdv A outer s H vs Q E hr h=>?_)
 ·obtain⟨c,many,th,rfl,_⟩:=h
  rfl
 obtain⟨c,many,th,rfl,hm1,hm,q⟩:=h
 refine⟨_,(z02 (z0c 3 sc_Lrow.nd (z0k D_Lmixed (hr.mono (by decide)) (z00 (cv 0) (z00 z07 z04))))
   (z02 (z0c 4 sc_Lrow.nd (z0k D_Lmixed (hr.mono (by decide)) (z00 (cv 0) (z00 z07 z04))))
   (z02 (z0c 5 sc_Lrow.nd (z19 z04))
   (z02 (z1w (zgz B.range (z00 (cv 1) z04)) (z0b 6 sc_Lrow.nd)
   (z02 (zde (z3k (zaj (z0y z6a (z0o z2g (cv 3) z07) z07 (z0r _)) (z7i (zbn (z0y z6a (z0o z2g (cv 4) z07) z07 (z0r _)) (z8s (z51 (z3r (cv 2))))).pt)).pt
    (z08 (z20 (z0z (cv 5) (z00 (cv 6) z04))))
    z1r))
    (z02 (z0c 3 sc_Lrow.nd (z0o z4f (cv 3) z07))
    (z08 (z0c 4 sc_Lrow.nd (z0o z4f (cv 4) z07))))))
   (z02 (z3k (z0y (zfr hr) (cv 5) (z19 z04) (z0r _))
   (z08 (z0c 5 sc_Lrow.nd (z19 (z00 (z0o z2g (z0k D_Lmixed (hr.mono (by decide)) (z00 (cv 0) (z00 z07 z04))) (cv 1)) z04))))
   z1r)
   (z08 (z0s (cv 5)))))))),?_⟩
 refine rd (σ':=[some (.int c),some (.int (many:Int)),some (.bl th),none,none,none,none]) rfl ?_
 walk_at "run"
 refine⟨by decide,by decide,fun z z0=>?_⟩
 walk_at "run"
 refine⟨by decide,by decide,fun z' z0'=>?_⟩
 walk_at "run"
 refine⟨sz (by show 0≤1000; decide),fun r hr1=>⟨⟨by omega,by omega⟩,?_⟩⟩
 refine z9n (fun j σ' H'=>∃y y' t6 row,σ' = [some (.int c),some (.int (many:Int)),some (.bl th),some (.int y),some (.int y'),some (.ref r),t6]∧Same H H'∧H' r=some (.lst (z0a row))∧row.Pairwise (· < ·)∧∀h∈row,h<j) ⟨_,_,_,[],rfl,z03 hr1 _,z01,y6d,fun _ z=>(by cases z)⟩ ?_ ?_
 ·rintro j σ' H' hj ⟨y,y',t6,row,rfl,s2,kr,rp,rb⟩
  have rl:row.length≤j:=z1e rp rb
  walk_at "run"
  refine⟨fun σ' H'=>∃row,σ' = [some (.int c),some (.int (many:Int)),some (.bl th),some (.int y),some (.int y'),some (.ref r),some (.int (j:Int))]∧Same H H'∧H' r=some (.lst (z0a row))∧row.Pairwise (· < ·)∧∀h∈row,h<j+1,?_,?_⟩
  ·have no:∃row,[some (V.int c),some (.int (many:Int)),some (.bl th),some (.int y),some (.int y'),some (.ref r),some (.int (0+(j:Int)))] = [some (V.int c),some (.int (many:Int)),some (.bl th),some (.int y),some (.int y'),some (.ref r),some (.int (j:Int))]∧Same H H'∧H' r=some (.lst (z0a row))∧row.Pairwise (· < ·)∧∀h∈row,h<j+1:=⟨row,by rw [y33],s2,kr,rp,fun h hh=>by have:=rb h hh; omega⟩
   have yes:(∃xs,H' r=some (.lst xs))∧∃xs,H' r=some (.lst xs)∧xs.length<sizeLine∧∃row,[some (V.int c),some (.int (many:Int)),some (.bl th),some (.int y),some (.int y'),some (.ref r),some (.int (0+(j:Int)))] = [some (V.int c),some (.int (many:Int)),some (.bl th),some (.int y),some (.int y'),some (.ref r),some (.int (j:Int))]∧Same H (upd H' r (.lst (xs ++ [.int (0+(j:Int))])))∧upd H' r (.lst (xs ++ [.int (0+(j:Int))])) r=some (.lst (z0a row))∧row.Pairwise (· < ·)∧∀h∈row,h<j+1:=by
    obtain⟨ra,rb'⟩:=RowOk.add (many:=many) ⟨rp,rb⟩
    refine⟨⟨_,kr⟩,_,kr,z0h (by rw [z0g]; omega),row ++ [j],by rw [y33],fun b o hb=>?_,?_,ra,rb'⟩
    ·rw [z09 (z06 hb hr1)]
     exact s2 _ _ hb
    ·rw [z01]
     unfold z0a
     rw [y0g,y33]
     rfl
   walk_at "run"
   refine⟨by decide,z4i (fun _=>⟨by decide,z4i (fun _=>z86 yes) (fun _=>?_)⟩) (fun _=>zan no)⟩
   cases th
   ·exact z86 yes
   ·exact zan no
  ·rintro σ' H' ⟨row,rfl,s2,kr,rp,rb⟩
   walk_at "run"
   exact⟨by decide,by decide +kernel,by decide,by decide +kernel,_,_,_,row,rfl,s2,kr,rp,rb⟩
 ·rintro σ' H' ⟨y,y',t6,row,rfl,s2,kr,rp,rb⟩
  rw [show((many:Int)).toNat=many by omega] at rb
  walk_at "run"
  refine⟨sz (by show 0≤1000; decide),fun u hu=>?_⟩
  have sU:=z03 hu (.lst [])
  refine⟨z37 row,.list [],is_list.mpr ⟨r,_,rfl,sU _ _ kr,z2c _⟩,is_list.mpr ⟨u,[],rfl,z01,z0q⟩,z5m _,z5m [],?_⟩
  walk_at "run"
  unfold z37
  rw [zjx]
  refine z4i (fun _=>?_) (fun hne=>?_)
  ·have mpos:(0:Int)<(many:Int):=by omega
   refine⟨by decide,by decide,fun w w0=>⟨mpos,sz (by show 1≤1000; decide),fun r2 hr2=>?_⟩⟩
   obtain⟨m,hm'⟩:=y34 (y29 w (show(many:Int)≠0 by omega))
   have hml:=y2a w mpos
   rw [hm'] at hml ⊢
   refine q r2 [m] _ (by simp) (y59 _ _) (fun h hh=>by rw [y0e.mp hh]; omega) (z2z (s2.trans sU) hr2) (s2.trans (sU.trans (z03 hr2 _))) z01
  ·refine q r row _ (fun z=>?_) rp rb hr1 (s2.trans sU) (sU _ _ kr)
   subst z
   exact hne rfl
abbrev z66:Stmt:=top 27
theorem sc_Lwork:FnScope ["_law_cell","_law_number"] ["_law_cell"] (z05 z66):=⟨rfl,rfl,rfl,by decide +kernel,rfl,by decide +kernel,by decide +kernel⟩
theorem zi4 (T:Top K mg "_law_work" z66 ["_law_cell"])(B:Blt mg)(D_Lmixed:Def P w K mg base "_law_mixed" 1 ["_law_cell","_law_k"] (z4n)):Def P w K mg base "_law_work" 2 ["_law_cell"] (zfb):=by
 refine z1x (k:=1) T sc_Lwork (fun vs H Q E h=>?_) (fun f cdv A outer s H vs Q E hr h=>?_)
 ·obtain⟨c,rfl,_⟩:=h
  rfl
 obtain⟨c,rfl,q⟩:=h
 refine⟨_,(z02 (z0c 1 sc_Lwork.nd (z0k D_Lmixed (hr.mono (by decide)) (z00 (cv 0) (z00 z07 z04))))
   (z02 (z3k (z0y z6a (z0o z2g (cv 1) z07) z07 (z0r _))
   (z08 (z0s (z0o z30 z07 (z0o z2g (cv 0) (z0o zjb (z0o zjd z07 z07) z07)))))
   z1r)
   (z02 (z3k (z0y z6a (z0o z2g (cv 1) z07) z07 (z0r _))
   (z08 (z0s (z0o z30 z07 (z0o z2g (z0o z4f (cv 1) z07) z07))))
   z1r)
   (z08 (z0s (z0o z30 z07 (z0o z2g (z0o z4f (cv 1) z07) z07))))))),?_⟩
 refine rd (σ':=[some (.int c),none]) rfl ?_
 walk_at "run"
 refine⟨by decide,by decide,fun z z0=>?_⟩
 walk_at "run"
 have big:(1001:Int)≤10^60:=by decide +kernel
 refine⟨by decide,z4i (fun _=>?_) (fun _=>⟨by decide,z4i (fun _=>?_) (fun _=>?_)⟩)⟩
 ·have m0:=y29 c (show(10^y42 60 - 1:Int)≠0 by decide +kernel)
  have m1:=y2a c (show(0:Int)<10^y42 60 - 1 by decide +kernel)
  have e6:(10:Int)^y42 60=10^60:=rfl
  exact⟨by decide,by decide +kernel,by decide +kernel,q _ (by omega) (by rw [e6] at m1 ⊢; omega)⟩
 ·have m0:=y29 (z.fdiv 4) (show(1000:Int)≠0 by decide)
  have m1:=y2a (z.fdiv 4) (show(0:Int)<1000 by decide)
  exact⟨by decide,by decide +kernel,by decide,q _ (by omega) (by omega)⟩
 ·have m0:=y29 (z.fdiv 4) (show(5:Int)≠0 by decide)
  have m1:=y2a (z.fdiv 4) (show(0:Int)<5 by decide)
  exact⟨by decide,by decide +kernel,by decide,q _ (by omega) (by omega)⟩
abbrev z4v:Stmt:=top 29
theorem sc_Lcrowd:FnScope ["_law_script","_law_number","_law_many","_law_way","_law_works","_law_doers","_law_k","_law_cell","_law_row_here"] ["_law_script"] (z05 z4v):=⟨rfl,rfl,rfl,by decide +kernel,rfl,by decide +kernel,by decide +kernel⟩
theorem zgf (T:Top K mg "_law_crowd" z4v ["_law_script"])(B:Blt mg)(D_Lmixed:Def P w K mg base "_law_mixed" 1 ["_law_cell","_law_k"] (z4n))(D_Lcell_at:Def P w K mg base "_law_cell_at" 1 ["_law_script","_law_k"] (z8u K))(D_Lrow:Def P w K mg base "_law_row" 2 ["_law_cell","_law_many","_law_thin"] (zeq))(D_Lwork:Def P w K mg base "_law_work" 2 ["_law_cell"] (zfb)):Def P w K mg base "_law_crowd" 3 ["_law_script"] (zh6 K):=by
 refine z1x (k:=2) T sc_Lcrowd (fun vs H Q E h=>?_) (fun f cdv A outer s H vs Q E hr h=>?_)
 ·obtain⟨a,ns,rfl,_⟩:=h
  rfl
 obtain⟨a,ns,rfl,hS,hlen,q⟩:=h
 refine⟨_,(z02 (z0c 1 sc_Lcrowd.nd (z0k D_Lmixed (hr.mono (by decide)) (z00 (z0k D_Lcell_at (hr.mono (by decide)) (z00 (cv 0) (z00 z07 z04))) (z00 z07 z04))))
   (z02 (z0c 2 sc_Lcrowd.nd (z0o z30 z07 (z0o z2g (cv 1) z07)))
   (z02 (z0c 3 sc_Lcrowd.nd (z0o z2g (z0o z4f (cv 1) z07) z07))
   (z02 (zde (z3k (z0y z6a (cv 3) z07 (z0r _))
   (z08 (z0c 2 sc_Lcrowd.nd z07))
   z1r))
   (z02 (z0c 4 sc_Lcrowd.nd (z19 z04))
   (z02 (z0c 5 sc_Lcrowd.nd (z19 z04))
   (z02 (z1w (z84 B.enumerate (ziv (cv 0) (z3h z07) (z3h (z0o z30 z07 (z0o z2g (z0o z4f (cv 1) z07) z07))))) (z6u (z0b 6 sc_Lcrowd.nd) (z0b 7 sc_Lcrowd.nd))
   (z02 (z0c 8 sc_Lcrowd.nd (z0k D_Lrow (hr.mono (by decide)) (z00 (cv 7) (z00 (cv 2) (z00 (zmb (z3o za8 (cv 3) z07 (z0r _)) (z7u (z3o z6a (cv 3) z07 (z0r _)))) z04)))))
    (z02 (zde (z3k (z0y z6a (cv 3) z07 (z0r _))
    (z08 (z0c 8 sc_Lcrowd.nd (z47 zf6 B.sorted zfl (z00 (ziv (z19 (z00 (z0o z2g (cv 6) (cv 2)) (z00 (z0o z2g (z0o z30 (cv 6) z07) (cv 2)) z04))) z6d (z3h (z47 zkv B.min zj8 (z00 (cv 2) (z00 z07 z04))))) z04))))
    z1r))
    (z02 (zde (z3k (z0y z6a (cv 3) z07 (z0r _))
    (z08 (z7w (N:=["_law_hand"]) (fr:=[]) 8 1 sc_Lcrowd.nd (zgz B.range (z00 (z0o z30 z07 (z0o z2g (cv 6) (cv 2))) z04)) (fun C hN=>by exact pgC ((z0b 0 hN)) (by walk_at "c")) (fun C hN=>by exact peC ((cv 0)) (by walk_at "c"))))
    z1r))
    (z02 (z20 (z0z (cv 4) (z00 (z0k D_Lwork (hr.mono (by decide)) (z00 (cv 7) z04)) z04)))
    (z08 (z20 (z0z (cv 5) (z00 (cv 8) z04)))))))))
   (z08 (z0s (z4g (z00 (cv 4) (z00 (cv 5) (z00 (cv 2) z04))))))))))))),?_⟩
 refine rd (σ':=[some (.ref a),none,none,none,none,none,none,none,none]) rfl ?_
 walk_at "run"
 refine⟨ns,hS,by decide,by decide,by decide,fun z z0=>⟨by decide,by decide,by decide +kernel,by decide,?_⟩⟩
 obtain⟨n,hn⟩:∃n:Nat,z.fdiv 48 % 9=(n:Int):=⟨(z.fdiv 48 % 9).toNat,by omega⟩
 have n8:n≤8:=by omega
 refine⟨fun σ' H'=>H'=H∧∃(many:Nat) (way:Int),σ' = [some (.ref a),some (.int z),some (.int (many:Int)),some (.int way),none,none,none,none,none]∧0<many∧many≤12,?_,?_⟩
 ·walk_at "run"
  refine z4i (fun _=>⟨rfl,12,_,rfl,by decide,by decide⟩) (fun _=>⟨rfl,(1+z % 6).toNat,z.fdiv 6 % 8,?_,by omega,by omega⟩)
  rw [show(((1+z % 6).toNat:Nat):Int)=1+z % 6 by omega]
 rintro σ' H' ⟨rfl,many,way,rfl,h0,h12⟩
 walk_at "run"
 refine⟨sz (by show 0≤1000; decide),fun lw hlw=>⟨sz (by show 0≤1000; decide),fun ld hld=>⟨by decide,by decide +kernel,by decide,?_⟩⟩⟩
 rw [hn]
 have mpos:(0:Int)<(many:Int):=by omega
 have sW:=(z03 hlw (.lst [])).trans (z03 hld (.lst []))
 refine⟨_,sW.seq hS,fun u hu=>?_⟩
 obtain⟨ms,hms,hml,hml2⟩:=zlx ns 2 n
 rw [show((2:Nat):Int)=2 by rfl] at hms
 rw [hms]
 obtain⟨tw0,nu1,nu2,hu0⟩:=zfm (K:=K) (O:=.lst (ms.map V.int)) hlw hld hu
 have sB:=z03 hu0 (.lst (ms.map V.int))
 have kb:=z01 (H:=H') (a:=u) (o:=.lst (ms.map V.int))
 generalize upd H' u (.lst (ms.map V.int))=Hb at tw0 sB kb
 have ku0:=tw0.same _ _ kb
 generalize upd (upd (upd H' lw (.lst [])) ld (.lst [])) u (.lst (ms.map V.int))=H3 at tw0 ku0 ⊢
 refine⟨⟨_,SqL.of ku0⟩,?_⟩
 refine zcb (xs:=ms.map V.int) (fun j σ' H'=>∃t6 t7 t8 ws rs drs,σ' = [some (.ref a),some (.int z),some (.int (many:Int)),some (.int way),some (.ref lw),some (.ref ld),t6,t7,t8]∧Two K Hb H' lw ld (ws.map V.int) rs (ws.map PyData.int) (drs.map z37)∧ws.length=j∧drs.length=j∧(∀x∈ws,1≤x∧x≤10^60)∧∀r∈drs,r ≠ []∧r.Pairwise (· < ·)∧∀h∈r,h<many) ⟨_,_,_,[],[],[],rfl,tw0,rfl,rfl,fun _ z=>(by cases z),fun _ z=>(by cases z)⟩ ?_ ?_ ?_
 ·rintro j σ' H' _ ⟨t6,t7,t8,ws,rs,drs,rfl,tw,_⟩
  exact SqL.of (tw.same _ _ kb)
 ·rintro j x σ' H' Tp hx ⟨t6,t7,t8,ws,rs,drs,rfl,tw,wl,dl,wb,db⟩ hT
  obtain⟨c,hc,rfl⟩:=zac hx
  have hj:=(y00.mp hc).1
  have sT:=z03 hT (.tup [.int (j:Int),.int c])
  have tw1:=tw.more sT
  have kT:=z01 (H:=H') (a:=Tp) (o:=.tup [.int (j:Int),.int c])
  generalize upd H' Tp (.tup [.int (j:Int),.int c])=H4 at tw1 kT ⊢
  walk_at "run"
  refine⟨_,_,SqT.of kT,?_⟩
  walk_at "run"
  refine zkf (P:=fun th=>zeq [.int c,.int (many:Int),.bl th] H4 _ E0) fun th=>?_
  refine⟨c,many,th,rfl,h0,h12,fun r row H5 rne rise rlt nr s5 hr5=>?_⟩
  have tw2:=tw1.more s5
  have n1:r≠lw:=fun z=>by rw [z,tw1.h1] at nr; cases nr
  have n2:r≠ld:=fun z=>by rw [z,tw1.h2] at nr; cases nr
  clear tw tw1 sT kT s5 nr
  refine⟨fun σ' H'=>∃r row,σ' = [some (.ref a),some (.int z),some (.int (many:Int)),some (.int way),some (.ref lw),some (.ref ld),some (.int (j:Int)),some (.int c),some (.ref r)]∧Two K Hb H' lw ld (ws.map V.int) rs (ws.map PyData.int) (drs.map z37)∧r≠lw∧r≠ld∧H' r=some (.lst (z0a row))∧row ≠ []∧row.Pairwise (· < ·)∧∀h∈row,h<many,?_,?_⟩
  ·walk_at "run"
   refine z4i (fun _=>?_) (fun _=>⟨r,row,rfl,tw2,n1,n2,hr5,rne,rise,rlt⟩)
   refine⟨mpos,mpos,sz (by show 2≤1000; decide),fun l1 hl1=>?_⟩
   have f1:=z03 hl1 (.lst [.int ((j:Int) % (many:Int)),.int (((j:Int)+1) % (many:Int))])
   refine⟨_,SqL.of z01,fun l2 hl2=>?_⟩
   rw [zj3 h0]
   have f2:=z03 hl2 (.lst (((za0 j many).map fun (x:Nat)=>(x:Int)).map V.int))
   obtain⟨rk1,rk2,rk3⟩:=zi0 (j:=j) h0
   refine⟨_,SqL.of z01,by rw [y04]; unfold za0; split<;>simp,fun ss ps os l3 hl3=>?_⟩
   obtain⟨r',er,pr,sr⟩:=zel rk1 ps os
   rw [er]
   have f3:=z03 hl3 (.lst (z0a r'))
   have tw3:=tw2.more (f1.trans (f2.trans f3))
   have h3:=z2z (f1.trans f2) hl3
   refine⟨l3,r',rfl,tw3,fun z=>?_,fun z=>?_,z01,fun z=>?_,sr,fun h hh=>rk3 h (pr.mem_iff.mp hh)⟩
   ·rw [z,tw2.h1] at h3; cases h3
   ·rw [z,tw2.h2] at h3; cases h3
   ·subst z
    exact rk2 (List.nil_perm.mp pr)
  rintro σ' H6 ⟨r,row,rfl,tw3,n1,n2,hr6,rne,rise,rlt⟩
  clear tw2 hr5
  refine⟨fun σ' H'=>∃r row,σ' = [some (.ref a),some (.int z),some (.int (many:Int)),some (.int way),some (.ref lw),some (.ref ld),some (.int (j:Int)),some (.int c),some (.ref r)]∧Two K Hb H' lw ld (ws.map V.int) rs (ws.map PyData.int) (drs.map z37)∧r≠lw∧r≠ld∧H' r=some (.lst (z0a row))∧row ≠ []∧row.Pairwise (· < ·)∧∀h∈row,h<many,?_,?_⟩
  ·walk_at "run"
   refine z4i (fun _=>?_) (fun _=>⟨r,row,rfl,tw3,n1,n2,hr6,rne,rise,rlt⟩)
   have jm:(j:Int) % (many:Int)=((j % many:Nat):Int):=by omega
   have jl:=y74 j h0
   refine⟨mpos,⟨by omega,by omega⟩,?_⟩
   rw [jm,show((1:Int)+((j % many:Nat):Int)).toNat=1+j % many by omega]
   refine cgo (σ':=[none]) rfl ?_
   refine zhf (by omega) fun l1 hl1=>?_
   have f1:=z03 hl1 (.lst (z0a (y0b (1+j % many))))
   refine⟨l1,y0b (1+j % many),rfl,tw3.more f1,fun z=>?_,fun z=>?_,z01,fun z=>?_,y3t,fun h hh=>?_⟩
   ·rw [z,tw3.h1] at hl1; cases hl1
   ·rw [z,tw3.h2] at hl1; cases hl1
   ·have:=congrArg y5w z
    rw [y2i] at this
    simp at this
   ·have:=y1e.mp hh
    omega
  rintro σ' H7 ⟨r,row,rfl,tw4,n1,n2,hr7,rne,rise,rlt⟩
  clear tw3 hr6
  walk_at "run"
  refine⟨⟨_,tw4.h1⟩,c,rfl,fun w w1 w2=>?_⟩
  refine⟨_,tw4.h1,z0h (by rw [y04]; omega),?_⟩
  have ai:IsAll K (z6x H7 lw ld) (ws.map V.int ++ [.int w]) (ws.map PyData.int ++ [.int w]):=z26 tw4.a1 (by simp only [Is])
  have tw5:=tw4.set1 ai
  have hr8:upd H7 lw (.lst (ws.map V.int ++ [.int w])) r=some (.lst (z0a row)):=by rw [z09 n1]; exact hr7
  generalize upd H7 lw (.lst (ws.map V.int ++ [.int w]))=H8 at tw5 hr8 ⊢
  have rl:rs.length=j:=by rw [z0i tw4.a2,y04,dl]
  refine⟨⟨_,tw5.h2⟩,_,tw5.h2,z0h (by omega),?_⟩
  have tw6:=tw5.set2 (z26 tw5.a2 (is_list.mpr ⟨r,_,rfl,by rw [z3n n1 n2]; exact hr8,z2c row⟩))
  refine⟨_,_,_,ws ++ [w],rs ++ [.ref r],drs ++ [row],rfl,by rw [y0g,y0g,y0g]; exact tw6,by rw [y0f]; simp; omega,by rw [y0f]; simp; omega,fun x hx=>?_,fun x hx=>?_⟩
  ·rcases y13.mp hx with hx | hx
   ·exact wb x hx
   ·rw [y0e.mp hx]
    exact⟨w1,w2⟩
  ·rcases y13.mp hx with hx | hx
   ·exact db x hx
   ·rw [y0e.mp hx]
    exact⟨rne,rise,rlt⟩
 ·rintro σ' H' ⟨t6,t7,t8,ws,rs,drs,rfl,tw,wl,dl,wb,db⟩
  rw [y04] at wl dl
  walk_at "run"
  refine⟨sz (by show 3≤1000; decide),fun p hp=>?_⟩
  have s5:=z03 hp (.tup [.ref lw,.ref ld,.int (many:Int)])
  have tw5:=tw.more s5
  have rok:RowsOk ws.length many drs:=⟨by rw [dl,wl],db⟩
  refine q p lw ld ws drs many _ ⟨⟨tw5.h1,is_list.mpr ⟨ld,rs,rfl,tw5.h2,IsAll.same z5r _ _ tw5.a2⟩,by rw [dl,wl],by omega,rok.row (by omega),fun x hx=>(wb x hx).1,fun x hx=>?_⟩,rok,fun x hx=>(wb x hx).2,h0,h12,by omega⟩ (sB.trans tw5.same) z01
  have:=wb x hx
  show x.natAbs<2^300
  have:(10:Nat)^60<2^300:=by decide +kernel
  omega
abbrev z2m:Stmt:=z2l (top 8) 0
theorem sc_Pour_init:FnScope ["self","gives","takes","ties","sent","tie","ends","end"] ["self","gives","takes","ties","sent"] (z05 z2m):=⟨rfl,rfl,rfl,by decide +kernel,rfl,by decide +kernel,by decide +kernel⟩
theorem zb9 (T:MTop K CPour "__init__" "Pour.__init__" z2m ["self","gives","takes","ties","sent"])(B:Blt mg)(F:FldsPour K CPour) :MDef P w K mg base CPour "__init__" 1 ["self","gives","takes","ties","sent"] (zg2 K CPour):=by
 refine z2r (k:=0) T sc_Pour_init (fun vs H Q E h=>?_) (fun f cdv A outer s H vs Q E hr h=>?_)
 ·obtain⟨x,dx,ag,ak,ai,ase,gs,ts,ss,ties,rfl,_⟩:=h
  rfl
 obtain⟨x,dx,ag,ak,ai,ase,gs,ts,ss,ties,rfl,hx,hg,hk,hi,hs,hties,hssl,hsm,htl,q⟩:=h
 obtain⟨_,tv,e1,hai,hal⟩:=is_list.mp hi
 cases e1
 have htv:tv.length=ties.length:=by simpa using z0i hal
 have nk:∀{b:Addr} {xs:List V},H b=some (.lst xs)→b≠x:=fun h=>z61 h hx (by intro z; cases z)
 have nkt:∀{b:Addr} {xs:List V},H b=some (.tup xs)→b≠x:=fun h=>z61 h hx (by intro z; cases z)
 refine⟨_,(z02 (zak F.many_gives (cv 0) (z47 z1z B.len y18 (z00 (cv 1) z04)))
   (z02 (zak F.tie_ends (cv 0) (z3m (N:=["give","take","self"]) (fr:=[0]) 2 (z1o (cv 3)) (fun C hN=>by exact pgC ((z6u (z0b 0 hN) (z0b 1 hN))) (by walk_at "c")) (fun C hN=>by exact peC ((z4g (z00 (cv 0) (z00 (z0o z30 (z1f F.many_gives (cv 2)) (cv 1)) z04)))) (by walk_at "c"))))
   (z02 (zak F.sent (cv 0) (zly z7e B.list z4r (z00 (cv 4) z04)))
   (z02 (zak F.spare (cv 0) (z0o z30 (cv 1) (cv 2)))
   (z02 (zak F.ties_at (cv 0) (z3m (N:=["end"]) (fr:=[]) 1 (z1o (z1f F.spare (cv 0))) (fun C hN=>by exact pgC ((z0b 0 hN)) (by walk_at "c")) (fun C hN=>by exact peC ((z19 z04)) (by walk_at "c"))))
   (z08 (z1w (z84 B.enumerate (z1f F.tie_ends (cv 0))) (z6u (z0b 5 sc_Pour_init.nd) (z0b 6 sc_Pour_init.nd))
   (z08 (z1w (z1o (cv 6)) (z0b 7 sc_Pour_init.nd)
    (z02 (z5b (z1f F.spare (cv 0)) (cv 7) z7h (z0m z0l (z1f F.sent (cv 0)) (cv 5) (fun _ _=>rfl)) z9h z4e)
     (z08 (z20 (z0z (z0m z0l (z1f F.ties_at (cv 0)) (cv 7) (fun _ _=>rfl)) (z00 (cv 5) z04)))))))))))))),?_⟩
 refine rd (σ':=[some (.ref x),some (.ref ag),some (.ref ak),some (.ref ai),some (.ref ase),none,none,none]) rfl ?_
 walk_at "run"
 refine⟨_,.inl (SqL.of hg),dx,[],hx,by decide,?_⟩
 have hgl:(gs.map V.int).length=gs.length:=y04 _
 rw [hgl]
 have ff1:=FF.nil.put "many_gives" (.int (gs.length:Int))
 generalize z77 ("many_gives":Str) (V.int (gs.length:Int)) []=fs1 at ff1 ⊢
 have fz1:Frz [x] H (upd H x (.ins CPour dx fs1)):=Frz.upd (by simp)
 have hx1:upd H x (.ins CPour dx fs1) x=some (.ins CPour dx fs1):=z01
 generalize upd H x (.ins CPour dx fs1)=H1 at fz1 hx1 ⊢
 have kp1:∀{b:Addr} {o:HO},b≠x→H b=some o→H1 b=some o:=fun h q=>fz1 _ _ (by simpa using h) q
 refine .inl ⟨⟨_,SqL.of (kp1 (nk hai) hai)⟩,cgo (σ':=[none,none,some (.ref x)]) rfl ?_⟩
 refine z1j (xs:=tv) (fun i ys H'=>Same H1 H'∧IsAll K H' ys (((z0n gs.length ties).take i).map pr)∧ys.length≤i) ⟨Same.refl _,z0q,y0a _⟩ (z0h (by omega)) ?_ ?_ ?_
 ·rintro i ys H' _ ⟨s1,_,hi⟩
  exact⟨SqL.of (s1 _ _ (kp1 (nk hai) hai)),hi⟩
 ·rintro i y ys H' hy ⟨s1,al,hi⟩
  have hil:=(y00.mp hy).1
  have hp:ties[i]?=some (ties[i]'(by omega)):=y01 _
  obtain⟨a,ha1,ha2⟩:=zhj hal hp
  rw [hy] at ha1
  cases ha1
  have ha':=s1 _ _ (kp1 (nkt ha2) ha2)
  refine⟨_,_,SqT.of ha',?_⟩
  walk_at "run"
  refine z86 ⟨_,_,.int (gs.length:Int),s1 _ _ hx1,by rw [ff1.get,if_pos rfl],sz (by show 2≤1000; decide),fun p' hp'=>?_⟩
  have s2:=z03 hp' (.tup [.int ((ties[i]'(by omega)).1:Int),.int ((gs.length:Int)+((ties[i]'(by omega)).2:Int))])
  refine CNx.mk ⟨s1.trans s2,?_,by rw [y0f]; simp; omega⟩ hil
  have hend:(z0n gs.length ties)[i]?=some ((ties[i]'(by omega)).1,gs.length+(ties[i]'(by omega)).2):=by
   unfold z0n
   rw [y06,hp]
   rfl
  rw [z0d hend,y0g]
  refine z26 (IsAll.same s2 _ _ al) ?_
  refine is_frac.mpr ⟨p',rfl,?_⟩
  rw [z01]
  rfl
 rintro tl H2 ⟨s2,al2,_⟩ lT hlT
 have hel:(z0n gs.length ties).length=ties.length:=by unfold z0n; rw [y04]
 rw [htv,y08 (by omega)] at al2
 have s3:=z03 hlT (.lst tl)
 refine⟨dx,fs1,(s2.trans s3) _ _ hx1,y2m ff1.len (by decide),?_⟩
 have ff2:=ff1.put "tie_ends" (.ref lT)
 generalize z77 ("tie_ends":Str) (V.ref lT) fs1=fs2 at ff2 ⊢
 have nlTx:lT≠x:=fun z=>(z06 (s2 _ _ hx1) hlT) z.symm
 have fz3:Frz [x] H (upd (upd H2 lT (.lst tl)) x (.ins CPour dx fs2)):=(fz1.trans (Frz.of (s2.trans s3))).trans (Frz.upd (by simp))
 have hx3:upd (upd H2 lT (.lst tl)) x (.ins CPour dx fs2) x=some (.ins CPour dx fs2):=z01
 have hT3:upd (upd H2 lT (.lst tl)) x (.ins CPour dx fs2) lT=some (.lst tl):=by rw [z09 nlTx,z01]
 have al3:IsAll K (upd (upd H2 lT (.lst tl)) x (.ins CPour dx fs2)) tl ((z0n gs.length ties).map pr):=z2b (IsAll.same s3 _ _ al2) fun b xs hb=>by
  rw [z09 (z61 hb ((s2.trans s3) _ _ hx1) (by intro z; cases z))]
  exact hb
 have hHT:H lT=none:=by
  cases z:H lT with
  | none=>rfl
  | some o =>
   exfalso
   have:=s2 _ _ (kp1 nlTx z)
   rw [hlT] at this
   cases this
 clear s3 al2
 generalize upd (upd H2 lT (.lst tl)) x (.ins CPour dx fs2)=H3 at fz3 hx3 hT3 al3 ⊢
 have kp3:∀{b:Addr} {o:HO},b≠x→H b=some o→H3 b=some o:=fun h q=>fz3 _ _ (by simpa using h) q
 refine⟨_,.inl (SqL.of (kp3 (nk hs) hs)),fun lS hlS=>?_⟩
 have s4:=z03 hlS (.lst (ss.map V.int))
 refine⟨dx,fs2,s4 _ _ hx3,y2m ff2.len (by decide),?_⟩
 have ff3:=ff2.put "sent" (.ref lS)
 generalize z77 ("sent":Str) (V.ref lS) fs2=fs3 at ff3 ⊢
 have nSx:lS≠x:=fun z=>(z06 hx3 hlS) z.symm
 have nST:lS≠lT:=fun z=>(z06 hT3 hlS) z.symm
 have hHS:H lS=none:=by
  cases z:H lS with
  | none=>rfl
  | some o =>
   exfalso
   have:=kp3 nSx z
   rw [hlS] at this
   cases this
 have fz4:Frz [x] H (upd (upd H3 lS (.lst (ss.map V.int))) x (.ins CPour dx fs3)):=(fz3.trans (Frz.of s4)).trans (Frz.upd (by simp))
 have hx4:upd (upd H3 lS (.lst (ss.map V.int))) x (.ins CPour dx fs3) x=some (.ins CPour dx fs3):=z01
 have hT4:upd (upd H3 lS (.lst (ss.map V.int))) x (.ins CPour dx fs3) lT=some (.lst tl):=by rw [z09 nlTx]; exact s4 _ _ hT3
 have hS4:upd (upd H3 lS (.lst (ss.map V.int))) x (.ins CPour dx fs3) lS=some (.lst (ss.map V.int)):=by rw [z09 nSx,z01]
 have al4:IsAll K (upd (upd H3 lS (.lst (ss.map V.int))) x (.ins CPour dx fs3)) tl ((z0n gs.length ties).map pr):=z2b (IsAll.same s4 _ _ al3) fun b xs hb=>by
  rw [z09 (z61 hb (s4 _ _ hx3) (by intro z; cases z))]
  exact hb
 clear s4 al3 hx3 hT3 kp3 fz3 hlS
 generalize upd (upd H3 lS (.lst (ss.map V.int))) x (.ins CPour dx fs3)=H4 at fz4 hx4 hT4 hS4 al4 ⊢
 have kp4:∀{b:Addr} {o:HO},b≠x→H b=some o→H4 b=some o:=fun h q=>fz4 _ _ (by simpa using h) q
 refine⟨_,_,kp4 (nk hg) hg,kp4 (nk hk) hk,sz (by rw [y04,y04]; exact hsm),fun lP hlP=>?_⟩
 have ecap:gs.map V.int++ts.map V.int=(gs++ts).map V.int:=by rw [y0g]
 rw [ecap]
 have s5:=z03 hlP (.lst ((gs++ts).map V.int))
 refine⟨dx,fs3,s5 _ _ hx4,y2m ff3.len (by decide),?_⟩
 have ff4:=ff3.put "spare" (.ref lP)
 generalize z77 ("spare":Str) (V.ref lP) fs3=fs4 at ff4 ⊢
 have nPx:lP≠x:=fun z=>(z06 hx4 hlP) z.symm
 have nPT:lP≠lT:=fun z=>(z06 hT4 hlP) z.symm
 have nPS:lP≠lS:=fun z=>(z06 hS4 hlP) z.symm
 have hHP:H lP=none:=by
  cases z:H lP with
  | none=>rfl
  | some o =>
   exfalso
   have:=kp4 nPx z
   rw [hlP] at this
   cases this
 have fz5:Frz [x] H (upd (upd H4 lP (.lst ((gs++ts).map V.int))) x (.ins CPour dx fs4)):=(fz4.trans (Frz.of s5)).trans (Frz.upd (by simp))
 have hx5:upd (upd H4 lP (.lst ((gs++ts).map V.int))) x (.ins CPour dx fs4) x=some (.ins CPour dx fs4):=z01
 have hT5:upd (upd H4 lP (.lst ((gs++ts).map V.int))) x (.ins CPour dx fs4) lT=some (.lst tl):=by rw [z09 nlTx]; exact s5 _ _ hT4
 have hS5:upd (upd H4 lP (.lst ((gs++ts).map V.int))) x (.ins CPour dx fs4) lS=some (.lst (ss.map V.int)):=by rw [z09 nSx]; exact s5 _ _ hS4
 have hP5:upd (upd H4 lP (.lst ((gs++ts).map V.int))) x (.ins CPour dx fs4) lP=some (.lst ((gs++ts).map V.int)):=by rw [z09 nPx,z01]
 have al5:IsAll K (upd (upd H4 lP (.lst ((gs++ts).map V.int))) x (.ins CPour dx fs4)) tl ((z0n gs.length ties).map pr):=z2b (IsAll.same s5 _ _ al4) fun b xs hb=>by
  rw [z09 (z61 hb (s5 _ _ hx4) (by intro z; cases z))]
  exact hb
 clear s5 al4 hx4 hT4 hS4 kp4 fz4 hlP
 generalize upd (upd H4 lP (.lst ((gs++ts).map V.int))) x (.ins CPour dx fs4)=H5 at fz5 hx5 hT5 hS5 hP5 al5 ⊢
 refine⟨_,_,.ref lP,hx5,by rw [ff4.get,if_pos rfl],?_⟩
 refine .inl ⟨⟨_,SqL.of hP5⟩,cgo (σ':=[none]) rfl ?_⟩
 have hcl:((gs++ts).map V.int).length=gs.length+ts.length:=by rw [y04,y0f]
 refine z1j (xs:=(gs++ts).map V.int) (fun i ys H'=>Same H5 H'∧∃as:List Addr,ys=as.map V.ref∧as.length=i∧as.Nodup∧∀a∈as,H' a=some (.lst [])∧H5 a=none) ⟨Same.refl _,[],rfl,rfl,List.nodup_nil,fun a ha=>by simp at ha⟩ (z0h (by omega)) ?_ ?_ ?_
 ·rintro i ys H' _ ⟨s6,as,rfl,hal,_⟩
  exact⟨SqL.of (s6 _ _ hP5),by rw [y04]; omega⟩
 ·rintro i y ys H' hy ⟨s6,as,rfl,hal,hnd,has⟩
  walk_at "run"
  refine z86 ⟨sz (by show 0≤1000; decide),fun p hp=>?_⟩
  have s7:=z03 hp (.lst [])
  refine CNx.mk ⟨s6.trans s7,as ++ [p],by rw [y0g]; rfl,by rw [y0f]; simp; omega,?_,fun a ha=>?_⟩ (y00.mp hy).1
  ·rw [y51]
   refine⟨hnd,by simp,fun a ha b hb=>?_⟩
   rw [y0e.mp hb]
   exact z06 (has a ha).1 hp
  ·rcases y13.mp ha with ha | ha
   ·exact⟨s7 _ _ (has a ha).1,(has a ha).2⟩
   ·rw [y0e.mp ha]
    exact⟨z01,s6.free hp⟩
 rintro ys H6 ⟨s6,as,rfl,hasl,hnd,has⟩ lA hlA
 have s7:=z03 hlA (.lst (as.map V.ref))
 refine⟨dx,fs4,(s6.trans s7) _ _ hx5,y2m ff4.len (by decide),?_⟩
 have ff5:=ff4.put "ties_at" (.ref lA)
 generalize z77 ("ties_at":Str) (V.ref lA) fs4=fs5 at ff5 ⊢
 have hHA:lA≠x:=fun z=>(z06 (s6 _ _ hx5) hlA) z.symm
 have nfresh:∀a∈as,a≠x∧a≠lT∧a≠lS∧a≠lP∧a≠lA:=fun a ha=>by
  obtain⟨h1,h2⟩:=has a ha
  exact⟨fun z=>(z06 hx5 h2) z.symm,fun z=>(z06 hT5 h2) z.symm,fun z=>(z06 hS5 h2) z.symm,fun z=>(z06 hP5 h2) z.symm,fun z=>(z06 h1 hlA) z⟩
 have Ap:Aprt x lT lS lP lA as:=⟨nPx,nPT,nPS,fun z=>(z06 (s6 _ _ hP5) hlA) z,fun z=>(nfresh _ z).2.2.2.1 rfl,fun z=>(nfresh _ z).1 rfl,fun z=>(nfresh _ z).2.1 rfl,fun z=>(nfresh _ z).2.2.1 rfl,fun z=>(nfresh _ z).2.2.2.2 rfl,hnd⟩
 have nAT:lT≠lA:=z06 (s6 _ _ hT5) hlA
 have nAS:lS≠lA:=z06 (s6 _ _ hS5) hlA
 have fz7:Frz [x] H (upd (upd H6 lA (.lst (as.map V.ref))) x (.ins CPour dx fs5)):=(fz5.trans (Frz.of (s6.trans s7))).trans (Frz.upd (by simp))
 have s67:=s6.trans s7
 have I7:IniAt K CPour (upd (upd H6 lA (.lst (as.map V.ref))) x (.ins CPour dx fs5)) x dx lT lS lP lA fs5 tl (z0n gs.length ties) ss as (gs.length+ts.length) (fun e=>(gs++ts).getD e 0) (fun _=>[]):=by
  refine⟨z01,by rw [z09 nlTx]; exact s67 _ _ hT5,z2b (IsAll.same s67 _ _ al5) fun b xs hb=>by rw [z09 (z61 hb (s67 _ _ hx5) (by intro z; cases z))]; exact hb,by rw [z09 nSx]; exact s67 _ _ hS5,by rw [z09 hHA,z01],?_,fun e a h=>?_⟩
  ·rw [z09 nPx,s67 _ _ hP5]
   have:=zdy (gs++ts)
   rw [y0f] at this
   rw [this]
  ·have hm:=y02 h
   rw [z09 (nfresh a hm).1]
   exact s7 _ _ (has a hm).1
 generalize upd (upd H6 lA (.lst (as.map V.ref))) x (.ins CPour dx fs5)=H7 at fz7 I7 ⊢
 have hasH:∀a∈as,H a=none:=fun a ha=>by
  cases z:H a with
  | none=>rfl
  | some o =>
   exfalso
   have:=fz5 _ _ (by simpa using (nfresh a ha).1) z
   rw [(has a ha).2] at this
   cases this
 clear s7 s67 s6 hx5 hT5 hS5 hP5 al5 has nfresh hlA fz5
 have hG:fs5.lookup ("many_gives":Str)=some (.int (gs.length:Int)):=by rw [ff5.get,if_neg (by decide),if_neg (by decide),if_neg (by decide),if_neg (by decide),if_pos rfl]
 have hTe:fs5.lookup ("tie_ends":Str)=some (.ref lT):=by rw [ff5.get,if_neg (by decide),if_neg (by decide),if_neg (by decide),if_pos rfl]
 have hSe:fs5.lookup ("sent":Str)=some (.ref lS):=by rw [ff5.get,if_neg (by decide),if_neg (by decide),if_pos rfl]
 have hPe:fs5.lookup ("spare":Str)=some (.ref lP):=by rw [ff5.get,if_neg (by decide),if_pos rfl]
 have hAe:fs5.lookup ("ties_at":Str)=some (.ref lA):=by rw [ff5.get,if_pos rfl]
 have htll:tl.length=ties.length:=by have:=z0i I7.al; rw [y04,hel] at this; exact this
 have hasn:as.length=gs.length+ts.length:=by rw [hasl,hcl]
 walk_at "run"
 refine⟨_,_,_,I7.me,hTe,⟨_,SqL.of I7.te⟩,?_⟩
 refine zcb (xs:=tl) (fun i σ H'=>∃t5 t6 t7:Option V,σ = [some (.ref x),some (.ref ag),some (.ref ak),some (.ref ai),some (.ref ase),t5,t6,t7]∧Frz [x] H H'∧IniAt K CPour H' x dx lT lS lP lA fs5 tl (z0n gs.length ties) ss as (gs.length+ts.length) (z9y (gs++ts) (z0n gs.length ties) ss i) (zcp (z0n gs.length ties) i))
  ⟨_,_,_,rfl,fz7,?_⟩ ?_ ?_ ?_
 ·have e1:(fun e=>(gs++ts).getD e 0)=z9y (gs++ts) (z0n gs.length ties) ss 0:=by
   funext e
   unfold z9y
   simp [PM.load]
  have e2:(fun _=>[])=zcp (z0n gs.length ties) 0:=by
   funext e
   rfl
  rw [←e1,←e2]
  exact I7
 ·rintro i σ H' _ ⟨t5,t6,t7,rfl,fz,I⟩
  exact SqL.of I.te
 ·clear I7 fz7
  rintro i y σ H' p hy ⟨t5,t6,t7,rfl,fz,I⟩ hp
  have hil:i<ties.length:=by rw [←htll]; exact(y00.mp hy).1
  obtain⟨pt,hpt⟩:∃pt,ties[i]?=some pt:=⟨_,y01 hil⟩
  have hend:(z0n gs.length ties)[i]?=some (pt.1,gs.length+pt.2):=by
   unfold z0n
   rw [y06,hpt]
   rfl
  obtain⟨v1,v2⟩:=hties pt (y02 hpt)
  obtain⟨a,ha1,ha2⟩:=zhj I.al hend
  rw [hy] at ha1
  cases ha1
  obtain⟨sv,hsv⟩:∃sv,ss[i]?=some sv:=⟨_,y01 (by omega)⟩
  have s8:=z03 hp (.tup [.int (i:Int),.ref a])
  have hpx:H p=none:=by
   cases z:H p with
   | none=>rfl
   | some o =>
    exfalso
    by_cases c:p=x
    ·subst c
     rw [I.me] at hp
     cases hp
    ·rw [fz _ _ (by simpa using c) z] at hp
     cases hp
  have I8:=I.same s8
  have fz8:=fz.trans (Frz.of (L:=[x]) s8)
  refine⟨_,_,SqT.of z01,?_⟩
  have ha8:=s8 _ _ ha2
  clear I fz
  generalize upd H' p (.tup [.int (i:Int),.ref a])=H8 at I8 fz8 ha8 ⊢
  walk_at "run"
  refine .inr ⟨⟨_,SqT.of ha8⟩,?_⟩
  refine zj7 (xs:=[.int (pt.1:Int),.int ((gs.length+pt.2:Nat):Int)]) (fun j σ H'=>∃t7:Option V,σ = [some (.ref x),some (.ref ag),some (.ref ak),some (.ref ai),some (.ref ase),some (.int (i:Int)),some (.ref a),t7]∧Frz [x] H H'∧H' a=some (.tup [.int (pt.1:Int),.int ((gs.length+pt.2:Nat):Int)])∧∃(sf:Nat→Int) (af:Nat→List Nat),IniAt K CPour H' x dx lT lS lP lA fs5 tl (z0n gs.length ties) ss as (gs.length+ts.length) sf af ∧
    (∀e,sf e=z9y (gs++ts) (z0n gs.length ties) ss i e - (if 1≤j∧e=pt.1 then sv else 0) - (if 2≤j∧e=gs.length+pt.2 then sv else 0))∧(∀e,af e=zcp (z0n gs.length ties) i e++(if 1≤j∧e=pt.1 then [i] else [])++(if 2≤j∧e=gs.length+pt.2 then [i] else [])))
   ⟨_,rfl,fz8,ha8,_,_,I8,fun e=>by simp,fun e=>by simp⟩ ?_ ?_ ?_
  ·rintro j σ H' _ ⟨t7,rfl,fz,h,_⟩
   exact SqT.of h
  ·clear I8 fz8 ha8
   rintro j v σ H' hv ⟨t7,rfl,fz,hta,sf,af,I,hsf,haf⟩
   obtain⟨e,rfl,he,hej⟩:∃e:Nat,v = .int (e:Int)∧e<gs.length+ts.length∧((j=0∧e=pt.1)∨(j=1∧e=gs.length+pt.2)):=by
    match j,hv with
    | 0,hv=>exact⟨pt.1,(y12 hv).symm,by omega,.inl ⟨rfl,rfl⟩⟩
    | 1,hv=>exact⟨gs.length+pt.2,(y12 hv).symm,by omega,.inr ⟨rfl,rfl⟩⟩
    | n+2,hv=>cases hv
   obtain⟨ae,hae⟩:∃ae,as[e]?=some ae:=⟨_,y01 (by omega)⟩
   walk_at "run"
   refine⟨_,_,_,I.me,hPe,_,_,I.sp,by omega,z5a (z5d sf he),_,_,_,I.me,hSe,_,_,.inl (SqL.of I.st),z2y hsv,?_⟩
   walk_at "run"
   refine⟨_,e,I.sp,z33 (by rw [y04,y04,y2i]; exact he),?_⟩
   have hset:(((y0b (gs.length+ts.length)).map sf).map V.int).set e (.int (sf e - sv))=((y0b (gs.length+ts.length)).map (fun y=>if y=e then sf e - sv else sf y)).map V.int:=by rw [←zln,y2b]
   rw [hset]
   have I9:=I.spare Ap (fun y=>if y=e then sf e - sv else sf y)
   have fz9:Frz [x] H (upd H' lP (.lst (((y0b (gs.length+ts.length)).map (fun y=>if y=e then sf e - sv else sf y)).map V.int))):=fz.new hHP
   have hta9:upd H' lP (.lst (((y0b (gs.length+ts.length)).map (fun y=>if y=e then sf e - sv else sf y)).map V.int)) a=some (.tup [.int (pt.1:Int),.int ((gs.length+pt.2:Nat):Int)]):=by rw [z09 (z61 hta I.sp (by intro z; cases z))]; exact hta
   generalize upd H' lP (.lst (((y0b (gs.length+ts.length)).map (fun y=>if y=e then sf e - sv else sf y)).map V.int))=H9 at I9 fz9 hta9 ⊢
   have hr9:(as.map V.ref)[e]?=some (.ref ae):=by rw [y06,hae]; rfl
   refine⟨_,_,_,I9.me,hAe,_,_,.inl (SqL.of I9.ta),z28 hr9,?_⟩
   walk_at "run"
   have hafl:(z0a (af e)).length≤2000:=by
    rw [z3q,haf e]
    have h1:(zcp (z0n gs.length ties) i e).length≤i:=by
     unfold zcp
     refine y1a (y3f _ _) ?_
     simp
    rw [y0f,y0f]
    split<;>split<;>simp<;>omega
   refine⟨⟨_,I9.tt e ae hae⟩,_,I9.tt e ae hae,y2m hafl (by decide),?_⟩
   rw [zcz]
   have I10:=I9.tie Ap hae (af e ++ [i])
   have hHae:H ae=none:=hasH ae (y02 hae)
   refine⟨_,rfl,fz9.new hHae,by rw [z09 (z61 hta9 (I9.tt e ae hae) (by intro z; cases z))]; exact hta9,_,_,I10,fun y=>?_,fun y=>?_⟩
   ·by_cases c:y=e
    ·subst c
     rw [if_pos rfl,hsf y]
     rcases hej with ⟨rfl,h2⟩ | ⟨rfl,h2⟩
     ·simp [h2]
     ·have:y≠pt.1:=by omega
      simp [h2,this]
    ·rw [if_neg c,hsf y]
     rcases hej with ⟨rfl,h2⟩ | ⟨rfl,h2⟩
     ·have:y≠pt.1:=by omega
      simp [this]
     ·have:y≠gs.length+pt.2:=by omega
      simp [this]
   ·by_cases c:y=e
    ·subst c
     rw [if_pos rfl,haf y]
     rcases hej with ⟨rfl,h2⟩ | ⟨rfl,h2⟩
     ·simp [h2]
     ·have:y≠pt.1:=by omega
      simp [h2,this]
    ·rw [if_neg c,haf y]
     rcases hej with ⟨rfl,h2⟩ | ⟨rfl,h2⟩
     ·have:y≠pt.1:=by omega
      simp [this]
     ·have:y≠gs.length+pt.2:=by omega
      simp [this]
  ·rintro σ H' ⟨t7,rfl,fz,hta,sf,af,I,hsf,haf⟩
   refine⟨_,_,_,rfl,fz,?_⟩
   have e1:sf=z9y (gs++ts) (z0n gs.length ties) ss (i+1):=by
    funext e
    rw [hsf e]
    unfold z9y
    rw [z0d hend,z0d hsv,zaz (by rw [y0v,y0v]; omega)]
    by_cases c1:e=pt.1
    ·have c2:¬e=gs.length+pt.2:=by omega
     have:PM.inc (pt.1,gs.length+pt.2) e=true:=by simp [PM.inc,c1]
     simp [c1,this]
     have c3:¬pt.1=gs.length+pt.2:=by omega
     simp [c3]
     rw [c1] at this
     simp [this]
     omega
    ·by_cases c2:e=gs.length+pt.2
     ·have:PM.inc (pt.1,gs.length+pt.2) e=true:=by simp [PM.inc,c2]
      simp only [c1,and_false,if_false,this,if_true,c2,and_self]
      simp
      rw [c2] at this
      simp [this]
      omega
     ·have:PM.inc (pt.1,gs.length+pt.2) e=false:=by
       simp [PM.inc]
       omega
      simp [c1,c2,this]
   have e2:af=zcp (z0n gs.length ties) (i+1):=by
    funext e
    rw [haf e,zff,show(z0n gs.length ties).getD i (0,0)=(pt.1,gs.length+pt.2) by simp [y1k,hend]]
    by_cases c1:e=pt.1
    ·subst c1
     have c2:¬pt.1=gs.length+pt.2:=by omega
     have:PM.inc (pt.1,gs.length+pt.2) pt.1=true:=by simp [PM.inc]
     simp [c2,this]
    ·by_cases c2:e=gs.length+pt.2
     ·subst c2
      have:PM.inc (pt.1,gs.length+pt.2) (gs.length+pt.2)=true:=by simp [PM.inc]
      simp [c1,this]
     ·have:PM.inc (pt.1,gs.length+pt.2) e=false:=by
       simp [PM.inc]
       omega
      simp [c1,c2,this]
   rw [←e1,←e2]
   exact I
 ·clear I7 fz7
  rintro σ H' ⟨t5,t6,t7,rfl,fz,I⟩
  rw [htll] at I
  have nin:∀{b:Addr},b≠lS→b≠lP→(if b=lS∨b=lP then none else H' b)=H' b:=fun h1 h2=>if_neg fun z=>z.elim h1 h2
  refine q lS lP H' fz hHS hHP ⟨⟨fun b=>if b=lS∨b=lP then none else H' b,fun b o h=>?_,if_pos (.inl rfl),if_pos (.inr rfl),fun m hm=>by simp at hm,⟨dx,fs5,lT,lA,?_,hG,hTe,hSe,hPe,hAe,?_,?_,fun m hm=>?_⟩⟩,fun m hm=>by simp at hm,I.st,?_,nPS.symm,z5u hties,?_,?_,?_,?_⟩
  ·have h':(if b=lS∨b=lP then none else H' b)=some o:=h
   split at h'
   ·cases h'
   ·exact h'
  ·refine(nin nSx.symm nPx.symm).trans ?_
   exact I.me
  ·refine is_list.mpr ⟨lT,tl,rfl,?_,z2b I.al fun b ys hb=>?_⟩
   ·refine(nin nST.symm nPT.symm).trans ?_
    exact I.te
   ·refine(nin (z61 hb I.st (by intro z; cases z)) (z61 hb I.sp (by intro z; cases z))).trans ?_
    exact hb
  ·refine is_list.mpr ⟨lA,as.map V.ref,rfl,?_,zd9 ?_ fun i v dd h1 h2=>?_⟩
   ·refine(nin nAS.symm Ap.PA.symm).trans ?_
    exact I.ta
   ·show _=(((y0b (gs.length+ts.length)).map (zcp (z0n gs.length ties) ties.length)).map z37).length
    rw [y04,y04,y04,y2i]
    exact hasn
   ·have h2':(((y0b (gs.length+ts.length)).map (zcp (z0n gs.length ties) ties.length)).map z37)[i]?=some dd:=h2
    rw [y06] at h1
    cases z:as[i]? with
    | none=>rw [z] at h1; cases h1
    | some a =>
     rw [z] at h1
     cases h1
     have hin:i<gs.length+ts.length:=by have:=(y00.mp z).1; omega
     rw [y06,z5d _ hin] at h2'
     cases h2'
     have hm:=y02 z
     refine is_list.mpr ⟨a,_,rfl,?_,z2c _⟩
     refine(nin (fun e=>Ap.inS (by rw [←e]; exact hm)) (fun e=>Ap.inP (by rw [←e]; exact hm))).trans ?_
     exact I.tt i a z
  ·rw [ff5.get]
   simp only [y0m,y1c,or_false] at hm
   rcases hm with rfl | rfl | rfl | rfl | rfl | rfl | rfl | rfl | rfl | rfl | rfl | rfl<;>(rw [if_neg (by decide),if_neg (by decide),if_neg (by decide),if_neg (by decide),if_neg (by decide)])
  ·exact I.sp
  ·show ss.length=(ties.map _).length
   rw [y04]
   exact hssl
  ·show _=gs.length+ts.length
   simp
  ·show gs.length+ts.length≤1000
   exact hsm
  ·show(ties.map _).length≤1000
   rw [y04]
   exact htl
abbrev z0p:Stmt:=z2l (top 8) 3
theorem z45:FnScope ["self"] ["self"] (z05 z0p):=⟨rfl,rfl,rfl,by decide +kernel,rfl,by decide +kernel,by decide +kernel⟩
theorem z4d (T:MTop K CPour "gives_with_rest" "Pour.gives_with_rest" z0p ["self"])(B:Blt mg)(F:FldsPour K CPour) :MDef P w K mg base CPour "gives_with_rest" 1 ["self"] (zeu K CPour):=by
 refine z2r (k:=0) T z45 (fun vs H Q E h=>?_) (fun f cdv A outer s H vs Q E hr h=>?_)
 ·obtain⟨me,N,aS,aP,sent,spare,M,rfl,_⟩:=h
  rfl
 obtain⟨me,N,aS,aP,sent,spare,M,rfl,hP,q⟩:=h
 obtain⟨dx,fs,aT,aA,ts,rs,g1,g2,g3,g4,g5,g6,g7,g8,g9,g10,g11⟩:=hP.get
 refine⟨_,(z08 (z0s (z5n (N:=["give","self"]) (fr:=[0]) 1 (zgz B.range (z00 (z1f F.many_gives (cv 0)) z04)) (fun C hN=>by exact pgC ((z0b 0 hN)) (by walk_at "c")) (fun C hN=>by exact ptC ((z0y z7d (z0m z0l (z1f F.spare (cv 1)) (cv 0) (fun _ _=>rfl)) z07 (z0r _))) (by walk_at "c")) (fun C hN=>by exact peC ((cv 0)) (by walk_at "c"))))),?_⟩
 refine rd (σ':=[some (.ref me)]) rfl ?_
 walk_at "run"
 have gG:N.G≤N.nE:=hP.wf.gle
 have hsm:=hP.sm
 refine⟨_,_,_,g1,g2,?_⟩
 walk_at "run"
 refine⟨⟨by omega,by omega⟩,cgo (σ':=[none,some (.ref me)]) rfl ?_⟩
 refine z8i (n:=(N.G:Int).toNat) (fun i ys H'=>H'=H∧ys=z0a ((y0b i).filter fun g=>decide (0<spare.getD g 0))) ⟨rfl,rfl⟩ (z0h (by omega)) ?_ ?_ ?_
 ·rintro i ys H' _ ⟨rfl,rfl⟩
  unfold z0a
  rw [y04]
  refine y1a (y3f _ _) ?_
  simp
 ·rintro i ys H' hi ⟨rfl,rfl⟩
  have hi':i<spare.length:=by rw [hP.lp]; omega
  walk_at "run"
  refine⟨_,_,_,g1,g5,_,_,.inl (SqL.of hP.sp),by rw [y33]; exact z2y (z0x hi'),?_⟩
  walk_at "run"
  have e:(y0b (i+1)).filter (fun g=>decide (0<spare.getD g 0))=(y0b i).filter (fun g=>decide (0<spare.getD g 0))++(if 0<spare.getD i 0 then [i] else []):=by
   rw [y3g,y39]
   congr 1
   by_cases c:0<spare.getD i 0<;>simp only [y37,y6x,decide_eq_true_eq,c,if_true,if_false]
  refine z4i (fun c=>?_) (fun c=>?_)
  ·refine CNx.mk ⟨rfl,?_⟩ hi
   rw [e,if_pos (of_decide_eq_true c)]
   unfold z0a
   rw [y0g,y33]
   rfl
  ·refine CNx.mk ⟨rfl,?_⟩ hi
   rw [e,if_neg (fun z=>c (decide_eq_true z)),y2u]
 ·rintro ys H' ⟨rfl,rfl⟩ l hl
  exact q l hl
abbrev z1m:Stmt:=z2l (top 8) 4
theorem z6r:FnScope ["self","ends"] ["self","ends"] (z05 z1m):=⟨rfl,rfl,rfl,by decide +kernel,rfl,by decide +kernel,by decide +kernel⟩
theorem z6q (T:MTop K CPour "has_room" "Pour.has_room" z1m ["self","ends"])(B:Blt mg)(F:FldsPour K CPour) :MDef P w K mg base CPour "has_room" 1 ["self","ends"] (zcn K CPour):=by
 refine z2r (k:=0) T z6r (fun vs H Q E h=>?_) (fun f cdv A outer s H vs Q E hr h=>?_)
 ·obtain⟨me,N,aS,aP,sent,spare,M,l,es,rfl,_⟩:=h
  rfl
 obtain⟨me,N,aS,aP,sent,spare,M,l,es,rfl,hP,hl,hz,hes,q⟩:=h
 obtain⟨dx,fs,aT,aA,ts,rs,g1,g2,g3,g4,g5,g6,g7,g8,g9,g10,g11⟩:=hP.get
 refine⟨_,(z08 (z0s (z47 zjg B.any zji (z00 (z3m (N:=["end","self"]) (fr:=[0]) 1 (z1o (cv 1)) (fun C hN=>by exact pgC ((z0b 0 hN)) (by walk_at "c")) (fun C hN=>by exact peC ((z9p (z3o zi1 (cv 0) (z1f F.many_gives (cv 1)) (z0r _)) (z7u (z3o z7d (z0m z0l (z1f F.spare (cv 1)) (cv 0) (fun _ _=>rfl)) z07 (z0r _))))) (by walk_at "c"))) z04)))),?_⟩
 refine rd (σ':=[some (.ref me),some (.ref l)]) rfl ?_
 walk_at "run"
 refine .inl ⟨⟨_,SqL.of hl⟩,cgo (σ':=[none,some (.ref me)]) rfl ?_⟩
 refine z1j (xs:=z0a es) (fun i ys H'=>H'=H∧ys=((es.take i).map (z53 N spare)).map V.bl) ⟨rfl,rfl⟩ (z0h (by unfold z0a; rw [y04]; exact hz)) ?_ ?_ ?_
 ·rintro i ys H' _ ⟨rfl,rfl⟩
  refine⟨SqL.of hl,?_⟩
  rw [y04,y04,y0v]
  omega
 ·rintro i x ys H' hx ⟨rfl,rfl⟩
  obtain⟨e,he,rfl⟩:=z31 hx
  have hil:=(y00.mp hx).1
  have hen:=hes e (y02 he)
  have hlp:=hP.lp
  have hgoal:∀b:Bool,b=z53 N spare e→CNx (fun i ys H''=>H''=H'∧ys=((es.take i).map (z53 N spare)).map V.bl) (z0a es).length (i+1) (((es.take i).map (z53 N spare)).map V.bl ++ [V.bl b]) H':=fun b hb=>by
   refine CNx.mk ⟨rfl,?_⟩ hil
   rw [z0d he,y0g,y0g,hb]
   rfl
  walk_at "run"
  refine z86 ⟨_,_,_,g1,g2,?_⟩
  walk_at "run"
  refine z4i (fun c=>?_) (fun c=>?_)
  ·have c':N.G≤e:=by have:=of_decide_eq_true c; omega
   refine⟨_,_,_,g1,g5,_,_,.inl (SqL.of hP.sp),z2y (z0x (by omega)),?_⟩
   walk_at "run"
   refine hgoal _ ?_
   unfold z53
   rw [decide_eq_true c']
   rfl
  ·have c':¬N.G≤e:=fun z=>c (decide_eq_true (by omega))
   refine hgoal _ ?_
   unfold z53
   rw [decide_eq_false c']
   rfl
 ·rintro ys H' ⟨rfl,rfl⟩ l' hl'
  have hn:(z0a es).length=es.length:=by unfold z0a; rw [y04]
  rw [hn,y08 (y0a _)]
  refine⟨es.map (z53 N spare),SqL.of z01,?_⟩
  rw [List.any_map]
  exact q _ (z03 hl' _)
abbrev z1v:Stmt:=z2l (top 8) 1
theorem sc_Pour_far_end:FnScope ["self","end","tie","ends"] ["self","end","tie"] (z05 z1v):=⟨rfl,rfl,rfl,by decide +kernel,rfl,by decide +kernel,by decide +kernel⟩
theorem z80 (T:MTop K CPour "far_end" "Pour.far_end" z1v ["self","end","tie"])(B:Blt mg)(F:FldsPour K CPour) :MDef P w K mg base CPour "far_end" 1 ["self","end","tie"] (zhz K CPour):=by
 refine z2r (k:=0) T sc_Pour_far_end (fun vs H Q E h=>?_) (fun f cdv A outer s H vs Q E hr h=>?_)
 ·obtain⟨me,N,aS,aP,sent,spare,M,e,k,b,rfl,_⟩:=h
  rfl
 obtain⟨me,N,aS,aP,sent,spare,M,e,k,b,rfl,hP,ht,q⟩:=h
 obtain⟨dx,fs,aT,aA,ts,rs,g1,g2,g3,g4,g5,g6,g7,g8,g9,g10,g11⟩:=hP.get
 obtain⟨p,hp,hpe⟩:=ht
 obtain⟨a,h1,h2⟩:=zhj g8 hp
 have hlo:=hP.wf.lo k p hp
 refine⟨_,(z02 (z0c 3 sc_Pour_far_end.nd (z0m z0l (z1f F.tie_ends (cv 0)) (cv 2) (fun _ _=>rfl)))
   (z08 (z0s (z94 (z0y z6a (cv 1) (z0m z0l (cv 3) z07 (fun _ _=>rfl)) (z0r _)) (z0m z0l (cv 3) z07 (fun _ _=>rfl)) (z0m z0l (cv 3) z07 (fun _ _=>rfl)))))),?_⟩
 refine rd (σ':=[some (.ref me),some (.int (e:Int)),some (.int (k:Int)),none]) rfl ?_
 walk_at "run"
 refine⟨_,_,_,g1,g3,_,_,.inl (SqL.of g7),z28 h1,?_⟩
 walk_at "run"
 have hT:SqT K H a _:=SqT.of h2
 refine⟨_,_,.inr hT,rfl,z4i (fun c=>?_) (fun c=>?_)⟩
 ·have c':(e:Int)=(p.1:Int):=of_decide_eq_true c
  have hb:b=p.2:=by
   rcases hpe with h | h<;>omega
  rw [hb] at q
  exact⟨_,_,.inr hT,rfl,q⟩
 ·have c':¬(e:Int)=(p.1:Int):=fun z=>c (decide_eq_true z)
  have hb:b=p.1:=by
   rcases hpe with h | h
   ·exact absurd (congrArg Int.ofNat h.1.symm) c'
   ·exact h.2.symm
  rw [hb] at q
  exact⟨_,_,.inr hT,rfl,q⟩
abbrev z24:Stmt:=z2l (top 8) 2
theorem z88:FnScope ["self","end","tie"] ["self","end","tie"] (z05 z24):=⟨rfl,rfl,rfl,by decide +kernel,rfl,by decide +kernel,by decide +kernel⟩
theorem z8b (T:MTop K CPour "may_go" "Pour.may_go" z24 ["self","end","tie"])(B:Blt mg)(F:FldsPour K CPour) :MDef P w K mg base CPour "may_go" 1 ["self","end","tie"] (zkw K CPour):=by
 refine z2r (k:=0) T z88 (fun vs H Q E h=>?_) (fun f cdv A outer s H vs Q E hr h=>?_)
 ·obtain⟨me,N,aS,aP,sent,spare,M,e,k,rfl,_⟩:=h
  rfl
 obtain⟨me,N,aS,aP,sent,spare,M,e,k,rfl,hP,hk,q⟩:=h
 obtain⟨dx,fs,aT,aA,ts,rs,g1,g2,g3,g4,g5,g6,g7,g8,g9,g10,g11⟩:=hP.get
 refine⟨_,(z08 (z0s (zmb (z3o za8 (cv 1) (z1f F.many_gives (cv 0)) (z0r _)) (z7u (z3o z7d (z0m z0l (z1f F.sent (cv 0)) (cv 2) (fun _ _=>rfl)) z07 (z0r _)))))),?_⟩
 refine rd (σ':=[some (.ref me),some (.int (e:Int)),some (.int (k:Int))]) rfl ?_
 walk_at "run"
 refine⟨_,_,_,g1,g2,?_⟩
 walk_at "run"
 unfold goB at q
 refine z4i (fun c=>?_) (fun c=>?_)
 ·have c':e<N.G:=by have:=of_decide_eq_true c; omega
  rw [decide_eq_true c'] at q
  exact q
 ·have c':¬e<N.G:=fun z=>c (decide_eq_true (by omega))
  rw [decide_eq_false c'] at q
  refine⟨_,_,_,g1,g4,_,_,.inl (SqL.of hP.st),z2y (z0x hk),?_⟩
  walk_at "run"
  exact q
abbrev z1a:Stmt:=z2l (top 8) 6
theorem sc_Pour_row_behind:FnScope ["self","row","steps","behind","end","tie","far"] ["self","row","steps"] (z05 z1a):=⟨rfl,rfl,rfl,by decide +kernel,rfl,by decide +kernel,by decide +kernel⟩
theorem z5h (T:MTop K CPour "row_behind" "Pour.row_behind" z1a ["self","row","steps"])(B:Blt mg)(F:FldsPour K CPour)(D_Pour_far_end:MDef P w K mg base CPour "far_end" 1 ["self","end","tie"] (zhz K CPour))(D_Pour_may_go:MDef P w K mg base CPour "may_go" 1 ["self","end","tie"] (zkw K CPour)):MDef P w K mg base CPour "row_behind" 2 ["self","row","steps"] (zda K CPour):=by
 refine z2r (k:=1) T sc_Pour_row_behind (fun vs H Q E h=>?_) (fun f cdv A outer s H vs Q E hr h=>?_)
 ·obtain⟨me,N,aS,aP,sent,spare,M,ar,ast,row,steps0,d,rfl,_⟩:=h
  rfl
 obtain⟨me,N,aS,aP,sent,spare,M,ar,ast,row,steps0,d,rfl,hP,hM,hr0,hne,hst,hl0,hrow,q⟩:=h
 obtain⟨G0,f1,f2,f3,f4,fx⟩:=hP.ok
 obtain⟨dx,fs,aT,aA,ts,rs,g1,g2,g3,g4,g5,g6,g7,g8,g9,g10,g11⟩:=fx.get
 have Fst:=f4 _ hM
 refine⟨_,(z02 (z0c 3 sc_Pour_row_behind.nd (z19 z04))
   (z02 (z1w (z1o (cv 1)) (z0b 4 sc_Pour_row_behind.nd)
   (z08 (z1w (z1o (z0m z0l (z1f F.ties_at (cv 0)) (cv 4) (fun _ _=>rfl))) (z0b 5 sc_Pour_row_behind.nd)
    (z02 (z0c 6 sc_Pour_row_behind.nd (z2a D_Pour_far_end (hr.mono (by decide)) (cv 0) (z00 (cv 4) (z00 (cv 5) z04))))
     (z08 (z3k (zaj (z0y za8 (z0m z0l (cv 2) (cv 6) (fun _ _=>rfl)) z07 (z0r _)) (z7i (z3r (z2a D_Pour_may_go (hr.mono (by decide)) (cv 0) (z00 (cv 4) (z00 (cv 5) z04)))))).pt
     (z02 (z8v (z0o z30 (z0m z0l (cv 2) (cv 4) (fun _ _=>rfl)) z07) (zav (cv 2) (cv 6) z4e))
      (z08 (z20 (z0z (cv 3) (z00 (cv 6) z04)))))
     z1r))))))
   (z08 (z0s (cv 3))))),?_⟩
 refine rd (σ':=[some (.ref me),some (.ref ar),some (.ref ast),none,none,none,none]) rfl ?_
 walk_at "run"
 refine⟨sz (by show 0≤1000; decide),fun l hl=>.inl ⟨⟨_,SqL.of (z03 hl _ _ _ hr0)⟩,?_⟩⟩
 have hlst:l≠ast:=fun z=>(z06 hst hl) z.symm
 have hlar:ar≠l:=z06 hr0 hl
 have Fl:=f1.free hl
 refine z3f (xs:=z0a row) (fun i σ H'=>∃(steps:List Int) (behind:List Nat) (t4 t5 t6:Option V),σ = [some (.ref me),some (.ref ar),some (.ref ast),some (.ref l),t4,t5,t6]∧Frz [ast] H H'∧H' ast=some (.lst (steps.map V.int))∧H' l=some (.lst (z0a behind))∧PM.Behind N sent d row steps0 (fun a _=>a∈row.take i) steps behind∧behind.length+PM.unr steps=PM.unr steps0)
  ⟨steps0,[],_,_,_,rfl,Frz.of (z03 hl _),z03 hl _ _ _ hst,z01,PM.Behind.start.weak (fun a k h=>by simp at h),by simp⟩ ?_ ?_ ?_
 ·rintro i σ H' _ ⟨steps,behind,t4,t5,t6,rfl,fz,_⟩
  exact SqL.of (fz _ _ (by simpa using hne) hr0)
 ·rintro i x σ H' hx ⟨steps,behind,t4,t5,t6,rfl,fz,h1,h2,B,hu⟩
  obtain⟨e,he,rfl⟩:=z31 hx
  have hem:=y02 he
  have hlv:=hrow e hem
  have hen:e<N.nE:=by rw [←hl0]; exact za9 (by omega)
  obtain⟨le,hle⟩:∃le,N.at'[e]?=some le:=⟨_,y01 (by rw [hP.wf.len]; exact hen)⟩
  obtain⟨ae,ha1,ha2⟩:=z46 g10 hle
  have sF':=Same.frz f1 fz (fun x hx=>by rw [y0e.mp hx]; exact Fst)
  walk_at "run"
  refine⟨_,_,_,sF' _ _ g1,g6,_,_,.inl (SqL.of (sF' _ _ g9)),z28 ha1,?_⟩
  walk_at "run"
  refine .inl ⟨⟨_,SqL.of (sF' _ _ ha2)⟩,?_⟩
  refine z3f (xs:=z0a le) (fun j σ H'=>∃(steps:List Int) (behind:List Nat) (t5 t6:Option V),σ = [some (.ref me),some (.ref ar),some (.ref ast),some (.ref l),some (.int (e:Int)),t5,t6]∧Frz [ast] H H'∧H' ast=some (.lst (steps.map V.int))∧H' l=some (.lst (z0a behind))∧PM.Behind N sent d row steps0 (fun a k=>a∈row.take i∨(a=e∧k∈le.take j)) steps behind∧behind.length+PM.unr steps=PM.unr steps0)
   ⟨steps,behind,_,_,rfl,fz,h1,h2,B.weak (fun a k h=>by simpa using h),hu⟩ ?_ ?_ ?_
  ·rintro j σ H' _ ⟨steps,behind,t5,t6,rfl,fz,_⟩
   exact SqL.of ((Same.frz f1 fz (fun x hx=>by rw [y0e.mp hx]; exact Fst)) _ _ ha2)
  ·clear B h1 h2 hu sF' fz
   rintro j x σ H' hx ⟨steps,behind,t5,t6,rfl,fz,h1,h2,B,hu⟩
   obtain⟨k,hk,rfl⟩:=z31 hx
   have hP':=hP.frz fz (fun x hx=>by rw [y0e.mp hx]; exact hM)
   have sF':=Same.frz f1 fz (fun x hx=>by rw [y0e.mp hx]; exact Fst)
   obtain⟨p,hp,hpe⟩:=(hP.wf.mem e le k hle).mp (y02 hk)
   obtain⟨b,ht⟩:∃b,PM.Tie N e k b:=by
    rcases hpe with z | z
    ·exact⟨p.2,p,hp,.inl ⟨z,rfl⟩⟩
    ·exact⟨p.1,p,hp,.inr ⟨z,rfl⟩⟩
   have hkl:k<sent.length:=by rw [hP.ls]; exact(y00.mp hp).1
   have hbn:b<N.nE:=by
    obtain⟨p',hp',hq⟩:=ht
    have:=hP.wf.lo k p' hp'
    have:=hP.wf.gle
    rcases hq with z | z<;>omega
   have hsl:steps.length=N.nE:=by rw [B.len,hl0]
   have hle1:PM.Lv steps e=d:=by rw [B.old e (by omega)]; exact hlv
   have nxt:∀{P:Nat→Nat→Prop} {steps:List Int} {behind:List Nat},PM.Behind N sent d row steps0 (fun x y=>(x∈row.take i∨(x=e∧y∈le.take j))∨(x=e∧y=k)) steps behind→PM.Behind N sent d row steps0 (fun a k=>a∈row.take i∨(a=e∧k∈le.take (j+1))) steps behind:=fun {P steps behind} B=>B.weak fun a y h=>by
    rw [z0d hk] at h
    rcases h with h | ⟨h1,h2⟩
    ·exact .inl (.inl h)
    ·rcases y13.mp h2 with h2 | h2
     ·exact .inl (.inr ⟨h1,h2⟩)
     ·exact .inr ⟨h1,y0e.mp h2⟩
   walk_at "run"
   refine⟨_,_,sF' _ _ g1,g11 _ (by decide),me,N,aS,aP,sent,spare,M,e,k,b,rfl,hP',ht,?_⟩
   walk_at "run"
   refine⟨_,_,.inl (SqL.of h1),z2y (zdi (by omega)),?_⟩
   walk_at "run"
   refine z4i (fun c=>?_) (fun c=>?_)
   ·have c':=of_decide_eq_true c
    refine⟨_,_,sF' _ _ g1,g11 _ (by decide),me,N,aS,aP,sent,spare,M,e,k,rfl,hP',hkl,?_⟩
    walk_at "run"
    refine z4i (fun cg=>?_) (fun cg=>?_)
    ·have go:=(zc1 hkl).mp cg
     refine⟨_,_,.inl (SqL.of h1),z2y (zdi (by omega)),?_⟩
     walk_at "run"
     refine⟨_,b,h1,z33 (by rw [y04]; omega),?_⟩
     have hset:(steps.map V.int).set b (.int (PM.Lv steps e+1))=(steps.set b (PM.Lv steps e+1)).map V.int:=by rw [y2b]
     rw [hset,hle1]
     have B':=nxt (P:=fun _ _=>True) (B.mark hP.wf ht go hem c' (by omega))
     have hu':=PM.unr_set (zdi (steps:=steps) (e:=b) (by omega)) c' (show(0:Int)≤(d:Int)+1 by omega)
     have hul:=PM.unr_len steps0
     have hsm:=hP.sm
     have h2':upd H' ast (.lst ((steps.set b ((d:Int)+1)).map V.int)) l=some (.lst (z0a behind)):=by rw [z09 hlst]; exact h2
     have hbl:(z0a behind).length=behind.length:=by unfold z0a; rw [y04]
     refine⟨⟨_,h2'⟩,_,h2',z0h (by omega),?_⟩
     refine⟨_,behind ++ [b],_,_,rfl,?_,?_,?_,B',by rw [y0f]; simp; omega⟩
     ·intro x o hx q'
      have hx':x≠ast:=by simpa using hx
      have hxl:x≠l:=z06 q' hl
      rw [z09 hxl,z09 hx']
      exact fz x o hx q'
     ·rw [z09 (Ne.symm hlst),z01]
     ·rw [z01]
      unfold z0a
      rw [y0g]
      rfl
    ·exact⟨steps,behind,_,_,rfl,fz,h1,h2,nxt (P:=fun _ _=>True) (B.skip hP.wf ht (.inr fun z=>cg ((zc1 hkl).mpr z))),hu⟩
   ·have c':¬PM.Lv steps b<0:=fun z=>c (decide_eq_true z)
    exact⟨steps,behind,_,_,rfl,fz,h1,h2,nxt (P:=fun _ _=>True) (B.skip hP.wf ht (.inl (by omega))),hu⟩
  ·clear B h1 h2 hu sF' fz
   rintro σ H' ⟨steps,behind,t5,t6,rfl,fz,h1,h2,B,hu⟩
   refine⟨steps,behind,_,_,_,rfl,fz,h1,h2,B.weakT fun a k b h t=>?_,hu⟩
   rw [z0d he] at h
   rcases y13.mp h with h | h
   ·exact .inl h
   ·have:=y0e.mp h
    subst this
    refine .inr ⟨rfl,?_⟩
    have hn:(z0a le).length=le.length:=by unfold z0a; rw [y04]
    rw [hn,y08 (y0a _)]
    exact t.mem hP.wf hle
 ·rintro σ H' ⟨steps,behind,t4,t5,t6,rfl,fz,h1,h2,B,hu⟩
  walk_at "run"
  refine q l steps behind H' fz h1 hl h2 (B.weak fun a k h=>?_) hu
  have hn:(z0a row).length=row.length:=by unfold z0a; rw [y04]
  rw [hn,y08 (y0a _)]
  exact h
abbrev z0w:Stmt:=z2l (top 8) 5
theorem sc_Pour_steps_to_room:FnScope ["self","steps","row","give"] ["self"] (z05 z0w):=⟨rfl,rfl,rfl,by decide +kernel,rfl,by decide +kernel,by decide +kernel⟩
theorem z4j (T:MTop K CPour "steps_to_room" "Pour.steps_to_room" z0w ["self"])(B:Blt mg)(F:FldsPour K CPour)(D_Pour_gives_with_rest:MDef P w K mg base CPour "gives_with_rest" 1 ["self"] (zeu K CPour))(D_Pour_has_room:MDef P w K mg base CPour "has_room" 1 ["self","ends"] (zcn K CPour))(D_Pour_row_behind:MDef P w K mg base CPour "row_behind" 2 ["self","row","steps"] (zda K CPour)):MDef P w K mg base CPour "steps_to_room" 3 ["self"] (zfq K CPour):=by
 refine z2r (k:=2) T sc_Pour_steps_to_room (fun vs H Q E h=>?_) (fun f cdv A outer s H vs Q E hr h=>?_)
 ·obtain⟨me,N,aS,aP,sent,spare,M,rfl,_⟩:=h
  rfl
 obtain⟨me,N,aS,aP,sent,spare,M,rfl,hP,q⟩:=h
 obtain⟨dx,fs,aT,aA,ts,rs,g1,g2,g3,g4,g5,g6,g7,g8,g9,g10,g11⟩:=hP.get
 have hsm:=hP.sm
 have hg:=hP.wf.gle
 have hsp:(spare.map V.int).length=N.nE:=by rw [y04]; exact hP.lp
 refine⟨_,(z02 (z0c 1 sc_Pour_steps_to_room.nd (z0o z35 (z19 (z00 (zat z6n z07) z04)) (z47 z1z B.len y18 (z00 (z1f F.spare (cv 0)) z04))))
   (z02 (z0c 2 sc_Pour_steps_to_room.nd (z5g D_Pour_gives_with_rest (hr.mono (by decide)) (cv 0)))
   (z02 (z1w (z1o (cv 2)) (z0b 3 sc_Pour_steps_to_room.nd)
   (z08 (z8v z07 (zav (cv 1) (cv 3) z4e))))
   (z02 (z3y (zaj (z0y z7d (z47 z1z B.len y18 (z00 (cv 2) z04)) z07 (z0r _)) (z7i (z51 (z3r (z2a D_Pour_has_room (hr.mono (by decide)) (cv 0) (z00 (cv 2) z04)))))).pt
   (z08 (z0c 2 sc_Pour_steps_to_room.nd (z2a D_Pour_row_behind (hr.mono (by decide)) (cv 0) (z00 (cv 2) (z00 (cv 1) z04))))))
   (z08 (z0s (cv 1))))))),?_⟩
 refine rd (σ':=[some (.ref me),none,none,none]) rfl ?_
 walk_at "run"
 refine⟨sz (by show 1≤1000; decide),fun l0 hl0=>?_⟩
 have s0:=z03 hl0 (.lst [.int (-1)])
 refine⟨_,_,_,s0 _ _ g1,g5,_,.inl (SqL.of (s0 _ _ hP.sp)),?_⟩
 rw [hsp]
 walk_at "run"
 refine⟨_,z01,by omega,by omega,sz (by show 1*_≤1000; omega),fun l hl=>?_⟩
 rw [z2x]
 have e0:y05 ((N.nE:Int)).toNat (V.int (-1))=(y05 N.nE (-1)).map V.int:=by rw [y2o]; rfl
 rw [e0]
 have s1:=z03 hl (.lst ((y05 N.nE (-1)).map V.int))
 have sA:=s0.trans s1
 have hlH:H l=none:=s0.free hl
 have hP1:=(hP.same s0).new hl |>.same s1
 refine⟨_,_,sA _ _ g1,g11 _ (by decide),me,N,aS,aP,sent,spare,_,rfl,hP1,fun r hr=>?_⟩
 have s2:=z03 hr (.lst (z0a (rest N spare)))
 have hl1:upd (upd (upd H l0 (.lst [.int (-1)])) l (.lst ((y05 N.nE (-1)).map V.int))) r (.lst (z0a (rest N spare))) l=some (.lst ((y05 N.nE (-1)).map V.int)):=s2 _ _ z01
 have hrl:r≠l:=fun z=>by
  subst z
  rw [z01] at hr
  cases hr
 walk_at "run"
 refine .inl ⟨⟨_,SqL.of z01⟩,?_⟩
 have hP3:=hP1.same s2
 have hr3:upd (upd (upd H l0 (.lst [.int (-1)])) l (.lst ((y05 N.nE (-1)).map V.int))) r (.lst (z0a (rest N spare))) r=some (.lst (z0a (rest N spare))):=z01
 have sB:=sA.trans s2
 have e1:H me=some (.ins CPour dx fs):=g1
 clear hP1 s0 s1 s2 sA hr hl e0
 generalize upd (upd (upd H l0 (.lst [.int (-1)])) l (.lst ((y05 N.nE (-1)).map V.int))) r (.lst (z0a (rest N spare)))=H3 at hP3 hr3 hl1 sB ⊢
 have back:∀H',Frz [l] H3 H'→Same H H':=fun H' fz b o h=>fz b o (by simpa using z06 h hlH) (sB b o h)
 have hlen:(z0a (rest N spare)).length=(rest N spare).length:=by unfold z0a; rw [y04]
 refine z3f (xs:=z0a (rest N spare)) (fun i σ H'=>∃(steps:List Int) (t:Option V),σ = [some (.ref me),some (.ref l),some (.ref r),t]∧Frz [l] H3 H'∧H' l=some (.lst (steps.map V.int))∧steps.length=N.nE∧∀e,PM.Lv steps e=if e∈(rest N spare).take i then 0 else -1)
  ⟨_,_,rfl,fun b o _ h=>h,hl1,by rw [y0x],fun e=>?_⟩ ?_ ?_ ?_
 ·unfold PM.Lv
  rw [y07,y1f]
  split<;>simp
 ·rintro i σ H' _ ⟨steps,t,rfl,fz,_⟩
  exact SqL.of (fz _ _ (by simpa using hrl) hr3)
 ·rintro i x σ H' hx ⟨steps,t,rfl,fz,h1,hsl,hlv⟩
  obtain⟨g,hg1,rfl⟩:=z31 hx
  have hgm:=rest_mem.mp (y02 hg1)
  walk_at "run"
  refine⟨_,g,h1,z33 (by rw [y04]; omega),steps.set g 0,_,rfl,fz.trans (Frz.upd (by simp)),by rw [z01,y2b],by rw [y22]; exact hsl,fun e=>?_⟩
  rw [PM.lv_set (by omega),z0d hg1]
  by_cases c:e=g
  ·subst c
   simp
  ·rw [if_neg c,hlv e]
   simp [c]
 rintro σ H' ⟨steps,t,rfl,fz,h1,hsl,hlv⟩
 rw [hlen,y08 (y0a _)] at hlv
 have R0:=zon (sent:=sent) hP.wf hsl hP.lp hlv
 have hrl':=zht (N:=N) (spare:=spare)
 walk_at "run"
 refine⟨fun m σ H'=>∃(d:Nat) (row:List Nat) (steps:List Int) (ar:Addr) (t:Option V),σ = [some (.ref me),some (.ref l),some (.ref ar),t]∧Frz [l] H3 H'∧H' l=some (.lst (steps.map V.int))∧H' ar=some (.lst (z0a row))∧ar≠l∧steps.length=N.nE∧row.length≤1000∧PM.Rows N sent spare d row steps∧m=2*PM.unr steps+(if row = [] then 0 else 1),
  ⟨_,0,rest N spare,steps,r,_,rfl,fz,h1,fz _ _ (by simpa using hrl) hr3,hrl,hsl,by omega,R0,rfl⟩,?_⟩
 clear R0 hlv h1 fz hsl
 rintro m σ H' ⟨d,row,steps,ar,t,rfl,fz,h1,h2,hne,hsl,hrow,R,rfl⟩
 have hrn:(z0a row).length=row.length:=by unfold z0a; rw [y04]
 have sH:=back H' fz
 have hP':=hP3.frz fz (fun x hx=>by rw [y0e.mp hx]; exact y0d)
 have inr:∀e∈row,e<N.nE:=fun e he=>by
  have:=(R.row e).mp he
  rw [←hsl]
  exact za9 (by omega)
 walk_at "run"
 refine⟨_,.inl (SqL.of h2),?_⟩
 rw [hrn]
 walk_at "run"
 refine z4i (fun c=>?_) (fun c=>zan ?_)
 ·have c':row ≠ []:=by
   rintro rfl
   simp at c
  refine⟨_,_,sH _ _ g1,g11 _ (by decide),me,N,aS,aP,sent,spare,_,ar,row,rfl,hP',h2,hrow,inr,fun H4 s4=>?_⟩
  walk_at "run"
  refine z4i (fun ca=>?_) (fun ca=>?_)
  ·have nor:∀e∈row,¬PM.Room N spare e:=fun e he hR=>by
    have:row.any (z53 N spare)=true:=y1r.mpr ⟨e,he,(z40 (by rw [hP.lp]; exact inr e he)).mpr hR⟩
    rw [this] at ca
    cases ca
   refine⟨_,_,(sH.trans s4) _ _ g1,g11 _ (by decide),me,N,aS,aP,sent,spare,_,ar,l,row,steps,d,rfl,hP'.same s4,y0d,s4 _ _ h2,hne,s4 _ _ h1,hsl,fun e he=>(R.row e).mp he,fun l2 steps2 behind H5 fz5 k1 k2 k3 B hu=>?_⟩
   have hul:=PM.unr_len steps
   refine⟨_,?_,d+1,behind,steps2,l2,_,rfl,fz.trans ((Frz.of s4).trans fz5),k1,k3,fun z=>?_,by rw [B.len]; exact hsl,by omega,R.next B nor,rfl⟩
   ·rw [if_neg c']
    split
    ·omega
    ·rename_i hb
     have:=y0s.mpr hb
     omega
   ·subst z
    rw [s4 _ _ h1] at k2
    cases k2
  ·have ca':row.any (z53 N spare)=true:=by simpa using ca
   obtain⟨e,he,hR⟩:=y1r.mp ca'
   exact q l steps H4 (sH.trans s4) hlH (s4 _ _ h1) hsl ⟨d,row,R,.inr ⟨e,he,(z40 (by rw [hP.lp]; exact inr e he)).mp hR⟩⟩
 ·have c':row = []:=by
   rcases y1x row.length with z | z
   ·exact y1j.mp z
   ·exact absurd (decide_eq_true (by omega)) c
  exact q l steps H' sH hlH h1 hsl ⟨d,row,R,.inl c'⟩
abbrev z1i:Stmt:=z2l (top 8) 10
theorem z6y:FnScope ["self","end","tie","steps"] ["self","end","tie","steps"] (z05 z1i):=⟨rfl,rfl,rfl,by decide +kernel,rfl,by decide +kernel,by decide +kernel⟩
theorem z6w (T:MTop K CPour "leads_on" "Pour.leads_on" z1i ["self","end","tie","steps"])(B:Blt mg)(D_Pour_may_go:MDef P w K mg base CPour "may_go" 1 ["self","end","tie"] (zkw K CPour))(D_Pour_far_end:MDef P w K mg base CPour "far_end" 1 ["self","end","tie"] (zhz K CPour)):MDef P w K mg base CPour "leads_on" 2 ["self","end","tie","steps"] (zg9 K CPour):=by
 refine z2r (k:=1) T z6y (fun vs H Q E h=>?_) (fun f cdv A outer s H vs Q E hr h=>?_)
 ·obtain⟨me,N,aS,aP,sent,spare,M,ast,steps,e,k,b,rfl,_⟩:=h
  rfl
 obtain⟨me,N,aS,aP,sent,spare,M,ast,steps,e,k,b,rfl,hP,hst,hsl,ht,q⟩:=h
 obtain⟨dx,fs,aT,aA,ts,rs,g1,g2,g3,g4,g5,g6,g7,g8,g9,g10,g11⟩:=hP.get
 obtain⟨t1,t2,t3⟩:=zjl hP.wf ht
 refine⟨_,(z08 (z0s (z9p (z3o z6a (z0m z0l (cv 3) (z2a D_Pour_far_end (hr.mono (by decide)) (cv 0) (z00 (cv 1) (z00 (cv 2) z04))) (fun _ _=>rfl)) (z0o z30 (z0m z0l (cv 3) (cv 1) (fun _ _=>rfl)) z07) (z0r _)) (z7u (z2a D_Pour_may_go (hr.mono (by decide)) (cv 0) (z00 (cv 1) (z00 (cv 2) z04))))))),?_⟩
 refine rd (σ':=[some (.ref me),some (.int (e:Int)),some (.int (k:Int)),some (.ref ast)]) rfl ?_
 walk_at "run"
 refine⟨_,_,g1,g11 _ (by decide),me,N,aS,aP,sent,spare,M,e,k,b,rfl,hP,ht,?_⟩
 walk_at "run"
 refine⟨_,_,.inl (SqL.of hst),z2y (zdi (by omega)),_,_,.inl (SqL.of hst),z2y (zdi (by omega)),?_⟩
 walk_at "run"
 unfold zgh at q
 refine z4i (fun c=>?_) (fun c=>?_)
 ·rw [c,y76] at q
  exact⟨_,_,g1,g11 _ (by decide),me,N,aS,aP,sent,spare,M,e,k,rfl,hP,by rw [hP.ls]; exact t3,q⟩
 ·rw [eq_false_of_ne_true c,y5u] at q
  exact q
abbrev z0t:Stmt:=z2l (top 8) 9
theorem sc_Pour_skip_dead_ties:FnScope ["self","end","steps","tried","ties"] ["self","end","steps","tried"] (z05 z0t):=⟨rfl,rfl,rfl,by decide +kernel,rfl,by decide +kernel,by decide +kernel⟩
theorem z4h (T:MTop K CPour "skip_dead_ties" "Pour.skip_dead_ties" z0t ["self","end","steps","tried"])(B:Blt mg)(F:FldsPour K CPour)(D_Pour_leads_on:MDef P w K mg base CPour "leads_on" 2 ["self","end","tie","steps"] (zg9 K CPour)):MDef P w K mg base CPour "skip_dead_ties" 3 ["self","end","steps","tried"] (zjh K CPour):=by
 refine z2r (k:=2) T sc_Pour_skip_dead_ties (fun vs H Q E h=>?_) (fun f cdv A outer s H vs Q E hr h=>?_)
 ·obtain⟨me,N,aS,aP,sent,spare,M,ast,atr,steps,tried,e,g,es,way,rfl,_⟩:=h
  rfl
 obtain⟨me,N,aS,aP,sent,spare,M,ast,atr,steps,tried,e,g,es,way,rfl,hP,hM,hne,hst,hsl,htr,W0,hes,hen,q⟩:=h
 obtain⟨G0,f1,f2,f3,f4,fx⟩:=hP.ok
 obtain⟨dx,fs,aT,aA,ts,rs,g1,g2,g3,g4,g5,g6,g7,g8,g9,g10,g11⟩:=fx.get
 have Ftr:=f4 _ hM
 obtain⟨le,hle⟩:∃le,N.at'[e]?=some le:=⟨_,y01 (by rw [hP.wf.len]; exact hen)⟩
 obtain⟨ae,ha1,ha2⟩:=z46 g10 hle
 have hnl:(z0a le).length=le.length:=by unfold z0a; rw [y04]
 refine⟨_,(z02 (z0c 4 sc_Pour_skip_dead_ties.nd (z0m z0l (z1f F.ties_at (cv 0)) (cv 1) (fun _ _=>rfl)))
   (z08 (z3y (zaj (z0y za8 (z0m z0l (cv 3) (cv 1) (fun _ _=>rfl)) (z47 z1z B.len y18 (z00 (cv 4) z04)) (z0r _)) (z7i (z51 (z3r (z2a D_Pour_leads_on (hr.mono (by decide)) (cv 0) (z00 (cv 1) (z00 (z0m z0l (cv 4) (z0m z0l (cv 3) (cv 1) (fun _ _=>rfl)) (fun _ _=>rfl)) (z00 (cv 2) z04)))))))).pt
   (z08 (z5b (cv 3) (cv 1) z7h z07 zbl z4e))))),?_⟩
 refine rd (σ':=[some (.ref me),some (.int (e:Int)),some (.ref ast),some (.ref atr),none]) rfl ?_
 walk_at "run"
 refine⟨_,_,_,f1 _ _ g1,g6,_,_,.inl (SqL.of (f1 _ _ g9)),z28 ha1,?_⟩
 refine⟨fun m σ H'=>∃(tried':List Int) (t:Nat),σ = [some (.ref me),some (.int (e:Int)),some (.ref ast),some (.ref atr),some (.ref ae)]∧Frz [atr] H H'∧H' atr=some (.lst (tried'.map V.int))∧PM.Walk N sent spare steps g tried' es way∧PM.pot N.at' tried'≤PM.pot N.at' tried∧(∀b,PM.Exh N spare tried b→PM.Exh N spare tried' b)∧tried'[e]?=some (t:Int)∧t≤le.length∧m=le.length - t,?_,?_⟩
 ·have hl:=W0.tr.len
  obtain⟨z,hz⟩:∃z,tried[e]?=some z:=⟨_,y01 (by omega)⟩
  obtain⟨z0,z1⟩:=W0.tr.ok e le z hle hz
  obtain⟨t,rfl⟩:=y34 z0
  exact⟨_,tried,t,rfl,fun b o _ h=>h,htr,W0,y0a _,fun b h=>h,hz,by omega,rfl⟩
 ·rintro m σ H' ⟨tried',t,rfl,fz,h1,W,hp,hx,ht,htl,rfl⟩
  have sF':=Same.frz f1 fz (fun x hx=>by rw [y0e.mp hx]; exact Ftr)
  have hP':=hP.frz fz (fun x hx=>by rw [y0e.mp hx]; exact hM)
  have hst':=fz _ _ (by simpa using hne) hst
  walk_at "run"
  refine⟨_,_,.inl (SqL.of h1),z2y ht,_,.inl (SqL.of (sF' _ _ ha2)),?_⟩
  rw [hnl]
  walk_at "run"
  refine z4i (fun c=>?_) (fun c=>zan ?_)
  ·have c':t<le.length:=by have:=of_decide_eq_true c; omega
   have hk:le[t]?=some le[t]:=y01 c'
   obtain⟨b,hb⟩:=zjr hP.wf hle (y02 hk)
   refine⟨_,_,sF' _ _ g1,g11 _ (by decide),_,_,.inl (SqL.of h1),z2y ht,_,_,.inl (SqL.of (sF' _ _ ha2)),z28 (zek hk),?_⟩
   refine⟨me,N,aS,aP,sent,spare,M,ast,steps,e,le[t],b,rfl,hP',hst',hsl,hb,?_⟩
   walk_at "run"
   refine z4i (fun cl=>?_) (fun cl=>?_)
   ·have nl:∀b',¬PM.Leads N sent steps e le[t] b':=fun b' L=>by
     have:=hb.uniq hP.wf L.1
     subst this
     rw [(z9z hP.wf hb hP.ls).mpr L] at cl
     cases cl
    refine⟨_,_,h1,by omega,z5a ht,_,e,h1,z33 (by rw [y04]; exact(y00.mp ht).1),?_⟩
    refine⟨le.length - (t+1),by omega,tried'.set e ((t:Int)+1),t+1,rfl,?_,?_,W.skip hes hle ht hk nl,?_,fun b' h=>(hx b' h).keep hle ht (by omega),?_,by omega,rfl⟩
    ·exact fz.trans (Frz.upd (by simp))
    ·rw [z01,y2b]
    ·have:=PM.pot_step hle ht c'
     omega
    ·rw [y0t (y00.mp ht).1]
     rfl
   ·refine q tried' H' fz h1 W hp hx ⟨le,t,hle,ht,htl,fun k' b' hk' tie'=>?_⟩
    rw [hk] at hk'
    cases hk'
    have:=hb.uniq hP.wf tie'
    subst this
    simpa using cl
  ·have c':¬t<le.length:=fun z=>c (decide_eq_true (by omega))
   refine q tried' H' fz h1 W hp hx ⟨le,t,hle,ht,htl,fun k' b' hk' tie'=>?_⟩
   rw [y0z (by omega)] at hk'
   cases hk'
abbrev z1l:Stmt:=z2l (top 8) 8
theorem sc_Pour_way_from:FnScope ["self","give","steps","tried","way","ends","end","tie"] ["self","give","steps","tried"] (z05 z1l):=⟨rfl,rfl,rfl,by decide +kernel,rfl,by decide +kernel,by decide +kernel⟩
theorem z6t (T:MTop K CPour "way_from" "Pour.way_from" z1l ["self","give","steps","tried"])(B:Blt mg)(F:FldsPour K CPour)(D_Pour_has_room:MDef P w K mg base CPour "has_room" 1 ["self","ends"] (zcn K CPour))(D_Pour_skip_dead_ties:MDef P w K mg base CPour "skip_dead_ties" 3 ["self","end","steps","tried"] (zjh K CPour))(D_Pour_far_end:MDef P w K mg base CPour "far_end" 1 ["self","end","tie"] (zhz K CPour)):MDef P w K mg base CPour "way_from" 4 ["self","give","steps","tried"] (zm6 K CPour):=by
 refine z2r (k:=3) T sc_Pour_way_from (fun vs H Q E h=>?_) (fun f cdv A outer s H vs Q E hr h=>?_)
 ·obtain⟨me,N,aS,aP,sent,spare,M,ast,atr,steps,tried,g,rfl,_⟩:=h
  rfl
 obtain⟨me,N,aS,aP,sent,spare,M,ast,atr,steps,tried,g,rfl,hP,hM,hne,hst,hsl,htr,hg0,hgG,T0,D0,q⟩:=h
 obtain⟨G0,f1,f2,f3,f4,fx⟩:=hP.ok
 obtain⟨dx,fs,aT,aA,ts,rs,g1,g2,g3,g4,g5,g6,g7,g8,g9,g10,g11⟩:=fx.get
 have Ftr:=f4 _ hM
 have hsm:=hP.sm
 obtain⟨Bn,hBn⟩:=PM.lv_top steps
 refine⟨_,(z02 (z0c 4 sc_Pour_way_from.nd (z19 z04))
   (z02 (z0c 5 sc_Pour_way_from.nd (z19 (z00 (cv 1) z04)))
   (z02 (z3y (zaj (z0y z7d (z47 z1z B.len y18 (z00 (cv 5) z04)) z07 (z0r _)) (z7i (z51 (z3r (z2a D_Pour_has_room (hr.mono (by decide)) (cv 0) (z00 (z19 (z00 (z0m z0l (cv 5) (zat z6n z07) (fun _ _=>rfl)) z04)) z04)))))).pt
   (z02 (z0c 6 sc_Pour_way_from.nd (z0m z0l (cv 5) (zat z6n z07) (fun _ _=>rfl)))
    (z02 (z20 (z2a D_Pour_skip_dead_ties (hr.mono (by decide)) (cv 0) (z00 (cv 6) (z00 (cv 2) (z00 (cv 3) z04)))))
    (z08 (z3k (z0y za8 (z0m z0l (cv 3) (cv 6) (fun _ _=>rfl)) (z47 z1z B.len y18 (z00 (z0m z0l (z1f F.ties_at (cv 0)) (cv 6) (fun _ _=>rfl)) z04)) (z0r _))
    (z02 (z0c 7 sc_Pour_way_from.nd (z0m z0l (z0m z0l (z1f F.ties_at (cv 0)) (cv 6) (fun _ _=>rfl)) (z0m z0l (cv 3) (cv 6) (fun _ _=>rfl)) (fun _ _=>rfl)))
     (z02 (z20 (z0z (cv 4) (z00 (cv 7) z04)))
     (z08 (z20 (z0z (cv 5) (z00 (z2a D_Pour_far_end (hr.mono (by decide)) (cv 0) (z00 (cv 6) (z00 (cv 7) z04))) z04))))))
    (z02 (z20 (z7n (cv 5)))
     (z08 (z3k (z0y z7d (z47 z1z B.len y18 (z00 (cv 5) z04)) z07 (z0r _))
     (z02 (z20 (z7n (cv 4)))
      (z08 (z5b (cv 3) (z0m z0l (cv 5) (zat z6n z07) (fun _ _=>rfl)) z7h z07 zbl z4e)))
     z1r))))))))
   (z08 (z0s (cv 4)))))),?_⟩
 refine rd (σ':=[some (.ref me),some (.int (g:Int)),some (.ref ast),some (.ref atr),none,none,none,none]) rfl ?_
 walk_at "run"
 refine⟨sz (by show 0≤1000; decide),fun lw hlw=>⟨sz (by show 1≤1000; decide),fun le hle=>?_⟩⟩
 have s1:=z03 hlw (.lst [])
 have s2:=z03 hle (.lst [.int (g:Int)])
 have hleH:H le=none:=s1.free hle
 have hlwe:le≠lw:=fun z=>by
  subst z
  rw [z01] at hle
  cases hle
 have nwr:lw≠atr:=fun z=>(z06 htr hlw) z.symm
 have ner:le≠atr:=fun z=>(z06 htr hleH) z.symm
 refine⟨fun m σ H'=>∃(tried':List Int) (es way:List Nat) (t6 t7:Option V),σ = [some (.ref me),some (.int (g:Int)),some (.ref ast),some (.ref atr),some (.ref lw),some (.ref le),t6,t7]∧Frz [atr] H H'∧H' atr=some (.lst (tried'.map V.int))∧H' lw=some (.lst (z0a way))∧H' le=some (.lst (z0a es))∧PM.Walk N sent spare steps g tried' es way∧(∀b,PM.Exh N spare tried b→PM.Exh N spare tried' b)∧m=PM.wm Bn N.at' tried' es,
  ⟨_,tried,[g],[],_,_,rfl,Frz.of (s1.trans s2),(s1.trans s2) _ _ htr,s2 _ _ z01,z01,⟨T0,D0,fun _=>⟨⟨rfl,fun i k hk=>by simp at hk⟩,rfl⟩,fun z=>by simp at z,fun i k e hk=>by simp at hk⟩,fun b h=>h,rfl⟩,?_⟩
 rintro m σ H' ⟨tried',es,way,t6,t7,rfl,fz,h1,h2,h3,W,hx,rfl⟩
 have mono:∀H'',Frz [atr] H H''→Same G0 H''∧PourAt K CPour H'' me N aS aP sent spare M∧H'' ast=some (.lst (steps.map V.int)):=fun H'' fz=>⟨Same.frz f1 fz (fun x hx=>by rw [y0e.mp hx]; exact Ftr),hP.frz fz (fun x hx=>by rw [y0e.mp hx]; exact hM),fz _ _ (by simpa using hne) hst⟩
 obtain⟨sF',hP',hst'⟩:=mono H' fz
 have hshort:=W.short hg0 hBn
 have esl:es.length≤1000:=by
  by_cases z:es = []
  ·subst z; simp
  ·obtain⟨Pt,h0⟩:=W.path z
   have nd:es.Nodup:=by
    refine y23.mpr fun i j hi hj hij he=>?_
    have hi':es[i]?=some es[i]:=y01 hi
    have hj':es[j]?=some es[i]:=by rw [he]; exact y01 hj
    have:=Pt.inj h0 hi' hj'
    omega
   have sub:∀x∈es,x<N.nE:=fun x hx=>by
    obtain⟨i,hi⟩:=y09 hx
    have:=Pt.lev h0 hi
    rw [←hsl]
    exact za9 (by omega)
   have:=zd6 nd sub
   omega
 walk_at "run"
 refine⟨_,.inl (SqL.of h3),?_⟩
 rw [z3q]
 walk_at "run"
 refine z4i (fun c=>?_) (fun c=>zan ?_)
 ·have hes:es ≠ []:=by
   rintro rfl
   simp at c
  obtain⟨Pt,h0⟩:=W.path hes
  obtain⟨e,hel⟩:∃e,es.getLast?=some e:=⟨_,y1w hes⟩
  have pl:=Pt.len
  have hlast:es[way.length]?=some e:=by
   rw [y19] at hel
   rw [show es.length - 1=way.length by omega] at hel
   exact hel
  have hlev:=Pt.lev h0 hlast
  have hen:e<N.nE:=by
   rw [←hsl]
   exact za9 (by omega)
  refine⟨_,_,sF' _ _ g1,g11 _ (by decide),_,_,.inl (SqL.of h3),z70 (z6e hel),sz (by show 1≤1000; decide),fun p hp=>?_⟩
  have s3:=z03 hp (.lst [.int (e:Int)])
  refine⟨me,N,aS,aP,sent,spare,M,p,[e],rfl,hP'.same s3,z01,by show 1≤1000; decide,fun x hx=>by rw [y0e.mp hx]; exact hen,fun H4 s4=>?_⟩
  have s34:=s3.trans s4
  have fz4:=fz.trans (Frz.of s34)
  obtain⟨sF4,hP4,hst4⟩:=mono H4 fz4
  have hany:[e].any (z53 N spare)=z53 N spare e:=by simp
  rw [hany]
  walk_at "run"
  refine z4i (fun cr=>?_) (fun cr=>?_)
  ·have nor:¬PM.Room N spare e:=fun hR=>by
    rw [(z40 (by rw [hP.lp]; exact hen)).mpr hR] at cr
    cases cr
   refine⟨_,_,.inl (SqL.of (s34 _ _ h3)),z70 (z6e hel),_,_,sF4 _ _ g1,g11 _ (by decide),?_⟩
   refine⟨me,N,aS,aP,sent,spare,M,ast,atr,steps,tried',e,g,es,way,rfl,hP4,hM,hne,hst4,hsl,s34 _ _ h1,W,hel,hen,fun tried2 H5 fz5 k1 W2 hpot hx2 hlt=>?_⟩
   obtain⟨l,t,hl,ht,htl,hlead⟩:=hlt
   have fz5':=fz4.trans fz5
   obtain⟨sF5,hP5,hst5⟩:=mono H5 fz5'
   have h2':H5 lw=some (.lst (z0a way)):=fz5 _ _ (by simpa using nwr) (s34 _ _ h2)
   have h3':H5 le=some (.lst (z0a es)):=fz5 _ _ (by simpa using ner) (s34 _ _ h3)
   have hx':∀b,PM.Exh N spare tried b→PM.Exh N spare tried2 b:=fun b h=>hx2 b (hx b h)
   obtain⟨ae,ha1,ha2⟩:=z46 g10 hl
   walk_at "run"
   refine⟨_,_,.inl (SqL.of k1),z2y ht,_,_,_,sF5 _ _ g1,g6,_,_,.inl (SqL.of (sF5 _ _ g9)),z28 ha1,?_⟩
   walk_at "run"
   refine⟨_,.inl (SqL.of (sF5 _ _ ha2)),?_⟩
   rw [z3q]
   refine z4i (fun ct=>?_) (fun ct=>?_)
   ·have ct':t<l.length:=by have:=of_decide_eq_true ct; omega
    have hk:l[t]?=some l[t]:=y01 ct'
    obtain⟨b,hb⟩:=zjr hP.wf hl (y02 hk)
    have L:=(z9z hP.wf hb hP.ls).mp (hlead _ b hk hb)
    have W3:=W2.push hel hl ht hk L nor
    have hsh:=W3.short hg0 hBn
    rw [y0f,y40] at hsh
    refine⟨_,_,_,sF5 _ _ g1,g6,_,_,.inl (SqL.of (sF5 _ _ g9)),z28 ha1,_,_,.inl (SqL.of k1),z2y ht,?_⟩
    walk_at "run"
    refine⟨_,_,.inl (SqL.of (sF5 _ _ ha2)),z28 (zek hk),?_⟩
    walk_at "run"
    have wl:way.length<1000:=by omega
    refine⟨⟨_,h2'⟩,_,h2',z0h (by rw [z3q]; omega),?_⟩
    rw [zcz]
    have fz6:Frz [atr] H (upd H5 lw (.lst (z0a (way ++ [l[t]])))):=fz5'.new hlw
    obtain⟨sF6,hP6,hst6⟩:=mono _ fz6
    have h3'':upd H5 lw (.lst (z0a (way ++ [l[t]]))) le=some (.lst (z0a es)):=by rw [z09 hlwe]; exact h3'
    refine⟨⟨_,h3''⟩,_,_,sF6 _ _ g1,g11 _ (by decide),me,N,aS,aP,sent,spare,M,e,l[t],b,rfl,hP6,hb,?_⟩
    walk_at "run"
    refine⟨_,h3'',z0h (by rw [z3q]; omega),?_⟩
    rw [zcz]
    refine⟨_,?_,tried2,es ++ [b],way ++ [l[t]],_,_,rfl,fz6.new hleH,?_,?_,z01,W3,hx',rfl⟩
    ·unfold PM.wm
     rw [if_neg (by simp),if_neg hes,y0f,y40]
     have:=y5s (Bn+3) hpot
     omega
    ·rw [z09 (Ne.symm ner),z09 (Ne.symm nwr)]
     exact k1
    ·rw [z09 (Ne.symm hlwe),z01]
   ·have ct':t=l.length:=by
     have:¬t<l.length:=fun z=>ct (decide_eq_true (by omega))
     omega
    rw [ct'] at ht
    have h3l:(z0a es)[(z0a es).length - 1]?=some (.int (e:Int)):=by
     have:=z6e hel
     rw [y19] at this
     exact this
    refine⟨_,_,h3',h3l,?_⟩
    rw [zf7]
    have fz6:Frz [atr] H (upd H5 le (.lst (z0a es.dropLast))):=fz5'.new hleH
    have k1':upd H5 le (.lst (z0a es.dropLast)) atr=some (.lst (tried2.map V.int)):=by rw [z09 (Ne.symm ner)]; exact k1
    have k2':upd H5 le (.lst (z0a es.dropLast)) lw=some (.lst (z0a way)):=by rw [z09 (Ne.symm hlwe)]; exact h2'
    walk_at "run"
    refine⟨_,.inl (SqL.of z01),?_⟩
    rw [z3q]
    refine z4i (fun cd=>?_) (fun cd=>?_)
    ·have hd:es.dropLast ≠ []:=by
      intro z
      rw [z] at cd
      simp at cd
     obtain⟨f,hf⟩:∃f,es.dropLast.getLast?=some f:=⟨_,y1w hd⟩
     obtain⟨t2,l2,j1,j2,j3,W3⟩:=W2.pop hP.wf hel hf hl ht nor
     have dl:es.dropLast.length=es.length - 1:=y5q
     have hdl:=y0s.mpr hd
     have hway:way ≠ []:=by
      intro z
      rw [z] at pl
      simp at pl
      omega
     obtain⟨kw,hkw⟩:∃kw,way.getLast?=some kw:=⟨_,y1w hway⟩
     have h2l:(z0a way)[(z0a way).length - 1]?=some (.int (kw:Int)):=by
      have:=z6e hkw
      rw [y19] at this
      exact this
     refine⟨_,_,k2',h2l,?_⟩
     rw [zf7]
     have k3:upd (upd H5 le (.lst (z0a es.dropLast))) lw (.lst (z0a way.dropLast)) le=some (.lst (z0a es.dropLast)):=by rw [z09 hlwe,z01]
     have k4:upd (upd H5 le (.lst (z0a es.dropLast))) lw (.lst (z0a way.dropLast)) atr=some (.lst (tried2.map V.int)):=by rw [z09 (Ne.symm nwr)]; exact k1'
     refine⟨_,_,.inl (SqL.of k3),z70 (z6e hf),?_⟩
     walk_at "run"
     refine⟨_,_,k4,by omega,z5a j2,_,f,k4,z33 (by rw [y04]; exact(y00.mp j2).1),?_⟩
     refine⟨_,?_,tried2.set f ((t2:Int)+1),es.dropLast,way.dropLast,_,_,rfl,(fz6.new hlw).trans (Frz.upd (by simp)),by rw [z01,y2b],?_,?_,W3,fun b h=>(hx' b h).keep j1 j2 (by omega),rfl⟩
     ·unfold PM.wm
      rw [if_neg hd,if_neg hes,dl]
      have p1:=PM.pot_step j1 j2 j3
      have p2:(PM.pot N.at' (tried2.set f ((t2:Int)+1))+1)*(Bn+3)≤PM.pot N.at' tried'*(Bn+3):=y5s _ (by omega)
      rw [Nat.add_mul] at p2
      omega
     ·rw [z09 nwr,z01]
     ·rw [z09 ner]
      exact k3
    ·have hd:es.dropLast = []:=by
      rcases y1x es.dropLast.length with z | z
      ·exact y1j.mp z
      ·exact absurd (decide_eq_true (by omega)) cd
     obtain⟨wn,W3⟩:=W2.fin hel hd hl ht nor
     subst wn
     refine⟨_,?_,tried2,[],[],_,_,rfl,fz6,k1',k2',by rw [z01,hd],W3,hx',rfl⟩
     unfold PM.wm
     rw [if_pos rfl,if_neg hes]
     omega
  ·have cr':z53 N spare e=true:=by simpa using cr
   have hR:=(z40 (by rw [hP.lp]; exact hen)).mp cr'
   have hwne:way ≠ []:=by
    rintro rfl
    have e1:es[0]?=some e:=hlast
    rw [h0] at e1
    cases e1
    have:=hR.1
    omega
   exact q lw way tried' H4 fz4 (s34 _ _ h1) hlw (s34 _ _ h2) W.tr W.dead hx (.inr ⟨hwne,es,e,Pt,h0,hlast,hR⟩) (by omega)
 ·have hes:es = []:=by
   rcases y1x es.length with z | z
   ·exact y1j.mp z
   ·exact absurd (decide_eq_true (by omega)) c
  obtain⟨wn,ex⟩:=W.none hes
  exact q lw way tried' H' fz h1 hlw h2 W.tr W.dead hx (.inl ⟨wn,ex⟩) (by rw [wn]; decide)
abbrev z1b:Stmt:=z2l (top 8) 11
theorem sc_Pour_send_along:FnScope ["self","give","way","take","amount","tie"] ["self","give","way"] (z05 z1b):=⟨rfl,rfl,rfl,by decide +kernel,rfl,by decide +kernel,by decide +kernel⟩
theorem z5s (T:MTop K CPour "send_along" "Pour.send_along" z1b ["self","give","way"])(B:Blt mg)(F:FldsPour K CPour) :MDef P w K mg base CPour "send_along" 1 ["self","give","way"] (zjv K CPour):=by
 refine z2r (k:=0) T sc_Pour_send_along (fun vs H Q E h=>?_) (fun f cdv A outer s H vs Q E hr h=>?_)
 ·obtain⟨me,N,aS,aP,sent,spare,M,lw,cap,steps,g,f',es,way,rfl,_⟩:=h
  rfl
 obtain⟨me,N,aS,aP,sent,spare,M,lw,cap,steps,g,f',es,way,rfl,hP,hM,hlw,hwl,hwn,hF,Pt,h0,h1,hR,hg,hsg,q⟩:=h
 obtain⟨G0,f1,f2,f3,f4,fx⟩:=hP.ok
 obtain⟨dx,fs,aT,aA,ts,rs,g1,g2,g3,g4,g5,g6,g7,g8,g9,g10,g11⟩:=fx.get
 have hgle:=hP.wf.gle
 have hlp:=hP.lp
 have hls:=hP.ls
 obtain⟨hfG,y,hy,hy0⟩:=hR
 have hfl:f'<spare.length:=(y00.mp hy).1
 have hgl:g<spare.length:=by omega
 have hyD:spare.getD f' 0=y:=by simp [y1k,hy]
 obtain⟨kl,hkl⟩:∃k,way.getLast?=some k:=⟨_,y1w hwn⟩
 have hkl':way[way.length - 1]?=some kl:=by rw [y19] at hkl; exact hkl
 have hwp:=y0s.mpr hwn
 obtain⟨a0,b0,ea,eb,tie,_,_⟩:=Pt.link _ kl hkl'
 rw [show way.length - 1+1=way.length by omega,h1] at eb
 cases eb
 obtain⟨pe,hpe,hpq⟩:=tie
 have hlo:=hP.wf.lo kl pe hpe
 have hpf:pe.2=f':=by rcases hpq with ⟨_,z⟩ | ⟨_,z⟩<;>omega
 obtain⟨at1,ht1,ht2⟩:=zhj g8 hpe
 refine⟨_,(z02 (z0c 3 sc_Pour_send_along.nd (z0m z0l (z0m z0l (z1f F.tie_ends (cv 0)) (z0m z0l (cv 2) (zat z6n z07) (fun _ _=>rfl)) (fun _ _=>rfl)) z07 (fun _ _=>rfl)))
   (z02 (z0c 4 sc_Pour_send_along.nd (z47 zmw B.min zj8 (z00 (z0o z30 (z19 (z00 (z0m z0l (z1f F.spare (cv 0)) (cv 1) (fun _ _=>rfl)) (z00 (z0m z0l (z1f F.spare (cv 0)) (cv 3) (fun _ _=>rfl)) z04))) (z3m (N:=["tie","self"]) (fr:=[0]) 1 (z1o (zc9 (cv 2) (z3h z07) z6d (z3h z07))) (fun C hN=>by exact pgC ((z0b 0 hN)) (by walk_at "c")) (fun C hN=>by exact peC ((z0m z0l (z1f F.sent (cv 1)) (cv 0) (fun _ _=>rfl))) (by walk_at "c")))) z04)))
   (z02 (z1w (z1o (zc9 (cv 2) (z3h z07) z6d (z3h z07))) (z0b 5 sc_Pour_send_along.nd)
   (z08 (z5b (z1f F.sent (cv 0)) (cv 5) z7h (cv 4) zbl z4e)))
   (z02 (z1w (z1o (zc9 (cv 2) (z3h z07) z6d (z3h z07))) (z0b 5 sc_Pour_send_along.nd)
   (z08 (z5b (z1f F.sent (cv 0)) (cv 5) z7h (cv 4) z9h z4e)))
   (z02 (z5b (z1f F.spare (cv 0)) (cv 1) z7h (cv 4) z9h z4e)
   (z08 (z5b (z1f F.spare (cv 0)) (cv 3) z7h (cv 4) z9h z4e))))))),?_⟩
 refine rd (σ':=[some (.ref me),some (.int (g:Int)),some (.ref lw),none,none,none]) rfl ?_
 walk_at "run"
 refine⟨_,_,_,f1 _ _ g1,g3,_,_,.inl (SqL.of hlw),z70 (z6e hkl),?_⟩
 walk_at "run"
 refine⟨_,_,.inl (SqL.of (f1 _ _ g7)),z28 ht1,?_⟩
 walk_at "run"
 refine⟨_,_,.inr (SqT.of (f1 _ _ ht2)),rfl,?_⟩
 rw [hpf]
 refine⟨_,_,_,f1 _ _ g1,g5,_,_,.inl (SqL.of hP.sp),z2y (z0x hgl),?_⟩
 walk_at "run"
 refine⟨_,_,_,f1 _ _ g1,g5,_,_,.inl (SqL.of hP.sp),z2y hy,sz (by show 2≤1000; decide),fun l1 hl1=>?_⟩
 have s1:=z03 hl1 (.lst [.int (spare.getD g 0),.int y])
 refine⟨_,SqL.of (s1 _ _ hlw),by decide,fun l2 hl2=>?_⟩
 rw [zcd,zab]
 have s2:=z03 hl2 (.lst (z0a (PM.alt false way)))
 refine .inl ⟨⟨_,SqL.of z01⟩,cgo (σ':=[none,some (.ref me)]) rfl ?_⟩
 have kin:∀{b:Bool} {k:Nat},k∈PM.alt b way→k<sent.length:=fun h=>by rw [hls]; exact Pt.lt (PM.alt_mem h)
 have lao:=zcv false way
 have lae:=zcv true way
 have nS:∀{l:Addr},H l=none→l≠aS:=fun h z=>(z06 hP.st h) z.symm
 have nP:∀{l:Addr},H l=none→l≠aP:=fun h z=>(z06 hP.sp h) z.symm
 refine z1j (xs:=z0a (PM.alt false way)) (fun i ys H'=>H'=upd (upd H l1 (.lst [.int (spare.getD g 0),.int y])) l2 (.lst (z0a (PM.alt false way)))∧ys=(((PM.alt false way).take i).map fun k=>sent.getD k 0).map V.int) ⟨rfl,rfl⟩ (z0h (by rw [z3q]; omega)) ?_ ?_ ?_
 ·rintro i ys H' _ ⟨rfl,rfl⟩
  refine⟨SqL.of z01,?_⟩
  rw [y04,y04,y0v]
  omega
 ·rintro i x ys H' hx ⟨rfl,rfl⟩
  obtain⟨k,hk,rfl⟩:=z31 hx
  have hkl2:=kin (y02 hk)
  walk_at "run"
  refine z86 ⟨_,_,_,(s1.trans s2) _ _ (f1 _ _ g1),g4,_,_,.inl (SqL.of ((s1.trans s2) _ _ hP.st)),z2y (z0x hkl2),?_⟩
  refine CNx.mk ⟨rfl,?_⟩ (y00.mp hx).1
  rw [z0d hk,y0g,y0g]
  rfl
 rintro ys H' ⟨rfl,rfl⟩ l3 hl3
 rw [z3q,y08 (y0a _)]
 have s3:=z03 hl3 (.lst (((PM.alt false way).map fun k=>sent.getD k 0).map V.int))
 have s13:=s1.trans (s2.trans s3)
 refine⟨_,_,(s2.trans s3) _ _ z01,z01,szz (by rw [y04,y04]; show 2+_≤1000000; omega),fun l4 hl4=>?_⟩
 have s4:=z03 hl4 (.lst ([.int (spare.getD g 0),.int y]++((PM.alt false way).map fun k=>sent.getD k 0).map V.int))
 have s14:=s13.trans s4
 refine⟨spare.getD g 0::y::((PM.alt false way).map fun k=>sent.getD k 0),SqL.of z01,by simp,fun a ha hmin=>?_⟩
 have a1:a≤spare.getD g 0:=hmin _ y0d
 have a2:a≤y:=hmin _ (y0c _ y0d)
 have a3:∀k∈PM.alt false way,∀s,sent[k]?=some s→a≤s:=fun k hk s hs=>by
  have:=hmin (sent.getD k 0) (y0c _ (y0c _ (y1h.mpr ⟨k,hk,rfl⟩)))
  rw [show sent.getD k 0=s by simp [y1k,hs]] at this
  exact this
 have a0:0<a:=by
  rcases y0m.mp ha with rfl | ha
  ·exact hsg
  ·rcases y0m.mp ha with rfl | ha
   ·exact hy0
   ·obtain⟨k,hk,rfl⟩:=y1h.mp ha
    obtain⟨s,hs,hs0⟩:=Pt.back hP.wf h0 hg hk
    rw [show sent.getD k 0=s by simp [y1k,hs]]
    exact hs0
 refine⟨_,SqL.of (s14 _ _ hlw),by decide,fun l5 hl5=>?_⟩
 rw [zeh,zab]
 have s5:=z03 hl5 (.lst (z0a (PM.alt true way)))
 have s15:=s14.trans s5
 have hl5H:H l5=none:=s14.free hl5
 refine .inl ⟨⟨_,SqL.of z01⟩,?_⟩
 have hfirst:∀{o:HO},o = .lst (z0a (PM.alt true way))→upd (upd (upd (upd (upd H l1 (.lst [.int (spare.getD g 0),.int y])) l2 (.lst (z0a (PM.alt false way)))) l3 (.lst (((PM.alt false way).map fun k=>sent.getD k 0).map V.int))) l4 (.lst ([.int (spare.getD g 0),.int y]++((PM.alt false way).map fun k=>sent.getD k 0).map V.int))) l5 (.lst (z0a (PM.alt true way))) l5=some o:=fun h=>by rw [h]; exact z01
 have hS5:=s15 _ _ hP.st
 have hP5:=s15 _ _ hP.sp
 have hL5:=hfirst rfl
 have fz5:Frz [aS,aP] H _:=Frz.of s15
 clear hfirst s1 s2 s3 s4 s5 s13 s14
 generalize upd (upd (upd (upd (upd H l1 (.lst [.int (spare.getD g 0),.int y])) l2 (.lst (z0a (PM.alt false way)))) l3 (.lst (((PM.alt false way).map fun k=>sent.getD k 0).map V.int))) l4 (.lst ([.int (spare.getD g 0),.int y]++((PM.alt false way).map fun k=>sent.getD k 0).map V.int))) l5 (.lst (z0a (PM.alt true way)))=H5 at s15 hS5 hP5 hL5 fz5 ⊢
 have stat:∀H',Frz [aS,aP] H H'→Same G0 H':=fun H' fz=>Same.frz f1 fz fun x hx=>by
  simp only [y0m,y1c,or_false] at hx
  rcases hx with rfl | rfl
  ·exact f2
  ·exact f3
 have hlwS:=hP.mu _ hM
 refine z3f (xs:=z0a (PM.alt true way)) (fun i σ H'=>∃t,σ = [some (.ref me),some (.int (g:Int)),some (.ref lw),some (.int (f':Int)),some (.int a),t]∧Frz [aS,aP] H H'∧H' aS=some (.lst ((PM.addAll a sent ((PM.alt true way).take i)).map V.int))∧H' aP=some (.lst (spare.map V.int))∧H' l5=some (.lst (z0a (PM.alt true way)))) ⟨_,rfl,fz5,hS5,hP5,hL5⟩ ?_ ?_ ?_
 ·rintro i σ H' _ ⟨t,rfl,fz,k1,k2,k3⟩
  exact SqL.of k3
 ·rintro i x σ H' hx ⟨t,rfl,fz,k1,k2,k3⟩
  obtain⟨k,hk,rfl⟩:=z31 hx
  have hkn:k<(PM.addAll a sent ((PM.alt true way).take i)).length:=by rw [PM.addAll_len]; exact kin (y02 hk)
  walk_at "run"
  refine⟨_,_,_,stat H' fz _ _ g1,g4,_,_,k1,by omega,z5a (z0x hkn),?_⟩
  walk_at "run"
  refine⟨_,k,k1,z33 (by rw [y04]; exact hkn),_,rfl,fz.trans (Frz.upd (by simp)),?_,?_,?_⟩
  ·rw [z01,z0d hk,z7q,y2b]
  ·rw [z09 hP.ne.symm]; exact k2
  ·rw [z09 (nS hl5H)]; exact k3
 rintro σ H' ⟨t,rfl,fz,k1,k2,k3⟩
 rw [z3q,y08 (y0a _)] at k1
 walk_at "run"
 have hlw':H' lw=some (.lst (z0a way)):=fz _ _ (by simp only [y0m,y1c,or_false]; exact fun z=>z.elim hlwS.1 hlwS.2) hlw
 refine⟨_,SqL.of hlw',by decide,fun l6 hl6=>?_⟩
 rw [zcd,zab]
 have s6:=z03 hl6 (.lst (z0a (PM.alt false way)))
 have n6S:l6≠aS:=fun z=>(z06 k1 hl6) z.symm
 refine .inl ⟨⟨_,SqL.of z01⟩,?_⟩
 refine z3f (xs:=z0a (PM.alt false way)) (fun i σ H'=>∃t,σ = [some (.ref me),some (.int (g:Int)),some (.ref lw),some (.int (f':Int)),some (.int a),t]∧Frz [aS,aP] H H'∧H' aS=some (.lst ((PM.addAll (-a) (PM.addAll a sent (PM.alt true way)) ((PM.alt false way).take i)).map V.int))∧H' aP=some (.lst (spare.map V.int))∧H' l6=some (.lst (z0a (PM.alt false way)))) ⟨_,rfl,fz.trans (Frz.of s6),s6 _ _ k1,s6 _ _ k2,z01⟩ ?_ ?_ ?_
 ·rintro i σ H' _ ⟨t,rfl,fz,k1,k2,k3⟩
  exact SqL.of k3
 ·clear k1 k2 k3 fz hlw' s6 hl6
  rintro i x σ H' hx ⟨t,rfl,fz,k1,k2,k3⟩
  obtain⟨k,hk,rfl⟩:=z31 hx
  have hkn:k<(PM.addAll (-a) (PM.addAll a sent (PM.alt true way)) ((PM.alt false way).take i)).length:=by rw [PM.addAll_len,PM.addAll_len]; exact kin (y02 hk)
  walk_at "run"
  refine⟨_,_,_,stat H' fz _ _ g1,g4,_,_,k1,by omega,z5a (z0x hkn),?_⟩
  walk_at "run"
  refine⟨_,k,k1,z33 (by rw [y04]; exact hkn),_,rfl,fz.trans (Frz.upd (by simp)),?_,?_,?_⟩
  ·rw [z01,z0d hk,z7q,y2b,Int.sub_eq_add_neg]
  ·rw [z09 hP.ne.symm]; exact k2
  ·rw [z09 n6S]; exact k3
 clear k1 k2 k3 fz hlw' s6 hl6
 rintro σ H' ⟨t,rfl,fz,k1,k2,k3⟩
 rw [z3q,y08 (y0a _)] at k1
 walk_at "run"
 refine⟨_,_,_,stat H' fz _ _ g1,g5,_,_,k2,by omega,z5a (z0x hgl),?_⟩
 walk_at "run"
 refine⟨_,g,k2,z33 (by rw [y04]; exact hgl),?_⟩
 have hset:(spare.map V.int).set g (.int (spare.getD g 0 - a))=(spare.set g (spare.getD g 0 - a)).map V.int:=by rw [y2b]
 rw [hset]
 have fz2:Frz [aS,aP] H (upd H' aP (.lst ((spare.set g (spare.getD g 0 - a)).map V.int))):=fz.trans (Frz.upd (by simp))
 have hgf:f'≠g:=by omega
 have hy2:(spare.set g (spare.getD g 0 - a))[f']?=some y:=by rw [PM.set_at hgf]; exact hy
 refine⟨_,_,_,stat _ fz2 _ _ g1,g5,_,_,z01,by omega,z5a hy2,?_⟩
 walk_at "run"
 refine⟨_,f',z01,z33 (by rw [y04,y22]; exact hfl),?_⟩
 have S:=hF.sent hP.wf Pt h0 h1 hg (by omega) (z0x hgl) hy (y25 a0) a1 a2 a3
 refine q a _ _ a0 (fz2.trans (Frz.upd (by simp))) ?_ ?_ S ?_ ?_
 ·rw [z09 hP.ne,z09 hP.ne]
  exact k1
 ·simp only [z01,y2b]
 ·have:((spare.set g (spare.getD g 0 - a)).set f' (y - a)).getD g 0=spare.getD g 0 - a:=by
   rw [y07,PM.set_at (Ne.symm hgf),y0t hgl]
   rfl
  omega
 ·intro e he heg
  rw [y07,PM.set_at (by omega),PM.set_at heg,←y07]
abbrev z0v:Stmt:=z2l (top 8) 7
theorem sc_Pour_send_by_steps:FnScope ["self","steps","tried","give","way"] ["self","steps"] (z05 z0v):=⟨rfl,rfl,rfl,by decide +kernel,rfl,by decide +kernel,by decide +kernel⟩
theorem z4p (T:MTop K CPour "send_by_steps" "Pour.send_by_steps" z0v ["self","steps"])(B:Blt mg)(F:FldsPour K CPour)(D_Pour_gives_with_rest:MDef P w K mg base CPour "gives_with_rest" 1 ["self"] (zeu K CPour))(D_Pour_way_from:MDef P w K mg base CPour "way_from" 4 ["self","give","steps","tried"] (zm6 K CPour))(D_Pour_send_along:MDef P w K mg base CPour "send_along" 1 ["self","give","way"] (zjv K CPour)):MDef P w K mg base CPour "send_by_steps" 5 ["self","steps"] (zfx K CPour):=by
 refine z2r (k:=4) T sc_Pour_send_by_steps (fun vs H Q E h=>?_) (fun f cdv A outer s H vs Q E hr h=>?_)
 ·obtain⟨me,N,aS,aP,sent0,spare0,M,ast,cap,steps,rfl,_⟩:=h
  rfl
 obtain⟨me,N,aS,aP,sent0,spare0,M,ast,cap,steps,rfl,hP,hM,hst,hsl,hF,hS,q⟩:=h
 obtain⟨G0,f1,f2,f3,f4,fx⟩:=hP.ok
 obtain⟨dx,fs,aT,aA,ts,rs,g1,g2,g3,g4,g5,g6,g7,g8,g9,g10,g11⟩:=fx.get
 have hsm:=hP.sm
 have hgle:=hP.wf.gle
 have hsp:(spare0.map V.int).length=N.nE:=by rw [y04]; exact hP.lp
 obtain⟨na1,na2⟩:=hP.mu _ hM
 refine⟨_,(z02 (z0c 2 sc_Pour_send_by_steps.nd (z0o z35 (z19 (z00 z07 z04)) (z47 z1z B.len y18 (z00 (z1f F.spare (cv 0)) z04))))
   (z08 (z1w (z1o (z5g D_Pour_gives_with_rest (hr.mono (by decide)) (cv 0))) (z0b 3 sc_Pour_send_by_steps.nd)
   (z02 (z0c 4 sc_Pour_send_by_steps.nd (z2a D_Pour_way_from (hr.mono (by decide)) (cv 0) (z00 (cv 3) (z00 (cv 1) (z00 (cv 2) z04)))))
    (z08 (z3y (z0y z7d (z47 z1z B.len y18 (z00 (cv 4) z04)) z07 (z0r _))
    (z02 (z20 (z2a D_Pour_send_along (hr.mono (by decide)) (cv 0) (z00 (cv 3) (z00 (cv 4) z04))))
     (z08 (z0c 4 sc_Pour_send_by_steps.nd (z94 (z0y z7d (z0m z0l (z1f F.spare (cv 0)) (cv 3) (fun _ _=>rfl)) z07 (z0r _)) (z2a D_Pour_way_from (hr.mono (by decide)) (cv 0) (z00 (cv 3) (z00 (cv 1) (z00 (cv 2) z04)))) (z19 z04))))))))))),?_⟩
 refine rd (σ':=[some (.ref me),some (.ref ast),none,none,none]) rfl ?_
 walk_at "run"
 refine⟨sz (by show 1≤1000; decide),fun l0 hl0=>?_⟩
 have s0:=z03 hl0 (.lst [.int 0])
 refine⟨_,_,_,s0 _ _ (f1 _ _ g1),g5,_,.inl (SqL.of (s0 _ _ hP.sp)),?_⟩
 rw [hsp]
 walk_at "run"
 refine⟨_,z01,by omega,by omega,sz (by show 1*_≤1000; omega),fun lt hlt=>?_⟩
 rw [z2x]
 have e0:y05 ((N.nE:Int)).toNat (V.int 0)=(y05 N.nE 0).map V.int:=by rw [y2o]; rfl
 rw [e0]
 have s1:=z03 hlt (.lst ((y05 N.nE 0).map V.int))
 have sA:=s0.trans s1
 have hltH:H lt=none:=s0.free hlt
 have hP1:=((hP.same s0).new hlt).same s1
 have ntS:lt≠aS:=fun z=>(z06 hP.st hltH) z.symm
 have ntP:lt≠aP:=fun z=>(z06 hP.sp hltH) z.symm
 have nta:ast≠lt:=z06 hst hltH
 refine⟨_,_,sA _ _ (f1 _ _ g1),g11 _ (by decide),me,N,aS,aP,sent0,spare0,_,rfl,hP1,fun r hr=>?_⟩
 have s2:=z03 hr (.lst (z0a (rest N spare0)))
 have hrH:H r=none:=sA.free hr
 have nrt:r≠lt:=fun z=>by
  subst z
  rw [z01] at hr
  cases hr
 have nrS:r≠aS:=fun z=>(z06 hP.st hrH) z.symm
 have nrP:r≠aP:=fun z=>(z06 hP.sp hrH) z.symm
 refine .inl ⟨⟨_,SqL.of z01⟩,?_⟩
 have hP2:=hP1.same s2
 have ht2:upd (upd (upd H l0 (.lst [.int 0])) lt (.lst ((y05 N.nE 0).map V.int))) r (.lst (z0a (rest N spare0))) lt=some (.lst ((y05 N.nE 0).map V.int)):=s2 _ _ z01
 refine z3f (xs:=z0a (rest N spare0)) (fun i σ H'=>∃(sent spare tried:List Int) (t3 t4:Option V),σ = [some (.ref me),some (.ref ast),some (.ref lt),t3,t4]∧PourAt K CPour H' me N aS aP sent spare (lt::M)∧Frz [aS,aP] H H'∧H' lt=some (.lst (tried.map V.int))∧H' r=some (.lst (z0a (rest N spare0)))∧PM.Phase N cap steps sent0 spare0 ((rest N spare0).take i) sent spare tried∧(∀e,e<N.G→e ∉ (rest N spare0).take i→spare.getD e 0=spare0.getD e 0))
  ⟨sent0,spare0,_,_,_,rfl,hP2,Frz.of (sA.trans s2),ht2,z01,⟨hF,tr0 hP.wf,znx,fun e x y h1 h2=>by rw [h1] at h2; cases h2; exact y1u _,.inl ⟨rfl,rfl,fun g hg=>by simp at hg⟩⟩,fun e _ _=>rfl⟩ ?_ ?_ ?_
 ·rintro i σ H' _ ⟨sent,spare,tried,t3,t4,rfl,hP',fz,h1,h2,_⟩
  exact SqL.of h2
 ·clear hP1 hP2 ht2 s0 s1 s2 sA hr hlt e0
  rintro i x σ H' hx ⟨sent,spare,tried,t3,t4,rfl,hP',fz,h1,h2,Ph,same⟩
  obtain⟨g,hg,rfl⟩:=z31 hx
  have hgm:=rest_mem.mp (y02 hg)
  have hgl:g<spare0.length:=by rw [hP.lp]; omega
  have hg0:PM.Lv steps g=0:=hS.src g _ hgm.1 (z0x hgl) hgm.2
  have stat:∀H'',Frz [aS,aP] H H''→Same G0 H''∧H'' ast=some (.lst (steps.map V.int)):=fun H'' fz=>⟨Same.frz f1 fz fun x hx=>by
   simp only [y0m,y1c,or_false] at hx
   rcases hx with rfl | rfl
   ·exact f2
   ·exact f3,fz _ _ (by simp only [y0m,y1c,or_false]; exact fun z=>z.elim na1 na2) hst⟩
  have thr:∀{H1 H2:Hp},Frz [aS,aP] H H1→Frz [lt] H1 H2→Frz [aS,aP] H H2:=fun a b c o hc h=>b c o (by simpa using z06 h hltH) (a c o hc h)
  walk_at "run"
  refine⟨_,_,(stat H' fz).1 _ _ g1,g11 _ (by decide),me,N,aS,aP,sent,spare,_,ast,lt,steps,tried,g,rfl,hP',y0d,nta,(stat H' fz).2,hsl,h1,hg0,hgm.1,Ph.tr,Ph.dead,fun lw way tried1 H1 fz1 k1 k2 k3 T1 D1 ex1 hway hwl=>?_⟩
  have fz1':=thr fz fz1
  have hPa:=((hP'.new k2).frz fz1 (fun x hx=>by rw [y0e.mp hx]; simp))
  have hr1:H1 r=some (.lst (z0a (rest N spare0))):=fz1 _ _ (by simpa using nrt) h2
  have sg0:spare.getD g 0=spare0.getD g 0:=same g hgm.1 (zdg zdl hg)
  walk_at "run"
  refine⟨fun m σ H2=>∃(sent spare tried:List Int) (way:List Nat) (lw:Addr),σ = [some (.ref me),some (.ref ast),some (.ref lt),some (.int (g:Int)),some (.ref lw)]∧PourAt K CPour H2 me N aS aP sent spare (lw::lt::M)∧Frz [aS,aP] H H2∧H2 lt=some (.lst (tried.map V.int))∧H2 r=some (.lst (z0a (rest N spare0)))∧H2 lw=some (.lst (z0a way))∧way.length≤1000 ∧
    PM.Phase N cap steps sent0 spare0 ((rest N spare0).take i) sent spare tried∧(∀e,e<N.G→e ∉ (rest N spare0).take i→e≠g→spare.getD e 0=spare0.getD e 0) ∧
    ((way = []∧(PM.Exh N spare tried g∨spare.sum<spare0.sum))∨(way ≠ []∧0<spare.getD g 0∧∃(es:List Nat) (f:Nat),PM.Path N steps sent es way∧es[0]?=some g∧es[way.length]?=some f∧PM.Room N spare f))∧m=(spare.getD g 0).toNat,
   ⟨_,sent,spare,tried1,way,lw,rfl,hPa,fz1',k1,hr1,k3,hwl,Ph.walked T1 D1 ex1,fun e he hm _=>same e he hm,hway.imp (fun z=>⟨z.1,.inl z.2⟩) (fun z=>⟨z.1,by rw [sg0]; exact hgm.2,z.2⟩),rfl⟩,?_⟩
  clear hPa fz1' hr1 sg0 k1 k2 k3 T1 D1 ex1 hway hwl fz1 Ph same h1 h2 hP' fz
  rintro m σ H2 ⟨sent,spare,tried,way,lw,rfl,hP',fz,h1,h2,h3,hwl,Ph,same,hway,rfl⟩
  walk_at "run"
  refine⟨_,.inl (SqL.of h3),?_⟩
  rw [z3q]
  refine z4i (fun c=>?_) (fun c=>?_)
  ·have hwn:way ≠ []:=by
    rintro rfl
    simp at c
   obtain⟨_,sg,es,f',Pt,p0,p1,pR⟩:=hway.resolve_left (fun z=>hwn z.1)
   refine⟨_,_,(stat H2 fz).1 _ _ g1,g11 _ (by decide),me,N,aS,aP,sent,spare,_,lw,cap,steps,g,f',es,way,rfl,hP',y0d,h3,hwl,hwn,Ph.flow,Pt,p0,p1,pR,hgm.1,sg,fun a spare' H3 a0 fz3 k1 k2 S hless oth=>?_⟩
   have fz3':=fz.trans fz3
   have hP3:=hP'.but fz3 k1 k2 (PM.send_len a sent way) (by rw [S.flow.lp,Ph.flow.lp])
   have Ph3:=Ph.sent hP.wf Pt p0 hgm.1 a0 S
   have nlw:=hP'.mu lw y0d
   have h1':H3 lt=some (.lst (tried.map V.int)):=fz3 _ _ (by simp only [y0m,y1c,or_false]; exact fun z=>z.elim ntS ntP) h1
   have h2':H3 r=some (.lst (z0a (rest N spare0))):=fz3 _ _ (by simp only [y0m,y1c,or_false]; exact fun z=>z.elim nrS nrP) h2
   have hsl':spare'.length=N.nE:=S.flow.lp
   have sp0:0≤spare'.getD g 0:=S.flow.sp g _ (z0x (by omega))
   have sum3:spare'.sum<spare0.sum:=by
    have:=S.sum
    rcases Ph.prog with ⟨_,rfl,_⟩ | z<;>omega
   have same3:∀e,e<N.G→e ∉ (rest N spare0).take i→e≠g→spare'.getD e 0=spare0.getD e 0:=fun e he hm hne=>by rw [oth e he hne]; exact same e he hm hne
   walk_at "run"
   refine⟨_,_,_,(stat H3 fz3').1 _ _ g1,g5,_,_,.inl (SqL.of k2),z2y (z0x (by omega)),z4i (fun cs=>?_) (fun cs=>?_)⟩
   ·have cs':=of_decide_eq_true cs
    have hPl:=hP3.less (L:=lt::M) (fun x hx=>y0c _ hx)
    refine⟨_,_,(stat H3 fz3').1 _ _ g1,g11 _ (by decide),me,N,aS,aP,_,spare',_,ast,lt,steps,tried,g,rfl,hPl,y0d,nta,(stat H3 fz3').2,hsl,h1',hg0,hgm.1,Ph3.tr,Ph3.dead,fun lw2 way2 tried2 H4 fz4 j1 j2 j3 T2 D2 ex2 hway2 hwl2=>?_⟩
    refine⟨_,?_,_,spare',tried2,way2,lw2,rfl,(hPl.new j2).frz fz4 (fun x hx=>by rw [y0e.mp hx]; simp),thr fz3' fz4,j1,fz4 _ _ (by simpa using nrt) h2',j3,hwl2,Ph3.walked T2 D2 ex2,same3,hway2.imp (fun z=>⟨z.1,.inr sum3⟩) (fun z=>⟨z.1,cs',z.2⟩),rfl⟩
    omega
   ·refine⟨sz (by show 0≤1000; decide),fun lw2 hlw2=>?_⟩
    have s4:=z03 hlw2 (.lst [])
    refine⟨_,?_,_,spare',tried,[],lw2,rfl,((hP3.less (L:=lt::M) (fun x hx=>y0c _ hx)).new hlw2).same s4,fz3'.trans (Frz.of s4),s4 _ _ h1',s4 _ _ h2',z01,by decide,Ph3,same3,.inl ⟨rfl,.inr sum3⟩,rfl⟩
    omega
  ·have hwn:way = []:=by
    rcases y1x way.length with z | z
    ·exact y1j.mp z
    ·exact absurd (decide_eq_true (by omega)) c
   have ex:=(hway.resolve_right (fun z=>z.1 hwn)).2
   refine⟨sent,spare,tried,_,_,rfl,hP'.less (fun x hx=>y0c _ hx),fz,h1,h2,?_,fun e he hm=>?_⟩
   ·rw [z0d hg]
    exact Ph.one ex
   ·rw [z0d hg] at hm
    simp only [y13,y0e,not_or] at hm
    exact same e he hm.1 hm.2
 ·rintro σ H' ⟨sent,spare,tried,t3,t4,rfl,hP',fz,h1,h2,Ph,same⟩
  rw [z3q,y08 (y0a _)] at Ph
  refine q sent spare H' fz hP'.st hP'.sp Ph.flow Ph.le fun e he hR=>Ph.less hP.wf hS (fun g hg=>?_) he hR
  obtain⟨a1,x,a2,a3⟩:=hS.zero g hg
  refine rest_mem.mpr ⟨a1,?_⟩
  rw [show spare0.getD g 0=x by simp [y1k,a2]]
  exact a3
abbrev z2t:Stmt:=z2l (top 8) 12
theorem sc_Pour_fill:FnScope ["self","steps"] ["self"] (z05 z2t):=⟨rfl,rfl,rfl,by decide +kernel,rfl,by decide +kernel,by decide +kernel⟩
theorem z9w (T:MTop K CPour "fill" "Pour.fill" z2t ["self"])(B:Blt mg)(D_Pour_steps_to_room:MDef P w K mg base CPour "steps_to_room" 3 ["self"] (zfq K CPour))(D_Pour_has_room:MDef P w K mg base CPour "has_room" 1 ["self","ends"] (zcn K CPour))(D_Pour_send_by_steps:MDef P w K mg base CPour "send_by_steps" 5 ["self","steps"] (zfx K CPour)):MDef P w K mg base CPour "fill" 6 ["self"] (zjq K CPour):=by
 refine z2r (k:=5) T sc_Pour_fill (fun vs H Q E h=>?_) (fun f cdv A outer s H vs Q E hr h=>?_)
 ·obtain⟨me,N,aS,aP,sent0,spare0,M,cap,rfl,_⟩:=h
  rfl
 obtain⟨me,N,aS,aP,sent0,spare0,M,cap,rfl,hP,hF,q⟩:=h
 obtain⟨G0,f1,f2,f3,f4,fx⟩:=hP.ok
 obtain⟨dx,fs,aT,aA,ts,rs,g1,g2,g3,g4,g5,g6,g7,g8,g9,g10,g11⟩:=fx.get
 have hsm:=hP.sm
 have hgle:=hP.wf.gle
 have stat:∀H'',Frz [aS,aP] H H''→Same G0 H'':=fun H'' fz=>Same.frz f1 fz fun x hx=>by
  simp only [y0m,y1c,or_false] at hx
  rcases hx with rfl | rfl
  ·exact f2
  ·exact f3
 refine⟨_,(z02 (z0c 1 sc_Pour_fill.nd (z5g D_Pour_steps_to_room (hr.mono (by decide)) (cv 0)))
   (z02 (z3y (z3r (z2a D_Pour_has_room (hr.mono (by decide)) (cv 0) (z00 (z5n (N:=["end","step"]) (fr:=[]) 2 (z84 B.enumerate (cv 1)) (fun C hN=>by exact pgC ((z6u (z0b 0 hN) (z0b 1 hN))) (by walk_at "c")) (fun C hN=>by exact ptC ((z0y zi1 (cv 1) z07 (z0r _))) (by walk_at "c")) (fun C hN=>by exact peC ((cv 0)) (by walk_at "c"))) z04)))
   (z02 (z20 (z2a D_Pour_send_by_steps (hr.mono (by decide)) (cv 0) (z00 (cv 1) z04)))
    (z08 (z0c 1 sc_Pour_fill.nd (z5g D_Pour_steps_to_room (hr.mono (by decide)) (cv 0))))))
   (z08 (z0s (z3m (N:=["step"]) (fr:=[]) 1 (z1o (cv 1)) (fun C hN=>by exact pgC ((z0b 0 hN)) (by walk_at "c")) (fun C hN=>by exact peC ((z3o zi1 (cv 0) z07 (z0r _))) (by walk_at "c"))))))),?_⟩
 refine rd (σ':=[some (.ref me),none]) rfl ?_
 walk_at "run"
 refine⟨_,_,f1 _ _ g1,g11 _ (by decide),me,N,aS,aP,sent0,spare0,M,rfl,hP,fun l steps H1 s1 hl k1 hsl hfound=>?_⟩
 refine⟨fun m σ H'=>∃(sent spare steps:List Int) (ast:Addr),σ = [some (.ref me),some (.ref ast)]∧PourAt K CPour H' me N aS aP sent spare (ast::M)∧Frz [aS,aP] H H'∧H' ast=some (.lst (steps.map V.int))∧steps.length=N.nE∧PM.Flow N cap sent spare∧(∀(e:Nat) x y,spare0[e]?=some x→spare[e]?=some y→y≤x)∧znf N sent spare steps∧m=spare.sum.toNat,
  ⟨_,sent0,spare0,steps,l,rfl,(hP.new hl).same s1,Frz.of s1,k1,hsl,hF,fun e x y h1 h2=>by rw [h1] at h2; cases h2; exact y1u _,hfound,rfl⟩,?_⟩
 clear k1 hsl hfound hl s1
 rintro m σ H' ⟨sent,spare,steps,ast,rfl,hP',fz,k1,hsl,hF',le,⟨d,row,R,hrow⟩,rfl⟩
 walk_at "run"
 refine⟨_,_,stat H' fz _ _ g1,g11 _ (by decide),⟨_,SqL.of k1⟩,cgo (σ':=[none,none]) rfl ?_⟩
 have hml:(steps.map V.int).length=steps.length:=y04 _
 refine zap (xs:=steps.map V.int) (fun i ys H2=>Same H' H2∧ys=z0a (z87 steps i)) ⟨Same.refl _,rfl⟩ (z0h (by omega)) ?_ ?_ ?_
 ·rintro i ys H2 _ ⟨s2,rfl⟩
  exact⟨SqL.of (s2 _ _ k1),by rw [z3q]; exact zaq _ _⟩
 ·rintro i x ys H2 p hx ⟨s2,rfl⟩ hp
  have hil:i<steps.length:=by simpa using (y00.mp hx).1
  have ex:x = .int (PM.Lv steps i):=by
   rw [y06,zdi hil] at hx
   exact(y12 hx).symm
  subst ex
  have s3:=z03 hp (.tup [.int (i:Int),.int (PM.Lv steps i)])
  refine⟨_,_,SqT.of z01,?_⟩
  walk_at "run"
  refine z4i (fun c=>?_) (fun c=>?_)
  ·refine CNx.mk ⟨s2.trans s3,?_⟩ (by omega)
   rw [z8l,if_pos (of_decide_eq_true c),zcz]
  ·refine CNx.mk ⟨s2.trans s3,?_⟩ (by omega)
   rw [z8l,if_neg (fun z=>c (decide_eq_true z)),y2u]
 rintro ys H2 ⟨s2,rfl⟩ le1 hle1
 rw [hml]
 have s3:=z03 hle1 (.lst (z0a (z87 steps steps.length)))
 have s23:=s2.trans s3
 have rl:=zaq steps steps.length
 refine⟨me,N,aS,aP,sent,spare,_,le1,z87 steps steps.length,rfl,hP'.same s23,z01,by omega,fun e he=>?_,fun H3 s4=>?_⟩
 ·rw [←hsl]
  exact za9 (reach_mem.mp he)
 have s24:=s23.trans s4
 have fz3:=fz.trans (Frz.of s24)
 walk_at "run"
 refine z4i (fun c=>?_) (fun c=>?_)
 ·obtain⟨e,he,hR⟩:=y1r.mp c
  have he0:=reach_mem.mp he
  have hR':=(z40 (by rw [hP'.lp,←hsl]; exact za9 he0)).mp hR
  refine⟨_,_,stat H3 fz3 _ _ g1,g11 _ (by decide),me,N,aS,aP,sent,spare,_,ast,cap,steps,rfl,hP'.same s24,y0d,s24 _ _ k1,hsl,hF',R.st,fun sent' spare' H4 fz4 j1 j2 hF4 le4 less=>?_⟩
  have hP4:=(hP'.same s24).but fz4 j1 j2 (by rw [hF4.ls,hF'.ls]) (by rw [hF4.lp,hF'.lp])
  have fz4':=fz3.trans fz4
  have hP4':=hP4.less (L:=M) (fun x hx=>y0c _ hx)
  walk_at "run"
  refine⟨_,_,stat H4 fz4' _ _ g1,g11 _ (by decide),me,N,aS,aP,sent',spare',M,rfl,hP4',fun l2 steps2 H5 s5 i1 i2 hsl2 hf2=>?_⟩
  have sl:=less e he0 hR'
  have n0:0≤spare'.sum:=PM.sum_nn fun i x hx=>hF4.sp i x hx
  refine⟨_,?_,sent',spare',steps2,l2,rfl,(hP4'.new i1).same s5,fz4'.trans (Frz.of s5),i2,hsl2,hF4,fun e x y h1 h2=>?_,hf2,rfl⟩
  ·omega
  ·have hz:spare[e]?=some (spare[e]'(by have:=(y00.mp h1).1; rw [hP'.lp]; rw [hP.lp] at this; exact this)):=y01 _
   have a1:=le e _ _ h1 hz
   have a2:=le4 e _ _ hz h2
   omega
 ·have nor:∀e,0≤PM.Lv steps e→¬PM.Room N spare e:=fun e he hR=>by
   have hR':=(z40 (by rw [hP'.lp,←hsl]; exact za9 he)).mpr hR
   exact c (y1r.mpr ⟨e,reach_mem.mpr he,hR'⟩)
  have Dn:=R.done hF' hrow nor
  refine .inl ⟨⟨_,SqL.of (s24 _ _ k1)⟩,cgo (σ':=[none]) rfl ?_⟩
  refine z1j (xs:=steps.map V.int) (fun i ys H4=>H4=H3∧ys=((steps.take i).map fun s=>decide (0≤s)).map V.bl) ⟨rfl,rfl⟩ (z0h (by omega)) ?_ ?_ ?_
  ·rintro i ys H4 _ ⟨rfl,rfl⟩
   refine⟨SqL.of (s24 _ _ k1),?_⟩
   rw [y04,y04,y0v]
   omega
  ·rintro i x ys H4 hx ⟨rfl,rfl⟩
   have hil:i<steps.length:=by simpa using (y00.mp hx).1
   have hst:steps[i]?=some steps[i]:=y01 hil
   have ex:x = .int steps[i]:=by
    rw [y06,hst] at hx
    exact(y12 hx).symm
   subst ex
   walk_at "run"
   refine z86 (CNx.mk ⟨rfl,?_⟩ (by omega))
   rw [z0d hst,y0g,y0g]
   rfl
  ·rintro ys H4 ⟨rfl,rfl⟩ l2 hl2
   rw [hml,y08 (y0a _)]
   have s5:=z03 hl2 (.lst ((z3i steps).map V.bl))
   have hl2H:H l2=none:=by
    cases z:H l2 with
    | none=>rfl
    | some o =>
     exfalso
     by_cases hb:l2 ∈ [aS,aP]
     ·simp only [y0m,y1c,or_false] at hb
      rcases hb with rfl | rfl
      ·rw [s24 _ _ hP'.st] at hl2; cases hl2
      ·rw [s24 _ _ hP'.sp] at hl2; cases hl2
     ·rw [fz3 _ _ hb z] at hl2; cases hl2
   exact q l2 sent spare steps _ (fz3.trans (Frz.of s5)) (s5 _ _ (s24 _ _ hP'.st)) (s5 _ _ (s24 _ _ hP'.sp)) Dn le hsl hl2H z01
abbrev z2s:Stmt:=top 10
theorem sc_pour_more:FnScope ["gives","takes","ties","sent","pour","near"] ["gives","takes","ties","sent"] (z05 z2s):=⟨rfl,rfl,rfl,by decide +kernel,rfl,by decide +kernel,by decide +kernel⟩
theorem zah (T:Top K mg "pour_more" z2s ["gives","takes","ties","sent"])(B:Blt mg)(F:FldsPour K CPour)(D_Pour_init:CDef P w K mg base "Pour" CPour 1 ["self","gives","takes","ties","sent"] (zg2 K CPour))(D_Pour_fill:MDef P w K mg base CPour "fill" 6 ["self"] (zjq K CPour)):Def P w K mg base "pour_more" 7 ["gives","takes","ties","sent"] (zev K):=by
 refine z1x (k:=6) T sc_pour_more (fun vs H Q E h=>?_) (fun f cdv A outer s H vs Q E hr h=>?_)
 ·obtain⟨ag,ak,ai,ase,gs,ts,ss,ties,rfl,_⟩:=h
  rfl
 obtain⟨ag,ak,ai,ase,gs,ts,ss,ties,rfl,hg,hk,hi,hs,hties,hssl,hsm,htl,hnn,hsp,q⟩:=h
 refine⟨_,(z02 (z0c 4 sc_pour_more.nd (zk9 D_Pour_init (hr.mono (by decide)) (z00 (cv 0) (z00 (cv 1) (z00 (cv 2) (z00 (cv 3) z04))))))
   (z02 (z0c 5 sc_pour_more.nd (z5g D_Pour_fill (hr.mono (by decide)) (cv 4)))
   (z08 (z0s (z4g (z00 (z1f F.sent (cv 4)) (z00 (z4g (z00 (ziv (cv 5) z6d (z3h (z47 z1z B.len y18 (z00 (cv 0) z04)))) (z00 (ziv (cv 5) (z3h (z47 z1z B.len y18 (z00 (cv 0) z04))) z6d) z04))) z04))))))),?_⟩
 refine rd (σ':=[some (.ref ag),some (.ref ak),some (.ref ai),some (.ref ase),none,none]) rfl ?_
 walk_at "run"
 intro x dx hx hdx hne
 have s1:Same H (upd (upd H dx (.own x)) x (.ins CPour dx [])):=fun b o h=>by
  rw [z09 (z06 h hx),z09 (z06 h hdx)]
  exact h
 refine⟨x,dx,ag,ak,ai,ase,gs,ts,ss,ties,rfl,z01,s1 _ _ hg,s1 _ _ hk,Is.same s1 _ _ hi,s1 _ _ hs,hties,hssl,hsm,htl,fun aS aP H1 fz1 hS hP0 hP=>⟨rfl,?_⟩⟩
 have hSH:H aS=none:=s1.free hS
 have hPH:H aP=none:=s1.free hP0
 have s2:Same H H1:=fun b o h=>fz1 b o (by simpa using z06 h hx) (s1 b o h)
 obtain⟨G0,f1,f2,f3,f4,fx⟩:=hP.ok
 obtain⟨dx',fs,aT,aA,ts',rs,g1,g2,g3,g4,g5,g6,g7,g8,g9,g10,g11⟩:=fx.get
 walk_at "run"
 refine⟨_,_,f1 _ _ g1,g11 _ (by decide),x,z2f gs.length ts.length ties,aS,aP,ss,_,[],gs++ts,rfl,hP,zoy hssl hnn hsp,fun l sent spare steps H2 fz2 k1 k2 Dn le hsl hl k3=>?_⟩
 have hlH:H l=none:=s2.free hl
 have s3:Same H H2:=fun b o h=>fz2 b o (by simp only [y0m,y1c,or_false]; exact fun z=>z.elim (z06 h hSH) (z06 h hPH)) (s2 b o h)
 have sG:=Same.frz f1 fz2 fun x hx=>by
  simp only [y0m,y1c,or_false] at hx
  rcases hx with rfl | rfl
  ·exact f2
  ·exact f3
 have hsl':steps.length=gs.length+ts.length:=hsl
 have hgl:(gs.map V.int).length=gs.length:=y04 _
 refine⟨_,_,_,sG _ _ g1,g4,?_⟩
 refine⟨_,.inl (SqL.of (s3 _ _ hg)),?_⟩
 rw [hgl]
 walk_at "run"
 refine⟨_,SqL.of k3,fun n1 hn1=>?_⟩
 rw [zg5,←y77]
 have s4:=z03 hn1 (.lst (((z3i steps).take gs.length).map V.bl))
 refine⟨_,.inl (SqL.of ((s3.trans s4) _ _ hg)),?_⟩
 rw [hgl]
 refine⟨_,SqL.of (s4 _ _ k3),fun n2 hn2=>?_⟩
 rw [zg6,←y78]
 have s5:=z03 hn2 (.lst (((z3i steps).drop gs.length).map V.bl))
 refine⟨sz (by show 2≤1000; decide),fun q' hq'=>⟨sz (by show 2≤1000; decide),fun p hp=>?_⟩⟩
 have s6:=z03 hq' (.tup [.ref n1,.ref n2])
 have s7:=z03 hp (.tup [.ref aS,.ref q'])
 have sA:=s3.trans (s4.trans (s5.trans (s6.trans s7)))
 refine q p q' aS n1 n2 sent spare steps _ sA ⟨(s3.trans (s4.trans (s5.trans s6))).free hp,(s3.trans (s4.trans s5)).free hq',hSH,s3.free hn1,(s3.trans s4).free hn2⟩ ⟨fun z=>?_,fun z=>?_,fun z=>?_⟩ z01 (s7 _ _ z01) ((s4.trans (s5.trans (s6.trans s7))) _ _ k1) ((s5.trans (s6.trans s7)) _ _ z01) ((s6.trans s7) _ _ z01) Dn hsl' le
 ·subst z
  rw [k1] at hn1
  cases hn1
 ·subst z
  rw [s4 _ _ k1] at hn2
  cases hn2
 ·subst z
  rw [z01] at hn2
  cases hn2
abbrev z3c:Stmt:=top 9
theorem zbe:FnScope ["gives","takes","ties"] ["gives","takes","ties"] (z05 z3c):=⟨rfl,rfl,rfl,by decide +kernel,rfl,by decide +kernel,by decide +kernel⟩
theorem zc7 (T:Top K mg "pour_all" z3c ["gives","takes","ties"])(B:Blt mg)(D_pour_more:Def P w K mg base "pour_more" 7 ["gives","takes","ties","sent"] (zev K)):Def P w K mg base "pour_all" 8 ["gives","takes","ties"] (zkx K):=by
 refine z1x (k:=7) T zbe (fun vs H Q E h=>?_) (fun f cdv A outer s H vs Q E hr h=>?_)
 ·obtain⟨ag,ak,ai,gs,ts,ties,rfl,_⟩:=h
  rfl
 obtain⟨ag,ak,ai,gs,ts,ties,rfl,hg,hk,hi,hties,hsm,htl,hnn,q⟩:=h
 obtain⟨_,tv,e1,hai,hal⟩:=is_list.mp hi
 cases e1
 have htv:tv.length=ties.length:=by simpa using z0i hal
 refine⟨_,(z08 (z0s (z0k D_pour_more (hr.mono (by decide)) (z00 (cv 0) (z00 (cv 1) (z00 (cv 2) (z00 (z0o z35 (z19 (z00 z07 z04)) (z47 z1z B.len y18 (z00 (cv 2) z04))) z04))))))),?_⟩
 refine rd (σ':=[some (.ref ag),some (.ref ak),some (.ref ai)]) rfl ?_
 walk_at "run"
 refine⟨sz (by show 1≤1000; decide),fun l0 hl0=>?_⟩
 have s0:=z03 hl0 (.lst [.int 0])
 refine⟨_,.inl (SqL.of (s0 _ _ hai)),?_⟩
 rw [htv]
 walk_at "run"
 refine⟨_,z01,by omega,by omega,sz (by show 1*_≤1000; omega),fun l1 hl1=>?_⟩
 rw [z2x]
 have e0:y05 ((ties.length:Int)).toNat (V.int 0)=(y05 ties.length 0).map V.int:=by rw [y2o]; rfl
 rw [e0]
 have s1:=z03 hl1 (.lst ((y05 ties.length 0).map V.int))
 have sA:=s0.trans s1
 refine⟨ag,ak,ai,l1,gs,ts,y05 ties.length 0,ties,rfl,sA _ _ hg,sA _ _ hk,Is.same sA _ _ hi,z01,hties,by rw [y0x],hsm,htl,fun k s h=>?_,fun e he=>?_,?_⟩
 ·rw [y1f] at h
  split at h
  ·cases h
   exact y1u _
  ·cases h
 ·unfold z9y
  rw [y08 (l:=y05 ties.length 0) (by rw [y0x]; exact y0a _),zad]
  have he':e<(gs++ts).length:=by rw [y0f]; exact he
  have:=hnn _ (y02 (z0x he'))
  omega
 ·intro p q' aS n1 n2 sent spare steps H' s2 fr ne h1 h2 h3 h4 h5 Dn hsl _
  exact q p q' aS n1 n2 sent spare steps H' (sA.trans s2) ⟨sA.free fr.1,sA.free fr.2.1,sA.free fr.2.2.1,sA.free fr.2.2.2.1,sA.free fr.2.2.2.2⟩ ne h1 h2 h3 h4 h5 Dn hsl trivial
abbrev z3w:Stmt:=top 12
theorem sc_ties_in:FnScope ["doers","crowd","place_of","ties","give","chore"] ["doers","crowd"] (z05 z3w):=⟨rfl,rfl,rfl,by decide +kernel,rfl,by decide +kernel,by decide +kernel⟩
theorem zdo (T:Top K mg "ties_in" z3w ["doers","crowd"])(B:Blt mg) :Def P w K mg base "ties_in" 1 ["doers","crowd"] (z5q K):=by
 refine z1x (k:=0) T sc_ties_in (fun vs H Q E h=>?_) (fun f cdv A outer s H vs Q E hr h=>?_)
 ·obtain⟨ad,vc,drs,hands,chores,rfl,_⟩:=h
  rfl
 obtain⟨ad,vc,drs,hands,chores,rfl,hd,hcr,hnd,hhl,hcl,hrl,hin,q⟩:=h
 obtain⟨ac,ah,ax,rfl,h1,h2,h3⟩:=is_crowd.mp hcr
 obtain⟨_,rs,e1,hda,hal⟩:=is_list.mp hd
 cases e1
 have hrsl:rs.length=drs.length:=by simpa using z0i hal
 refine⟨_,(z02 (z0c 2 sc_ties_in.nd (zly zkd B.dict zki (z00 (z3m (N:=["place","hand"]) (fr:=[]) 2 (z84 B.enumerate (z0m z0l (cv 1) z07 (fun _ _=>rfl))) (fun C hN=>by exact pgC ((z6u (z0b 0 hN) (z0b 1 hN))) (by walk_at "c")) (fun C hN=>by exact peC ((z4g (z00 (cv 1) (z00 (cv 0) z04)))) (by walk_at "c"))) z04)))
   (z02 (z0c 3 sc_ties_in.nd (z19 z04))
   (z02 (z1w (z84 B.enumerate (z0m z0l (cv 1) z07 (fun _ _=>rfl))) (z6u (z0b 4 sc_ties_in.nd) (z0b 5 sc_ties_in.nd))
   (z08 (z20 (zag (cv 3) (z00 (z5n (N:=["hand","give","place_of"]) (fr:=[4,2]) 1 (z1o (z0m z0l (cv 0) (cv 5) (fun _ _=>rfl))) (fun C hN=>by exact pgC ((z0b 0 hN)) (by walk_at "c")) (fun C hN=>by exact ptC ((z0y (zmn hr) (cv 0) (cv 2) (by with_unfolding_all rfl))) (by walk_at "c")) (fun C hN=>by exact peC ((z4g (z00 (cv 1) (z00 (zlh hr (cv 2) (cv 0) (fun _ _=>rfl)) z04)))) (by walk_at "c"))) z04)))))
   (z08 (z0s (cv 3)))))),?_⟩
 refine rd (σ':=[some (.ref ad),some (.ref ac),none,none,none,none]) rfl ?_
 walk_at "run"
 refine⟨_,_,.inr (SqT.of h1),rfl,?_⟩
 walk_at "run"
 refine⟨⟨_,SqL.of h2⟩,?_⟩
 refine zap (xs:=z0a hands) (fun i ys H2=>Same H H2∧∃tas:List Addr,ys=tas.map V.ref∧tas.length=i∧∀(j:Nat) t,tas[j]?=some t→H2 t=some (.tup [.int ((hands.getD j 0:Nat):Int),.int (j:Int)])) ⟨Same.refl _,[],rfl,rfl,fun j t h=>by simp at h⟩ (z0h (by rw [z0g]; omega)) ?_ ?_ ?_
 ·rintro i ys H2 _ ⟨e2,tas,rfl,hl,_⟩
  exact⟨SqL.of (e2 _ _ h2),by rw [y04]; omega⟩
 ·rintro i x ys H2 Tp hx ⟨e2,tas,rfl,hl,ht⟩ hT
  have hil:=(y00.mp hx).1
  obtain⟨hh,hhh,rfl⟩:=z31 hx
  have sT:=z03 hT (.tup [.int (i:Int),.int (hh:Int)])
  walk_at "run"
  refine⟨_,_,SqT.of z01,?_⟩
  walk_at "run"
  refine z86 ⟨sz (by show 2≤1000; decide),fun t htt=>?_⟩
  have sU:=z03 htt (.tup [.int (hh:Int),.int (i:Int)])
  refine CNx.mk ⟨e2.trans (sT.trans sU),tas ++ [t],by rw [y0g]; rfl,by rw [y0f]; simp; omega,fun j t' hj=>?_⟩ hil
  by_cases c:j<tas.length
  ·rw [y0q c] at hj
   exact(sT.trans sU) _ _ (ht j t' hj)
  ·rw [y0w (by omega)] at hj
   have e:j=tas.length:=by
    have:=(y00.mp hj).1
    simp at this
    omega
   subst e
   simp at hj
   subst hj
   rw [z01,hl,PM.getD_of hhh]
 rintro ys H2 ⟨e2,tas,rfl,hl,ht⟩ lp hlp
 rw [z0g] at hl
 have sL:=z03 hlp (.lst (tas.map V.ref))
 walk_at "run"
 refine⟨tas,z27 hands,z01,by unfold z27; simp; exact hl,fun j t p hj hp=>?_,fun dp hdp=>?_⟩
 ·have hjl:=(y00.mp hj).1
  unfold z27 at hp
  rw [y06,y1q (by omega)] at hp
  cases hp
  exact sL _ _ (ht j t hj)
 rw [zdr hnd]
 have sD:=z03 hdp (.dK (z27 hands))
 have e3:=e2.trans (sL.trans sD)
 have hdk:=z01 (H:=upd H2 lp (.lst (tas.map V.ref))) (a:=dp) (o:=.dK (z27 hands))
 generalize upd (upd H2 lp (.lst (tas.map V.ref))) dp (.dK (z27 hands))=H3 at e3 hdk ⊢
 clear sL sD hlp hdp ht hl e2
 refine⟨sz (by show 0≤1000; decide),fun l hl=>?_⟩
 have nl:dp≠l:=z06 hdk hl
 refine⟨_,_,.inr (SqT.of ((e3.trans (z03 hl _)) _ _ h1)),rfl,?_⟩
 walk_at "run"
 refine⟨⟨_,SqL.of ((e3.trans (z03 hl _)) _ _ h3)⟩,?_⟩
 refine zcb (xs:=z0a chores) (fun i σ' H'=>∃t4 t5 tvs,σ' = [some (.ref ad),some (.ref ac),some (.ref dp),some (.ref l),t4,t5]∧Grow K H3 H' l tvs ((z3u drs hands chores i).map pr)∧tvs.length≤i*20) ⟨_,_,[],rfl,Grow.start hl,y0a _⟩ ?_ ?_ ?_
 ·rintro i σ' H' _ ⟨_,_,_,_,gr,_⟩
  exact SqL.of (gr.same _ _ (e3 _ _ h3))
 ·rintro i x σ' H' Tp hx ⟨t4,t5,tvs,rfl,gr,tvl⟩ hT
  have hil:=(y00.mp hx).1
  rw [z0g] at hil
  obtain⟨c,hc,rfl⟩:=z31 hx
  have gr2:=gr.more (z03 hT (.tup [.int (i:Int),.int (c:Int)]))
  have hcd:=hin c (y02 hc)
  have hrow:drs[c]?=some drs[c]:=y01 hcd
  have hgetD:drs.getD (chores.getD i 0) []=drs[c]:=by
   rw [PM.getD_of hc]
   simp [y1k,hrow]
  generalize drs[c]=row at hrow hgetD
  have hrowl:=hrl row (y02 hrow)
  obtain⟨ra,hra1,hra2⟩:=z46 hal hrow
  walk_at "run"
  refine⟨_,_,SqT.of z01,?_⟩
  walk_at "run"
  generalize upd H' Tp (.tup [.int (i:Int),.int (c:Int)])=H4 at gr2 ⊢
  clear gr hT
  have e4:=e3.trans gr2.same
  refine⟨⟨_,gr2.here⟩,_,_,.inl (SqL.of (e4 _ _ hda)),z28 hra1,?_⟩
  walk_at "run"
  refine .inl ⟨⟨_,SqL.of (e4 _ _ hra2)⟩,?_⟩
  refine cgo (σ':=[none,some (.int (i:Int)),some (.ref dp)]) rfl ?_
  refine z1j (xs:=z0a row) (fun j ys H5=>Same H4 H5∧ys.length≤j∧IsAll K (del H5 l) ys ((z32 hands i (row.take j)).map pr)) ⟨Same.refl _,y0a _,z0q⟩ (z0h (by rw [z0g]; omega)) ?_ ?_ ?_
  ·rintro j ys H5 _ ⟨e5,yl,_⟩
   exact⟨SqL.of ((e4.trans e5) _ _ hra2),yl⟩
  ·rintro j x ys H5 hx2 ⟨e5,yl,al⟩
   have hjl:=(y00.mp hx2).1
   obtain⟨hh,hhh,rfl⟩:=z31 hx2
   have hdk5:=e5 _ _ (gr2.same _ _ hdk)
   rw [show ∀(m:Nat),CNx (fun j ys H5=>Same H4 H5∧ys.length≤j∧IsAll K (del H5 l) ys ((z32 hands i (row.take j)).map pr)) m=CNx (fun j ys H5=>Same H4 H5∧ys.length≤j∧IsAll K (del H5 l) ys ((z32 hands i (row.take j)).map pr)) m from fun _=>rfl]
   walk_at "run"
   refine⟨_,hdk5,?_⟩
   rw [z7m hnd]
   walk_at "run"
   cases hpl:z2o hands hh with
   | none =>
    refine zan (CNx.mk ⟨e5,by omega,?_⟩ hjl)
    rw [z0d hhh,z6l,hpl]
    simpa using al
   | some p =>
    refine z86 ⟨_,_,hdk5,by rw [z7m hnd,hpl]; rfl,?_⟩
    walk_at "run"
    refine⟨sz (by show 2≤1000; decide),fun t htt=>?_⟩
    have sT:=z03 htt (.tup [.int (i:Int),.int (p:Int)])
    refine CNx.mk ⟨e5.trans sT,by rw [y0f]; simp; omega,?_⟩ hjl
    rw [z0d hhh,z6l,hpl,y0g]
    refine z26 (IsAll.same (z4t sT) _ _ al) (zhh (zo4 (p:=(i,p)) (K:=K) z01) (xs:=tvs) ((e5.trans sT) _ _ gr2.here))
  ·rintro ys H5 ⟨e5,yl,al⟩ le hle
   rw [z0g] at yl
   rw [z0g,y08 (y0a _)] at al
   have sE:=z03 hle (.lst ys)
   have gr3:=gr2.more (e5.trans sE)
   have nle:le≠l:=fun z=>by
    subst z
    rw [e5 _ _ gr2.here] at hle
    cases hle
   walk_at "run"
   have hti:i<20:=by omega
   refine⟨_,_,gr3.here,z01,sz (by omega),?_⟩
   refine⟨_,_,tvs++ys,rfl,⟨?_,z01,?_⟩,by rw [y0f]; omega⟩
   ·rw [z49]
    exact gr3.old
   ·rw [z49,z3u,hgetD,y0g]
    exact z7v gr3.all (IsAll.same (z4t sE) _ _ al)
 ·rintro σ' H' ⟨t4,t5,tvs,rfl,gr,tvl⟩
  rw [z0g] at gr
  walk_at "run"
  exact q _ _ (e3.trans gr.same) gr.is ⟨_,rfl,z2z e3 hl⟩
abbrev z41:Stmt:=top 13
theorem ze5:FnScope ["works","crowd"] ["works","crowd"] (z05 z41):=⟨rfl,rfl,rfl,by decide +kernel,rfl,by decide +kernel,by decide +kernel⟩
theorem zdh (T:Top K mg "work_in" z41 ["works","crowd"])(B:Blt mg) :Def P w K mg base "work_in" 1 ["works","crowd"] (z71 K):=by
 refine z1x (k:=0) T ze5 (fun vs H Q E h=>?_) (fun f cdv A outer s H vs Q E hr h=>?_)
 ·obtain⟨aw,vc,ws,hands,chores,rfl,_⟩:=h
  rfl
 obtain⟨aw,vc,ws,hands,chores,rfl,hw,hcr,hcl,hin,q⟩:=h
 obtain⟨ac,ah,ax,rfl,h1,h2,h3⟩:=is_crowd.mp hcr
 refine⟨_,(z08 (z0s (z47 zjj B.sum zj6 (z00 (z3m (N:=["chore","works"]) (fr:=[0]) 1 (z1o (z0m z0l (cv 1) z07 (fun _ _=>rfl))) (fun C hN=>by exact pgC ((z0b 0 hN)) (by walk_at "c")) (fun C hN=>by exact peC ((z0m z0l (cv 1) (cv 0) (fun _ _=>rfl))) (by walk_at "c"))) z04)))),?_⟩
 refine rd (σ':=[some (.ref aw),some (.ref ac)]) rfl ?_
 walk_at "run"
 refine⟨_,_,.inr (SqT.of h1),rfl,?_⟩
 walk_at "run"
 refine .inl ⟨⟨_,SqL.of h3⟩,?_⟩
 refine cgo (σ':=[none,some (.ref aw)]) rfl ?_
 refine z1j (xs:=z0a chores) (fun i ys H2=>H2=H∧ys=((chores.take i).map fun c=>ws.getD c 0).map V.int) ⟨rfl,rfl⟩ (z0h (by rw [z0g]; omega)) ?_ ?_ ?_
 ·rintro i ys H2 hi ⟨rfl,rfl⟩
  exact⟨SqL.of h3,by simp; omega⟩
 ·rintro i x ys H2 hx ⟨rfl,rfl⟩
  have hil:=(y00.mp hx).1
  obtain⟨c,hc,rfl⟩:=z31 hx
  walk_at "run"
  refine z86 ⟨_,_,.inl (SqL.of hw),zhk (hin c (y02 hc)),CNx.mk ⟨rfl,?_⟩ hil⟩
  rw [z0d hc,y0g,y0g]
  rfl
 ·rintro ys H2 ⟨rfl,rfl⟩ l hl
  rw [z0g,y08 (y0a _)]
  walk_at "run"
  exact⟨_,SqL.of z01,q _ (z03 hl _)⟩
abbrev z3s:Stmt:=top 14
theorem sc_pour_in:FnScope ["works","doers","crowd","many","gives"] ["works","doers","crowd"] (z05 z3s):=⟨rfl,rfl,rfl,by decide +kernel,rfl,by decide +kernel,by decide +kernel⟩
theorem zdu (T:Top K mg "pour_in" z3s ["works","doers","crowd"])(B:Blt mg)(D_pour_all:Def P w K mg base "pour_all" 8 ["gives","takes","ties"] (zkx K))(D_ties_in:Def P w K mg base "ties_in" 1 ["doers","crowd"] (z5q K))(D_work_in:Def P w K mg base "work_in" 1 ["works","crowd"] (z71 K)):Def P w K mg base "pour_in" 9 ["works","doers","crowd"] (zct K):=by
 refine z1x (k:=8) T sc_pour_in (fun vs H Q E h=>?_) (fun f cdv A outer s H vs Q E hr h=>?_)
 ·obtain⟨aw,ad,vc,ws,drs,hands,chores,rfl,_⟩:=h
  rfl
 obtain⟨aw,ad,vc,ws,drs,hands,chores,rfl,ac',hcr,ok,q⟩:=h
 obtain⟨ac,ah,ax,rfl,h1,h2,h3⟩:=is_crowd.mp hcr
 have hl:=ok.hl
 have cl:=ok.cl
 refine⟨_,(z02 (z0c 3 sc_pour_in.nd (z47 z1z B.len y18 (z00 (z0m z0l (cv 2) z07 (fun _ _=>rfl)) z04)))
   (z02 (z7w (N:=["chore","many","works"]) (fr:=[3,0]) 4 1 sc_pour_in.nd (z1o (z0m z0l (cv 2) z07 (fun _ _=>rfl))) (fun C hN=>by exact pgC ((z0b 0 hN)) (by walk_at "c")) (fun C hN=>by exact peC ((z0o z35 (z0m z0l (cv 2) (cv 0) (fun _ _=>rfl)) (cv 1))) (by walk_at "c")))
   (z08 (z0s (z0k D_pour_all (hr.mono (by decide)) (z00 (cv 4) (z00 (z0o z35 (z19 (z00 (z0k D_work_in (hr.mono (by decide)) (z00 (cv 0) (z00 (cv 2) z04))) z04)) (cv 3)) (z00 (z0k D_ties_in (hr.mono (by decide)) (z00 (cv 1) (z00 (cv 2) z04))) z04)))))))),?_⟩
 refine rd (σ':=[some (.ref aw),some (.ref ad),some (.ref ac),none,none]) rfl ?_
 walk_at "run"
 refine⟨_,_,.inr (SqT.of h1),rfl,_,.inl (SqL.of h2),?_⟩
 walk_at "run"
 rw [z0g]
 refine⟨_,_,.inr (SqT.of h1),rfl,?_⟩
 walk_at "run"
 refine .inl ⟨⟨_,SqL.of h3⟩,?_⟩
 refine cgo (σ':=[none,some (.int (hands.length:Int)),some (.ref aw)]) rfl ?_
 refine z1j (xs:=z0a chores) (fun i ys H2=>H2=H∧ys=((chores.take i).map fun c=>ws.getD c 0*(hands.length:Int)).map V.int) ⟨rfl,rfl⟩ (z0h (by rw [z0g]; omega)) ?_ ?_ ?_
 ·rintro i ys H2 hi ⟨rfl,rfl⟩
  exact⟨SqL.of h3,by simp; omega⟩
 ·rintro i x ys H2 hx ⟨rfl,rfl⟩
  have hil:=(y00.mp hx).1
  obtain⟨c,hc,rfl⟩:=z31 hx
  have hcw:=ok.ci c (y02 hc)
  walk_at "run"
  refine z86 ⟨_,_,.inl (SqL.of ac'.w),zhk hcw,zbv (m:=300) (n:=60) (ac'.bd _ (y02 (z0x hcw))) (by show _<_; omega) (by decide),CNx.mk ⟨rfl,?_⟩ hil⟩
  rw [z0d hc,y0g,y0g]
  rfl
 rintro ys H2 ⟨rfl,rfl⟩ lg hlg
 rw [z0g,y08 (y0a _)]
 have s1:=z03 hlg (.lst ((chores.map fun c=>ws.getD c 0*(hands.length:Int)).map V.int))
 have hg:=z01 (H:=H2) (a:=lg) (o:=.lst ((chores.map fun c=>ws.getD c 0*(hands.length:Int)).map V.int))
 generalize upd H2 lg (.lst ((chores.map fun c=>ws.getD c 0*(hands.length:Int)).map V.int))=H3 at s1 hg ⊢
 walk_at "run"
 refine⟨aw,.ref ac,ws,hands,chores,rfl,s1 _ _ ac'.w,Is.same s1 _ _ hcr,cl,ok.ci,fun H4 s4=>?_⟩
 walk_at "run"
 refine⟨sz (by show 1≤1000; decide),fun l1 hl1=>?_⟩
 have s5:=z03 hl1 (.lst [.int (z2i ws chores)])
 refine⟨_,z01,by omega,by omega,sz (by show 1*_≤1000; omega),fun lt hlt=>?_⟩
 have er:y05 ((hands.length:Int)).toNat (V.int (z2i ws chores))=(takesIn ws hands chores).map V.int:=by unfold takesIn; rw [y2o]; rfl
 rw [z2x,er]
 have s6:=z03 hlt (.lst ((takesIn ws hands chores).map V.int))
 have ht:=z01 (H:=upd H4 l1 (.lst [.int (z2i ws chores)])) (a:=lt) (o:=.lst ((takesIn ws hands chores).map V.int))
 have sA:=s1.trans (s4.trans (s5.trans s6))
 have hg2:=(s4.trans (s5.trans s6)) _ _ hg
 generalize upd (upd H4 l1 (.lst [.int (z2i ws chores)])) lt (.lst ((takesIn ws hands chores).map V.int))=H5 at sA hg2 ht ⊢
 clear s1 s4 s5 s6 hg hl1 hlt er
 refine⟨ad,.ref ac,drs,hands,chores,rfl,Is.same sA _ _ ac'.d,Is.same sA _ _ hcr,ok.nd,hl,cl,ac'.row,fun c hc=>by rw [ac'.len]; exact ok.ci c hc,fun vt H6 s6 it _=>?_⟩
 obtain⟨ai,tv,e1,hai,hal⟩:=is_list.mp it
 subst e1
 walk_at "run"
 have glen:(z1t ws hands chores).length=chores.length:=by unfold z1t; simp
 have tlen:(takesIn ws hands chores).length=hands.length:=by unfold takesIn; simp
 have tl:=z6i (hands:=hands) (chores:=chores) ac'.row chores.length
 have wp:∀c∈chores,1≤ws.getD c 0:=fun c hc=>ac'.pos _ (y02 (z0x (ok.ci c hc)))
 refine⟨lg,lt,ai,z1t ws hands chores,takesIn ws hands chores,z0j drs hands chores,rfl,s6 _ _ hg2,s6 _ _ ht,it,fun p hp=>?_,by omega,by unfold z0j; omega,fun g hg=>?_,?_⟩
 ·obtain⟨g,t⟩:=p
  obtain⟨c,hd,g1,g2,_⟩:=(z1u ok.nd g t).mp hp
  rw [glen,tlen]
  exact⟨(y00.mp g1).1,(y00.mp g2).1⟩
 ·rcases y13.mp hg with hg | hg
  ·unfold z1t at hg
   obtain⟨c,hc,rfl⟩:=y1h.mp hg
   have:=wp c hc
   exact y2j (by omega) (by omega)
  ·unfold takesIn at hg
   rw [y32 hg]
   unfold z2i
   exact PM.sum_nn fun i x hx=>by
    obtain⟨c,hc,rfl⟩:=y1h.mp (y02 hx)
    have:=wp c hc
    omega
 ·intro p q' aS n1 n2 sent spare steps H' s2 fr ne k1 k2 k3 k4 k5 Dn hsl _
  have sB:=sA.trans s6
  exact q p q' aS n1 n2 sent spare steps H' (sB.trans s2) ⟨sB.free fr.1,sB.free fr.2.1,sB.free fr.2.2.1,sB.free fr.2.2.2.1,sB.free fr.2.2.2.2⟩ ne k1 k2 k3 k4 k5 Dn hsl trivial
abbrev z4x:Stmt:=top 15
theorem zh7:FnScope ["things","marks","wanted"] ["things","marks","wanted"] (z05 z4x):=⟨rfl,rfl,rfl,by decide +kernel,rfl,by decide +kernel,by decide +kernel⟩
theorem zgq (T:Top K mg "chosen" z4x ["things","marks","wanted"])(B:Blt mg) :Def P w K mg base "chosen" 1 ["things","marks","wanted"] (zcr K):=by
 refine z1x (k:=0) T zh7 (fun vs H Q E h=>?_) (fun f cdv A outer s H vs Q E hr h=>?_)
 ·obtain⟨ax,ab,xs,bs,w,rfl,_⟩:=h
  rfl
 obtain⟨ax,ab,xs,bs,w,rfl,h1,h2,hl,hxl,q⟩:=h
 refine⟨_,(z08 (z0s (z5n (N:=["thing","mark","wanted"]) (fr:=[2]) 2 (z6c B.zip (cv 0) (cv 1)) (fun C hN=>by exact pgC ((z6u (z0b 0 hN) (z0b 1 hN))) (by walk_at "c")) (fun C hN=>by exact ptC ((z0y z6a (cv 1) (cv 2) (z0r _))) (by walk_at "c")) (fun C hN=>by exact peC ((cv 0)) (by walk_at "c"))))),?_⟩
 refine rd (σ':=[some (.ref ax),some (.ref ab),some (.bl w)]) rfl ?_
 walk_at "run"
 refine⟨false,false,⟨_,SqL.of h1⟩,⟨_,SqL.of h2⟩,?_⟩
 refine cgo (σ':=[none,none,some (.bl w)]) rfl ?_
 refine zhl (xs:=z0a xs) (zs:=bs.map V.bl) xs.length (by rw [z0g,y04]; omega) (fun i ys H2=>Same H H2∧ys.length≤i∧ys=z0a (pick (xs.take i) (bs.take i) w)) ⟨Same.refl _,y0a _,rfl⟩ (z0h (by omega)) ?_ ?_ ?_
 ·rintro i ys H2 _ ⟨e2,yl,_⟩
  exact⟨zp8 (SqL.of (e2 _ _ h1)),zp8 (SqL.of (e2 _ _ h2)),yl⟩
 ·rintro i x z ys H2 Tp hx hz ⟨e2,yl,rfl⟩ hT
  have hil:=(y00.mp hx).1
  rw [z0g] at hil
  obtain⟨n,hn,rfl⟩:=z31 hx
  obtain⟨b,hb,rfl⟩:=zmy hz
  have e3:=e2.trans (z03 hT (.tup [.int (n:Int),.bl b]))
  walk_at "run"
  refine⟨_,_,SqT.of z01,?_⟩
  walk_at "run"
  refine z4i (fun c=>?_) (fun c=>?_)
  ·refine CNx.mk ⟨e3,by rw [y0f]; simp; omega,?_⟩ hil
   rw [z7t hn hb,if_pos (of_decide_eq_true c)]
   unfold z0a
   rw [y0g]
   rfl
  ·refine CNx.mk ⟨e3,by omega,?_⟩ hil
   rw [z7t hn hb,if_neg (fun z=>c (decide_eq_true z)),y2u]
 ·rintro ys H2 ⟨e2,_,rfl⟩ l hl2
  rw [y08 (y0a _),y08 (by omega)]
  exact q l _ (e2.free hl2) (e2.trans (z03 hl2 _)) z01
abbrev z2w:Stmt:=top 16
theorem sc_crowds_by:FnScope ["works","doers","many","crowds","uncut","crowd","near","wanted"] ["works","doers","many"] (z05 z2w):=⟨rfl,rfl,rfl,by decide +kernel,rfl,by decide +kernel,by decide +kernel⟩
theorem zaa (T:Top K mg "crowds_by" z2w ["works","doers","many"])(B:Blt mg)(D_pour_in:Def P w K mg base "pour_in" 9 ["works","doers","crowd"] (zct K))(D_chosen:Def P w K mg base "chosen" 1 ["things","marks","wanted"] (zcr K)):Def P w K mg base "crowds_by" 10 ["works","doers","many"] (z9i K):=by
 refine z1x (k:=9) T sc_crowds_by (fun vs H Q E h=>?_) (fun f cdv A outer s H vs Q E hr h=>?_)
 ·obtain⟨aw,ad,many,ws,drs,rfl,_⟩:=h
  rfl
 obtain⟨aw,ad,many,ws,drs,rfl,ac,dk,q⟩:=h
 have few:=ac.few
 have mfew:=dk.few
 have hw:=z81 ac.pos
 refine⟨_,(z02 (z0c 3 sc_crowds_by.nd (z19 z04))
   (z02 (z0c 4 sc_crowds_by.nd (z94 (z0y z7d (cv 2) z07 (z0r _)) (z19 (z00 (z4g (z00 (za3 B.list B.range (cv 2)) (z00 (za3 B.list B.range (z47 z1z B.len y18 (z00 (cv 0) z04))) z04))) z04)) (z19 z04)))
   (z02 (z3y (z0y z7d (z47 z1z B.len y18 (z00 (cv 4) z04)) z07 (z0r _))
   (z02 (z0c 5 sc_crowds_by.nd (z7n (cv 4)))
    (z02 (z0c 6 sc_crowds_by.nd (z0m z0l (z0k D_pour_in (hr.mono (by decide)) (z00 (cv 0) (z00 (cv 1) (z00 (cv 5) z04)))) z07 (fun _ _=>rfl)))
    (z08 (z3k (z3r (z47 zjg B.any zji (z00 (z0m z0l (cv 6) z07 (fun _ _=>rfl)) z04)))
    (z08 (z1w (z1o (z4g (z00 z9m (z00 z9m z04)))) (z0b 7 sc_crowds_by.nd)
     (z08 (z20 (z0z (cv 4) (z00 (z4g (z00 (z0k D_chosen (hr.mono (by decide)) (z00 (z0m z0l (cv 5) z07 (fun _ _=>rfl)) (z00 (z0m z0l (cv 6) z07 (fun _ _=>rfl)) (z00 (cv 7) z04)))) (z00 (z0k D_chosen (hr.mono (by decide)) (z00 (z0m z0l (cv 5) z07 (fun _ _=>rfl)) (z00 (z0m z0l (cv 6) z07 (fun _ _=>rfl)) (z00 (cv 7) z04)))) z04))) z04))))))
    (z08 (z20 (z0z (cv 3) (z00 (cv 5) z04)))))))))
   (z08 (z0s (cv 3)))))),?_⟩
 refine rd (σ':=[some (.ref aw),some (.ref ad),some (.int (many:Int)),none,none,none,none,none]) rfl ?_
 walk_at "run"
 refine⟨sz (by show 0≤1000; decide),fun lc hlc=>?_⟩
 have s0:=z03 hlc (.lst [])
 have hlce:=z01 (H:=H) (a:=lc) (o:=.lst [])
 generalize upd H lc (.lst [])=H0 at s0 hlce ⊢
 refine z4i (fun hm=>?_) (fun hm=>?_)
 ·have hm0:0<many:=by
   have:=of_decide_eq_true hm
   omega
  refine⟨⟨by omega,by omega⟩,fun l1 hl1=>?_⟩
  rw [show((many:Int)).toNat=many by omega]
  have w1:=z03 hl1 (.lst ((y0b many).map fun (i:Nat)=>V.int (i:Int)))
  refine⟨_,.inl (SqL.of (w1 _ _ (s0 _ _ ac.w))),?_⟩
  walk_at "run"
  rw [y04]
  refine⟨⟨by omega,by omega⟩,fun l2 hl2=>?_⟩
  rw [show((ws.length:Int)).toNat=ws.length by omega]
  have w2:=z03 hl2 (.lst ((y0b ws.length).map fun (i:Nat)=>V.int (i:Int)))
  refine⟨sz (by show 2≤1000; decide),fun t ht=>⟨sz (by show 1≤1000; decide),fun lu hlu=>?_⟩⟩
  have w3:=z03 ht (.tup [.ref l1,.ref l2])
  have w4:=z03 hlu (.lst [.ref t])
  have f1:=(w2.trans (w3.trans w4)) _ _ (z01 (H:=H0) (a:=l1) (o:=.lst ((y0b many).map fun (i:Nat)=>V.int (i:Int))))
  have f2:=(w3.trans w4) _ _ (z01 (a:=l2) (o:=.lst ((y0b ws.length).map fun (i:Nat)=>V.int (i:Int))))
  have f3:=w4 _ _ (z01 (a:=t) (o:=.tup [.ref l1,.ref l2]))
  have f4:=z01 (H:=upd (upd (upd H0 l1 (.lst ((y0b many).map fun (i:Nat)=>V.int (i:Int)))) l2 (.lst ((y0b ws.length).map fun (i:Nat)=>V.int (i:Int)))) t (.tup [.ref l1,.ref l2])) (a:=lu) (o:=.lst [.ref t])
  have sW:=w1.trans (w2.trans (w3.trans w4))
  have n1:l1≠lc∧l1≠lu:=by
   refine⟨fun z=>?_,fun z=>?_⟩
   ·rw [z,hlce] at hl1
    cases hl1
   ·have:=(w2.trans w3) _ _ (z01 (H:=H0) (a:=l1) (o:=.lst ((y0b many).map fun (i:Nat)=>V.int (i:Int))))
    rw [z] at this
    rw [z] at hlu
    rw [this] at hlu
    cases hlu
  have n2:l2≠lc∧l2≠lu:=by
   refine⟨fun z=>?_,fun z=>?_⟩
   ·rw [z,w1 _ _ hlce] at hl2
    cases hl2
   ·have:=w3 _ _ (z01 (H:=upd H0 l1 (.lst ((y0b many).map fun (i:Nat)=>V.int (i:Int)))) (a:=l2) (o:=.lst ((y0b ws.length).map fun (i:Nat)=>V.int (i:Int))))
    rw [z] at this
    rw [z] at hlu
    rw [this] at hlu
    cases hlu
  have nlu:lc≠lu:=z06 ((w1.trans (w2.trans w3)) _ _ hlce) hlu
  have hluH:H lu=none:=s0.free ((w1.trans (w2.trans w3)).free hlu)
  have hlce2:=sW _ _ hlce
  have sA:=s0.trans sW
  generalize upd (upd (upd (upd H0 l1 (.lst ((y0b many).map fun (i:Nat)=>V.int (i:Int)))) l2 (.lst ((y0b ws.length).map fun (i:Nat)=>V.int (i:Int)))) t (.tup [.ref l1,.ref l2])) lu (.lst [.ref t])=H1 at f1 f2 f3 f4 hlce2 sA ⊢
  clear w1 w2 w3 w4 hl1 hl2 ht hlu sW hlce
  have two0:Two K H H1 lc lu [] [.ref t] [] ([((y0b many,y0b ws.length):PM.Cr)].map z2h):=by
   have base:Two K H H1 lc lu [] [.ref t] [] [z5l (y0b many) (y0b ws.length)]:=by
    have old:Same H (z6x H1 lc lu):=fun b o hb=>by
     rw [z3n (z06 hb hlc) (z06 hb hluH)]
     exact sA _ _ hb
    have nt1:t≠lc:=fun z=>by rw [z,hlce2] at f3; cases f3
    have nt2:t≠lu:=fun z=>by rw [z,f4] at f3; cases f3
    refine⟨nlu,old,hlce2,f4,z0q,z4k (is_crowd.mpr ⟨t,l1,l2,rfl,?_,?_,?_⟩)⟩
    ·rw [z3n nt1 nt2]; exact f3
    ·rw [z3n n1.1 n1.2]; exact f1
    ·rw [z3n n2.1 n2.2]; exact f2
   exact base
  walk_at "run"
  refine⟨fun m σ' H'=>∃t5 t6 t7 vc vu Lc U,σ' = [some (.ref aw),some (.ref ad),some (.int (many:Int)),some (.ref lc),some (.ref lu),t5,t6,t7]∧Two K H H' lc lu vc vu (Lc.map z2h) (U.map z2h)∧PM.Crowds (z1n ws) (z2k drs) many ws.length (Lc++U.reverse)∧(∀c∈Lc,zl1 ws drs c)∧m=z9x U,⟨_,_,_,_,[],[.ref t],[],[(y0b many,y0b ws.length)],rfl,two0,zai dk hm0,fun c hc=>(by cases hc),rfl⟩,?_⟩
  rintro m σ' H' ⟨t5,t6,t7,vc,vu,Lc,U,rfl,tw,cr,rst,rfl⟩
  have vul:vu.length=U.length:=by simpa using z0i tw.a2
  walk_at "run"
  refine⟨_,.inl (SqL.of tw.h2),?_⟩
  walk_at "run"
  refine z4i (fun hc=>?_) (fun hc=>?_)
  ·have hne:U ≠ []:=fun z=>by
    have:(0:Int)<(vu.length:Int):=of_decide_eq_true hc
    rw [vul,z] at this
    exact absurd this (by decide)
   obtain⟨c,hcl⟩:∃c,U.getLast?=some c:=⟨_,y1w hne⟩
   have eU:U=U.dropLast ++ [c]:=by
    have:=List.dropLast_concat_getLast hne
    rw [y1w hne] at hcl
    cases hcl
    exact this.symm
   have al2:=tw.a2
   have hlast:(U.map z2h)[vu.length - 1]?=some (z2h c):=by
    rw [y06,vul,←y19,hcl]
    rfl
   obtain⟨v,hv,isv⟩:=z21 al2 hlast
   obtain⟨tc,ch,cc,rfl,k1,k2,k3⟩:=is_crowd.mp isv
   generalize U.dropLast=U' at eU
   subst eU
   rw [y61,List.reverse_singleton,List.singleton_append] at cr
   have hcin:c∈Lc++c::U'.reverse:=by simp
   have hcr:=cr.hr c hcin
   have hcc:=cr.cr c hcin
   have hne1:=cr.ne c hcin
   have hlt:∀x∈c.2,x<ws.length:=fun x hx=>by
    have e:=cr.cs x
    by_cases z:x<ws.length
    ·exact z
    ·rw [if_neg z,y0g,y20,y0h,y0n] at e
     have:=y2n.mpr hx
     omega
   have hhl:c.1.length≤many:=z1e hcr fun h hh=>by
    have e:=cr.hs h
    by_cases z:h<many
    ·exact z
    ·rw [if_neg z,y0g,y20,y0h,y0n] at e
     have:=y2n.mpr hh
     omega
   have hcl2:c.2.length≤ws.length:=z1e hcc hlt
   have tw2:Two K H (upd H' lu (.lst vu.dropLast)) lc lu vc vu.dropLast (Lc.map z2h) (U'.map z2h):=tw.set2 (by
    have:=z8t (vu.length - 1) al2
    rw [←List.dropLast_eq_take] at this
    have e2:((U' ++ [c]).map z2h).take (vu.length - 1)=U'.map z2h:=by
     rw [y0g,List.take_append_of_le_length (by rw [y04,vul]; simp),y08 (by rw [y04,vul]; simp)]
    rw [e2] at this
    exact this)
   walk_at "run"
   refine⟨_,_,tw.h2,hv,?_⟩
   walk_at "run"
   have sub2:∀b o,z6x H' lc lu b=some o→upd H' lu (.lst vu.dropLast) b=some o:=fun b o hb=>by
    have:z6x (upd H' lu (.lst vu.dropLast)) lc lu b=some o:=by rw [z4q]; exact hb
    exact z5r _ _ this
   replace k1:=sub2 _ _ k1
   replace k2:=sub2 _ _ k2
   replace k3:=sub2 _ _ k3
   have isv2:Is K (z6x (upd H' lu (.lst vu.dropLast)) lc lu) (.ref tc) (z2h c):=by rw [z4q]; exact isv
   generalize upd H' lu (.lst vu.dropLast)=H2 at tw2 k1 k2 k3 isv2 ⊢
   clear tw al2 hlast isv sub2 hv
   refine⟨aw,ad,.ref tc,ws,drs,c.1,c.2,rfl,ac.same tw2.same,is_crowd.mpr ⟨tc,ch,cc,rfl,k1,k2,k3⟩,⟨z1p hcr,by omega,by omega,hlt⟩,?_⟩
   intro tp tq aS n1' n2' sent spare steps H3 s3 fr _ g1 g2 g3 g4 g5 Dn hsl _
   have hn1u:n1'≠lu:=fun z=>by have:=fr.2.2.2.1; rw [z,tw2.h2] at this; cases this
   have hn2u:n2'≠lu:=fun z=>by have:=fr.2.2.2.2; rw [z,tw2.h2] at this; cases this
   obtain⟨nc,nh,C,mc,mh⟩:=zgn hcr hcc hlt Dn
   have gl:(z1t ws c.1 c.2).length=c.2.length:=by unfold z1t; simp
   have tl:(takesIn ws c.1 c.2).length=c.1.length:=by unfold takesIn; simp
   have nl:(z3i steps).length=c.2.length+c.1.length:=by unfold z3i; rw [y04,hsl,gl,tl]
   have l1':((z3i steps).take (z1t ws c.1 c.2).length).length=c.2.length:=by rw [y0v,gl]; omega
   have l2':((z3i steps).drop (z1t ws c.1 c.2).length).length=c.1.length:=by rw [y44,gl]; omega
   generalize (z3i steps).take (z1t ws c.1 c.2).length=b1 at mc g4 l1'
   generalize (z3i steps).drop (z1t ws c.1 c.2).length=b2 at mh g5 l2'
   have tw3:=tw2.more s3
   replace k1:=s3 _ _ k1
   replace k2:=s3 _ _ k2
   replace k3:=s3 _ _ k3
   replace isv2:=Is.same (z5w s3) _ _ isv2
   clear tw2 s3 Dn hsl
   walk_at "run"
   refine⟨_,_,.inr (SqT.of g1),rfl,?_⟩
   walk_at "run"
   refine⟨_,_,.inr (SqT.of g2),rfl,?_⟩
   walk_at "run"
   refine⟨b2,SqL.of g5,z4i (fun hany=>?_) (fun hany=>?_)⟩
   ·obtain⟨b,hb1,hb2⟩:=y1r.mp hany
    obtain⟨ib,hib⟩:=y09 hb1
    have hibl:=(y00.mp hib).1
    have hx:c.1[ib]?=some (c.1[ib]'(by omega)):=y01 (by omega)
    have hnear:∃h∈c.1,nh h=true:=by
     refine⟨_,y02 hx,?_⟩
     have e:=mh ib _ hx
     rw [hib] at e
     cases e
     exact hb2
    obtain⟨pt,pf⟩:=z83 (f:=nh) (by omega) mh
    obtain⟨qt,qf⟩:=z83 (f:=nc) (by omega) mc
    have cut:=PM.Crowds.cut hw cr C hnear
    have nlu:∀{x:Addr} {o:HO},H3 x=some o→(∀xs,o ≠ .lst xs)→x≠lu:=fun {x o} h hz z=>by
     rw [z,tw3.h2] at h
     cases h
     exact hz _ rfl
    have old3:∀{x:Addr},(∃o,z6x H3 lc lu x=some o)→x≠lu:=fun {x} ⟨o,h⟩ z=>by
     subst z
     unfold z6x del at h
     rw [if_pos rfl] at h
     cases h
    obtain⟨_,_,_,ez,m1,m2,m3⟩:=is_crowd.mp isv2
    cases ez
    have ech:=z5r _ _ m1
    rw [k1] at ech
    cases ech
    have dch:ch≠lu:=old3 ⟨_,m2⟩
    have dcc:cc≠lu:=old3 ⟨_,m3⟩
    have dn1:n1'≠lu:=hn1u
    have dn2:n2'≠lu:=hn2u
    have dtc:=nlu k1 fun _ z=>by cases z
    have dtq:=nlu g2 fun _ z=>by cases z
    walk_at "run"
    refine⟨sz (by show 2≤1000; decide),fun tb htb=>.inr ⟨⟨_,SqT.of z01⟩,?_⟩⟩
    have sB:=z03 htb (.tup [.bl false,.bl true])
    have htbe:=z01 (H:=H3) (a:=tb) (o:=.tup [.bl false,.bl true])
    have dtb:tb≠lu:=fun z=>by rw [z,tw3.h2] at htb; cases htb
    have tw4:=tw3.more sB
    replace k1:=sB _ _ k1
    replace k2:=sB _ _ k2
    replace k3:=sB _ _ k3
    replace g2:=sB _ _ g2
    replace g4:=sB _ _ g4
    replace g5:=sB _ _ g5
    generalize upd H3 tb (.tup [.bl false,.bl true])=H4 at htbe tw4 k1 k2 k3 g2 g4 g5 ⊢
    clear tw3 sB htb g1 g3 isv2 nlu old3 m1 m2 m3
    refine zj7 (xs:=[.bl false,.bl true]) (fun j σ' H5=>∃t7 vu,σ' = [some (.ref aw),some (.ref ad),some (.int (many:Int)),some (.ref lc),some (.ref lu),some (.ref tc),some (.ref tq),t7]∧Two K H H5 lc lu vc vu (Lc.map z2h) ((U' ++ [PM.restOf c nc nh,PM.nearOf c nc nh].take j).map z2h)∧Frz [lu] H4 H5) ⟨_,_,rfl,by simpa using tw4,Frz.of (Same.refl _)⟩ ?_ ?_ ?_
    ·rintro j σ' H5 _ ⟨_,_,_,_,fz⟩
     exact SqT.of (fz _ _ (by simpa using dtb) htbe)
    ·rintro j x σ' H5 hx ⟨t7,vu5,rfl,tw5,fz⟩
     have fzz:∀{b:Addr} {o:HO},b≠lu→H4 b=some o→H5 b=some o:=fun {b o} hb h=>fz b o (by simpa using hb) h
     have hj:j<2:=(y00.mp hx).1
     have ulen:vu5.length≤U'.length+2:=by
      have e:=z0i tw5.a2
      rw [y04,y0f,y0v] at e
      simp at e
      omega
     have ull:U'.length≤20:=by
      have:=z6g cr
      rw [y0f,y1b,List.length_reverse] at this
      omega
     obtain⟨w,rfl,ew⟩:∃w:Bool,x = .bl w∧[PM.restOf c nc nh,PM.nearOf c nc nh].take (j+1) = [PM.restOf c nc nh,PM.nearOf c nc nh].take j ++ [((pick c.1 b2 w,pick c.2 b1 w):PM.Cr)]:=by
      match j,hx with
      | 0,hx =>
       cases hx
       refine⟨false,rfl,?_⟩
       rw [pf,qf]
       rfl
      | 1,hx =>
       cases hx
       refine⟨true,rfl,?_⟩
       rw [pt,qt]
       rfl
      | k+2,hx=>cases hx
     walk_at "run"
     refine⟨⟨_,tw5.h2⟩,_,_,.inr (SqT.of (fzz dtc k1)),rfl,_,_,.inr (SqT.of (fzz dtq g2)),rfl,?_⟩
     refine⟨ch,n2',c.1,b2,w,rfl,fzz dch k2,fzz dn2 g5,by omega,by omega,fun la H6 hla s6 ea=>?_⟩
     walk_at "run"
     refine⟨_,_,.inr (SqT.of (s6 _ _ (fzz dtc k1))),rfl,_,_,.inr (SqT.of (s6 _ _ (fzz dtq g2))),rfl,?_⟩
     refine⟨cc,n1',c.2,b1,w,rfl,s6 _ _ (fzz dcc k3),s6 _ _ (fzz dn1 g4),by omega,by omega,fun lb H7 hlb s7 eb=>?_⟩
     walk_at "run"
     refine⟨sz (by show 2≤1000; decide),fun tn htn=>?_⟩
     have s8:=z03 htn (.tup [.ref la,.ref lb])
     have tw8:=tw5.more (s6.trans (s7.trans s8))
     have isn:Is K (z6x (upd H7 tn (.tup [.ref la,.ref lb])) lc lu) (.ref tn) (z5l (pick c.1 b2 w) (pick c.2 b1 w)):=by
      refine tw8.crowd (x:=la) (y:=lb) ⟨fun z=>?_,fun z=>?_⟩ ⟨fun z=>?_,fun z=>?_⟩ z01 ((s7.trans s8) _ _ ea) (s8 _ _ eb)
      ·rw [z,tw5.h1] at hla; cases hla
      ·rw [z,tw5.h2] at hla; cases hla
      ·rw [z,s6 _ _ tw5.h1] at hlb; cases hlb
      ·rw [z,s6 _ _ tw5.h2] at hlb; cases hlb
     refine⟨_,tw8.h2,z0h (by omega),?_⟩
     refine⟨_,vu5 ++ [.ref tn],rfl,?_,?_⟩
     ·rw [ew,←y2z,y0g]
      exact tw8.set2 (z26 tw8.a2 isn)
     ·exact(fz.trans (Frz.of (s6.trans (s7.trans s8)))).trans (Frz.upd (by simp))
    ·rintro σ' H5 ⟨t7,vu5,rfl,tw5,_⟩
     have lens:(c.1.filter nh).length+(c.1.filter fun h=>!nh h).length=c.1.length:=by
      have:=List.length_eq_countP_add_countP nh (l:=c.1)
      rw [y4b,y4b] at this
      have e:(c.1.filter fun a=>decide ¬nh a=true)=c.1.filter fun h=>!nh h:=y4y fun x _=>by cases nh x<;>rfl
      rw [e] at this
      omega
     obtain⟨h1',h2',h3'⟩:=hnear
     obtain⟨r1',r2',r3'⟩:=C.far ⟨h1',h2',h3'⟩
     have p1:0<(c.1.filter nh).length:=y0s.mpr fun z=>by
      have:h1'∈c.1.filter nh:=y17.mpr ⟨h2',h3'⟩
      rw [z] at this
      cases this
     have p2:0<(c.1.filter fun h=>!nh h).length:=y0s.mpr fun z=>by
      have:r1'∈c.1.filter fun h=>!nh h:=y17.mpr ⟨r2',by rw [r3']; rfl⟩
      rw [z] at this
      cases this
     refine⟨z9x (U' ++ [PM.restOf c nc nh,PM.nearOf c nc nh]),?_,_,_,_,vc,vu5,Lc,U' ++ [PM.restOf c nc nh,PM.nearOf c nc nh],rfl,tw5,?_,rst,rfl⟩
     ·unfold z9x PM.restOf PM.nearOf
      simp
      omega
     ·rw [y61]
      exact cut
   ·have hall:∀h∈c.1,nh h=false:=fun h hh=>by
     obtain⟨i,hi⟩:=y09 hh
     have e:=mh i h hi
     cases z:nh h with
     | false=>rfl
     | true =>
      rw [z] at e
      exact absurd (y1r.mpr ⟨true,y02 e,rfl⟩) hany
    have rc:=zl6 C hall (cr.own c hcin)
    have lcl:vc.length=Lc.length:=by simpa using z0i tw3.a1
    have lcf:Lc.length≤20:=by
     have:=z6g cr
     rw [y0f] at this
     omega
    walk_at "run"
    refine⟨⟨_,tw3.h1⟩,_,tw3.h1,z0h (by omega),?_⟩
    refine⟨z9x U',?_,_,_,_,vc ++ [.ref tc],vu.dropLast,Lc ++ [c],U',rfl,?_,?_,fun d hd=>?_,rfl⟩
    ·have:=y0s.mpr hne1
     unfold z9x
     simp
     omega
    ·rw [y0g]
     exact tw3.set1 (z26 tw3.a1 isv2)
    ·rw [y2z]
     exact cr
    ·rcases y13.mp hd with hd | hd
     ·exact rst d hd
     ·rw [y0e.mp hd]
      exact rc
  ·have hU:U = []:=by
    have:¬(0:Int)<(vu.length:Int):=fun z=>hc (decide_eq_true z)
    exact y1j.mp (by omega)
   subst hU
   rw [List.reverse_nil,y2u] at cr
   exact q Lc (fun z=>by omega) (fun _=>cr) rst _ _ tw.same (is_list.mpr ⟨lc,vc,rfl,tw.h1,IsAll.same z5r _ _ tw.a1⟩)
 ·have hm0:many=0:=by
   have:¬(0:Int)<(many:Int):=fun z=>hm (decide_eq_true z)
   omega
  refine⟨sz (by show 0≤1000; decide),fun lu hlu=>?_⟩
  have w1:=z03 hlu (.lst [])
  refine⟨fun m σ' H'=>H'=upd H0 lu (.lst [])∧∃t5 t6 t7,σ' = [some (.ref aw),some (.ref ad),some (.int (many:Int)),some (.ref lc),some (.ref lu),t5,t6,t7],⟨0,rfl,_,_,_,rfl⟩,?_⟩
  rintro m σ' H' ⟨rfl,t5,t6,t7,rfl⟩
  walk_at "run"
  refine⟨_,.inl (SqL.of z01),zan ?_⟩
  exact q [] (fun _=>rfl) (fun z=>by omega) (fun c hc=>(by cases hc)) _ _ (s0.trans w1) (is_list.mpr ⟨lc,[],rfl,w1 _ _ hlce,z0q⟩)
abbrev z39:Stmt:=top 4
theorem zc6:FnScope ["thing"] ["thing"] (z05 z39):=⟨rfl,rfl,rfl,by decide +kernel,rfl,by decide +kernel,by decide +kernel⟩
theorem zbg (T:Top K mg "is_whole" z39 ["thing"])(B:Blt mg) :Def P w K mg base "is_whole" 1 ["thing"] (z3l):=by
 refine z1x (k:=0) T zc6 (fun vs H Q E h=>?_) (fun f cdv A outer s H vs Q E hr h=>?_)
 ·unfold z3l at h
  split at h
  ·rfl
  ·rfl
  ·exact h.elim
 refine⟨_,(z08 (z0s (z9p (z47 z22 B.isinstance z23 (z00 (cv 0) (z00 (zdw B.int zj4) z04))) (z7u (zjf (z47 z22 B.isinstance z23 (z00 (cv 0) (z00 (zdw B.bool zgt) z04)))))))),?_⟩
 unfold z3l at h
 split at h
 ·rename_i z
  refine rd (σ':=[some (.int z)]) rfl ?_
  walk_at "run"
  exact⟨by decide,z86 ⟨by decide,h⟩⟩
 ·rename_i z
  refine rd (σ':=[some (.bl z)]) rfl ?_
  walk_at "run"
  exact⟨by decide,z86 ⟨by decide,h⟩⟩
 ·exact h.elim
abbrev z2d:Stmt:=top 5
theorem sc_divisor_of:FnScope ["one","other","greater","lesser","rest"] ["one","other"] (z05 z2d):=⟨rfl,rfl,rfl,by decide +kernel,rfl,by decide +kernel,by decide +kernel⟩
theorem z9d (T:Top K mg "divisor_of" z2d ["one","other"])(B:Blt mg) :Def P w K mg base "divisor_of" 1 ["one","other"] (spG):=by
 refine z1x (k:=0) T sc_divisor_of (fun vs H Q E h=>?_) (fun f cdv A outer s H vs Q E hr h=>?_)
 ·unfold spG at h
  split at h
  ·rfl
  ·exact h.elim
 unfold spG at h
 split at h
 ·rename_i a b
  refine⟨_,(z02 (z0c 2 sc_divisor_of.nd (z47 zei B.abs zef (z00 (cv 0) z04)))
   (z02 (z0c 3 sc_divisor_of.nd (z47 zei B.abs zef (z00 (cv 1) z04)))
   (z02 (zic (z0y z7d (cv 3) z07 (z0r _))
   (z02 (z0c 4 sc_divisor_of.nd (z0o z2g (cv 2) (cv 3)))
    (z02 (z0c 2 sc_divisor_of.nd (cv 3))
    (z08 (z0c 3 sc_divisor_of.nd (cv 4))))))
   (z08 (z0s (cv 2)))))),?_⟩
  refine rd (σ':=[some (.int a),some (.int b),none,none,none]) rfl ?_
  walk_at "run"
  refine⟨fun σ H'=>H'=H∧∃(g l:Int) (r:Option V),σ = [some (.int a),some (.int b),some (.int g),some (.int l),r]∧0≤g∧0≤l∧y2h g l=y2h a b,
   fun σ _=>match σ with | [_,_,_,some (.int l),_]=>l.toNat | _=>0,⟨rfl,_,_,_,rfl,zew a,zew b,zla a b⟩,?_⟩
  rintro σ H' ⟨rfl,g,l,r,rfl,hg,hl,e⟩
  walk_at "run"
  refine z4i (fun c=>?_) (fun c=>?_)
  ·have c':0<l:=of_decide_eq_true c
   refine⟨c',⟨rfl,l,g % l,_,rfl,hl,y29 _ (by omega),by rw [zik hg c',e]⟩,?_⟩
   have:=y2a g c'
   have:=y29 g (show l≠0 by omega)
   omega
  ·have c':¬ 0<l:=fun z=>c (decide_eq_true z)
   have e0:l=0:=by omega
   subst e0
   rw [←e,zhq hg] at h
   exact h
 ·exact h.elim
abbrev z3p:Stmt:=top 6
theorem sc_part_of:FnScope ["top","bottom","divisor"] ["top","bottom"] (z05 z3p):=⟨rfl,rfl,rfl,by decide +kernel,rfl,by decide +kernel,by decide +kernel⟩
theorem ze6 (T:Top K mg "part_of" z3p ["top","bottom"])(B:Blt mg)(D_is_whole:Def P w K mg base "is_whole" 1 ["thing"] (z3l))(D_divisor_of:Def P w K mg base "divisor_of" 1 ["one","other"] (spG)):Def P w K mg base "part_of" 2 ["top","bottom"] (zj5 K):=by
 refine z1x (k:=1) T sc_part_of (fun vs H Q E h=>?_) (fun f cdv A outer s H vs Q E hr h=>?_)
 ·obtain⟨a,b,rfl,_⟩:=h
  rfl
 obtain⟨a,b,rfl,hb,hB,q⟩:=h
 refine⟨_,(z02 (z3k (zbn (z51 (z3r (z0k D_is_whole (hr.mono (by decide)) (z00 (cv 0) z04)))) (zbn (z51 (z3r (z0k D_is_whole (hr.mono (by decide)) (z00 (cv 1) z04)))) (z8s (z0y z6a (cv 1) z07 (z0r _))))).pt
   (z08 zil)
   z1r)
   (z02 (z0c 2 sc_part_of.nd (z0k D_divisor_of (hr.mono (by decide)) (z00 (cv 0) (z00 (cv 1) z04))))
   (z02 (z3k (z0y za8 (cv 1) z07 (z0r _))
   (z08 (z0c 2 sc_part_of.nd (zat z6n (cv 2))))
   z1r)
   (z08 (z0s (z4g (z00 (z0o z4f (cv 0) (cv 2)) (z00 (z0o z4f (cv 1) (cv 2)) z04)))))))),?_⟩
 refine rd (σ':=[some (.int a),some (.int b),none]) rfl ?_
 walk_at "run"
 have fin:∀j:Int,j=(if b<0 then -((y2h a b:Nat):Int) else (y2h a b:Nat))→j≠0∧j.natAbs.log2<9000∧j≠0∧j.natAbs.log2<9000∧2≤sizeLine∧∀p,H p=none→Q (.ref p) (upd H p (.tup [.int (a.fdiv j),.int (b.fdiv j)])):=fun j hj=>by
  obtain⟨h1,h2,h3,h4,h5⟩:=zax hb hj
  exact⟨h1,zpk hB h2 h1,h1,zpk hB h2 h1,sz (by show 2≤1000; decide),(q _ _ h3 h4 h5).ints2⟩
 refine zan (zan (z4i (fun c=>absurd (of_decide_eq_true c) hb) (fun _=>?_)))
 refine z4i (fun c=>?_) (fun c=>?_)
 ·exact fin _ (if_pos (of_decide_eq_true c)).symm
 ·exact fin _ (if_neg (fun z=>c (decide_eq_true z))).symm
abbrev z2q:Stmt:=top 18
theorem sc_layers_by:FnScope ["works","doers","many","crowds"] ["works","doers","many"] (z05 z2q):=⟨rfl,rfl,rfl,by decide +kernel,rfl,by decide +kernel,by decide +kernel⟩
theorem zba (T:Top K mg "layers_by" z2q ["works","doers","many"])(B:Blt mg)(D_crowds_by:Def P w K mg base "crowds_by" 10 ["works","doers","many"] (z9i K))(D_part_of:Def P w K mg base "part_of" 2 ["top","bottom"] (zj5 K))(D_work_in:Def P w K mg base "work_in" 1 ["works","crowd"] (z71 K)):Def P w K mg base "layers_by" 11 ["works","doers","many"] (zdd K):=by
 refine z1x (k:=10) T sc_layers_by (fun vs H Q E h=>?_) (fun f cdv A outer s H vs Q E hr h=>?_)
 ·obtain⟨aw,ad,many,ws,drs,rfl,_⟩:=h
  rfl
 obtain⟨aw,ad,many,ws,drs,rfl,ac,dk,q⟩:=h
 have few:=ac.few
 have mfew:=dk.few
 refine⟨_,(z02 (z0c 3 sc_layers_by.nd (z0k D_crowds_by (hr.mono (by decide)) (z00 (cv 0) (z00 (cv 1) (z00 (cv 2) z04)))))
   (z08 (z0s (z3m (N:=["crowd","works"]) (fr:=[0]) 1 (z1o (cv 3)) (fun C hN=>by exact pgC ((z0b 0 hN)) (by walk_at "c")) (fun C hN=>by exact peC ((z4g (z00 (z0k D_part_of (hr.mono (by decide)) (z00 (z0k D_work_in (hr.mono (by decide)) (z00 (cv 1) (z00 (cv 0) z04))) (z00 (z47 z1z B.len y18 (z00 (z0m z0l (cv 0) z07 (fun _ _=>rfl)) z04)) z04))) (z00 (z0m z0l (cv 0) z07 (fun _ _=>rfl)) (z00 (z0m z0l (cv 0) z07 (fun _ _=>rfl)) z04))))) (by walk_at "c")))))),?_⟩
 refine rd (σ':=[some (.ref aw),some (.ref ad),some (.int (many:Int)),none]) rfl ?_
 walk_at "run"
 refine⟨aw,ad,many,ws,drs,rfl,ac,dk,fun L h1 h2 h3 vl H1 s1 il=>?_⟩
 have co:CrOk ws drs many L:=⟨h1,h2,h3⟩
 have lf:=co.few mfew
 obtain⟨al,cv,rfl,hal,hall⟩:=is_list.mp il
 have cvl:cv.length=L.length:=by simpa using z0i hall
 walk_at "run"
 refine .inl ⟨⟨_,SqL.of hal⟩,?_⟩
 refine cgo (σ':=[none,some (.ref aw)]) rfl ?_
 refine z1j (xs:=cv) (fun i ys H2=>Same H1 H2∧ys.length≤i∧∃ps:List (Int×Int),LayOk ws (L.take i) ps∧IsAll K H2 ys (z2p ps (L.take i))) ⟨Same.refl _,y0a _,[],⟨rfl,fun i c p h=>by simp at h⟩,z0q⟩ (z0h (by omega)) ?_ ?_ ?_
 ·rintro i ys H2 _ ⟨e2,yl,_⟩
  exact⟨SqL.of (e2 _ _ hal),yl⟩
 ·rintro i x ys H2 hx ⟨e2,yl,ps,lo,al⟩
  have hil:=(y00.mp hx).1
  obtain⟨d,hd,isx⟩:=z4c hall hx
  rw [y06] at hd
  cases hc:L[i]? with
  | none=>rw [hc] at hd; cases hd
  | some c =>
   rw [hc] at hd
   cases hd
   have cm:=y02 hc
   obtain⟨lt1,lt2,ne,r1,r2⟩:=co.lt cm
   have cl2:=z1e r2 lt2
   have cl1:=z1e r1 lt1
   have cpos:=y0s.mpr ne
   replace isx:=Is.same e2 _ _ isx
   obtain⟨tc,ch,cc,rfl,k1,k2,k3⟩:=is_crowd.mp isx
   walk_at "run"
   refine z86 ⟨aw,.ref tc,ws,c.1,c.2,rfl,(s1.trans e2) _ _ ac.w,isx,by omega,lt2,fun H3 s3=>?_⟩
   walk_at "run"
   refine⟨_,_,.inr (SqT.of (s3 _ _ k1)),rfl,_,.inl (SqL.of (s3 _ _ k2)),?_⟩
   walk_at "run"
   rw [z0g]
   refine⟨_,_,rfl,by omega,by show _<_; exact y0p (show((c.1.length:Int)).natAbs<2^5 by omega) (y5r (by decide) (by decide)),fun n d d1 gcd e=>?_⟩
   intro vf H4 s4 isf
   obtain⟨fa,rfl,hfa⟩:=is_frac.mp isf
   walk_at "run"
   have s34:=s3.trans s4
   refine⟨_,_,.inr (SqT.of (s34 _ _ k1)),rfl,_,_,.inr (SqT.of (s34 _ _ k1)),rfl,sz (by show 3≤1000; decide),fun t ht=>?_⟩
   have sT:=z03 ht (.tup [.ref fa,.ref ch,.ref cc])
   have s35:=s34.trans sT
   have etot:z2i ws c.2=PM.tot (z1n ws) c:=by
    unfold z2i PM.tot
    rw [y0j fun x hx=>?_]
    unfold z1n
    rw [if_pos (lt2 x hx)]
   have tk:=z0d hc
   have pl:ps.length=i:=by rw [lo.len,y0v]; omega
   refine CNx.mk ⟨e2.trans s35,by rw [y0f]; simp; omega,ps ++ [(n,d)],⟨?_,fun j c' p' hj hp=>?_⟩,?_⟩ hil
   ·rw [tk,y0f,y0f,lo.len]
    rfl
   ·rw [tk] at hj
    by_cases z:j<i
    ·rw [y0q (by rw [y0v]; omega)] at hj
     rw [y0q (by omega)] at hp
     exact lo.at_ j c' p' hj hp
    ·rw [y0w (by omega)] at hp
     have ej:j=i:=by
      have:=(y00.mp hp).1
      simp at this
      omega
     subst ej
     rw [y0w (by rw [y0v]; omega)] at hj
     rw [show j - (L.take j).length=0 by rw [y0v]; omega] at hj
     rw [pl,Nat.sub_self] at hp
     cases hj
     cases hp
     refine⟨⟨d1,gcd⟩,?_⟩
     show n*(c.1.length:Int)=_*d
     rw [←etot]
     exact e
   ·rw [tk,z6p lo.len]
    refine z26 (IsAll.same s35 _ _ al) (is_layer.mpr ⟨t,fa,ch,cc,rfl,z01,sT _ _ hfa,s35 _ _ k2,s35 _ _ k3⟩)
 ·rintro ys H2 ⟨e2,_,ps,lo,al⟩ l hl
  rw [cvl,y08 (y0a _)] at lo al
  exact q L ps co lo _ _ (s1.trans (e2.trans (z03 hl _))) (is_list.mpr ⟨l,_,rfl,z01,IsAll.same (z03 hl _) _ _ al⟩)
abbrev z3a:Stmt:=top 19
theorem sc_loads_by:FnScope ["works","doers","many","loads","layer","hand"] ["works","doers","many"] (z05 z3a):=⟨rfl,rfl,rfl,by decide +kernel,rfl,by decide +kernel,by decide +kernel⟩
theorem zbc (T:Top K mg "loads_by" z3a ["works","doers","many"])(B:Blt mg)(D_layers_by:Def P w K mg base "layers_by" 11 ["works","doers","many"] (zdd K)):Def P w K mg base "loads_by" 12 ["works","doers","many"] (zg3 K):=by
 refine z1x (k:=11) T sc_loads_by (fun vs H Q E h=>?_) (fun f cdv A outer s H vs Q E hr h=>?_)
 ·obtain⟨aw,ad,many,ws,drs,rfl,_⟩:=h
  rfl
 obtain⟨aw,ad,many,ws,drs,rfl,ac,dk,q⟩:=h
 have few:=ac.few
 have mfew:=dk.few
 refine⟨_,(z02 (z0c 3 sc_loads_by.nd (z0o z35 (z19 (z00 (z4g (z00 z07 (z00 z07 z04))) z04)) (cv 2)))
   (z02 (z1w (z1o (z0k D_layers_by (hr.mono (by decide)) (z00 (cv 0) (z00 (cv 1) (z00 (cv 2) z04))))) (z0b 4 sc_loads_by.nd)
   (z08 (z1w (z1o (z0m z0l (cv 4) z07 (fun _ _=>rfl))) (z0b 5 sc_loads_by.nd)
    (z08 (z8v (z0m z0l (cv 4) z07 (fun _ _=>rfl)) (zav (cv 3) (cv 5) z4e))))))
   (z08 (z0s (cv 3))))),?_⟩
 refine rd (σ':=[some (.ref aw),some (.ref ad),some (.int (many:Int)),none,none,none]) rfl ?_
 walk_at "run"
 refine⟨sz (by show 2≤1000; decide),fun t0 ht0=>⟨sz (by show 1≤1000; decide),fun l0 hl0=>?_⟩⟩
 have w1:=z03 ht0 (.tup [.int 0,.int 1])
 have w2:=z03 hl0 (.lst [.ref t0])
 refine⟨_,z01,by omega,by omega,sz (by show 1*_≤1000; omega),fun l hl=>?_⟩
 rw [z2x,show((many:Int)).toNat=many by omega]
 have w3:=z03 hl (.lst (y05 many (V.ref t0)))
 have g0:Grow K H (upd (upd (upd H t0 (.tup [.int 0,.int 1])) l0 (.lst [.ref t0])) l (.lst (y05 many (V.ref t0)))) l (y05 many (V.ref t0)) ((y05 many ((0,1):Int×Int)).map fun p=>z9o p.1 p.2):=by
  refine⟨?_,z01,?_⟩
  ·rw [z49]
   exact(w1.trans w2).trans (zcc hl)
  ·rw [z49,y2o]
   have e:(del (upd (upd H t0 (.tup [.int 0,.int 1])) l0 (.lst [.ref t0])) l) t0=some (.tup [.int 0,.int 1]):=by
    have e1:=w2 _ _ (z01 (H:=H) (a:=t0) (o:=.tup [.int 0,.int 1]))
    rw [z90 (z06 e1 hl)]
    exact e1
   exact z7k (is_frac.mpr ⟨t0,rfl,e⟩) many
 generalize upd (upd (upd H t0 (.tup [.int 0,.int 1])) l0 (.lst [.ref t0])) l (.lst (y05 many (V.ref t0)))=H1 at g0 ⊢
 clear w1 w2 w3 hl ht0 hl0
 refine⟨aw,ad,many,ws,drs,rfl,ac.same g0.same,dk,fun L ps co lo vl H2 s2 il=>?_⟩
 have lf:=co.few mfew
 obtain⟨al,lv,rfl,hal,hall⟩:=is_list.mp il
 have lvl:lv.length=L.length:=by rw [z0i hall,z7j lo.len]
 have g2:=g0.more s2
 walk_at "run"
 refine .inl ⟨⟨_,SqL.of hal⟩,?_⟩
 have fin:∀(σ':St) (H':Hp) (vs:List V) (qs:List (Int×Int)),Grow K H H' l vs (qs.map fun p=>z9o p.1 p.2)→LoadOk many L ps qs→Q (.ref l) H':=fun σ' H' vs qs g lok=>q L ps qs co lo lok _ _ g.same g.is
 by_cases hL:L = []
 ·subst hL
  have hlv:lv = []:=y1j.mp lvl
  subst hlv
  refine z3f (xs:=[]) (fun i σ' H'=>H'=H2∧∃t4 t5,σ' = [some (.ref aw),some (.ref ad),some (.int (many:Int)),some (.ref l),t4,t5]) ⟨rfl,_,_,rfl⟩ ?_ ?_ ?_
  ·rintro i σ' H' _ ⟨rfl,_⟩
   exact SqL.of hal
  ·intro i x σ' H' hx
   simp at hx
  ·rintro σ' H' ⟨rfl,t4,t5,rfl⟩
   walk_at "run"
   exact fin [] _ _ _ g2 ⟨by simp,fun i c p hc=>by simp at hc⟩
 ·have nal:al≠l:=fun z=>by
   subst z
   have e:=g2.here
   rw [hal] at e
   cases e
   have hL0:=y0s.mpr hL
   have hv0:(y05 many (V.ref t0))[0]?=some ((y05 many (V.ref t0))[0]'(by omega)):=y01 (by omega)
   obtain⟨d,hd,isd⟩:=z4c hall hv0
   obtain⟨p,c,_,_,rfl⟩:=z65 hd
   obtain⟨a1,_,_,_,ea,ha1,_⟩:=is_layer.mp isd
   obtain⟨d2,hd2,isd2⟩:=z4c g2.all hv0
   rw [y06] at hd2
   cases z2:(y05 many ((0,1):Int×Int))[0]? with
   | none=>rw [z2] at hd2; cases hd2
   | some p2 =>
    rw [z2] at hd2
    cases hd2
    obtain⟨a2,ea2,ha2⟩:=is_frac.mp (Is.same del_sub _ _ isd2)
    rw [ea] at ea2
    cases ea2
    rw [ha1] at ha2
    cases ha2
  refine z3f (xs:=lv) (fun i σ' H'=>∃t4 t5 vs qs,σ' = [some (.ref aw),some (.ref ad),some (.int (many:Int)),some (.ref l),t4,t5]∧Frz [l] H2 H'∧Grow K H H' l vs (qs.map fun p=>z9o p.1 p.2)∧LoadOk many (L.take i) ps qs) ⟨_,_,_,_,rfl,Frz.of (Same.refl _),g2,by simp,fun i c p hc=>by simp at hc⟩ ?_ ?_ ?_
  ·rintro i σ' H' _ ⟨_,_,_,_,_,fz,_⟩
   exact SqL.of (fz _ _ (by simpa using nal) hal)
  ·rintro i x σ' H' hx ⟨t4,t5,vs,qs,rfl,fz,g,lok⟩
   obtain⟨d,hd,isx⟩:=z4c hall hx
   obtain⟨p,c,hp,hc,rfl⟩:=z65 hd
   obtain⟨a1,fa,xa,ya,rfl,k1,k2,k3,k4⟩:=is_layer.mp isx
   obtain⟨lt1,lt2,ne,r1,r2⟩:=co.lt (y02 hc)
   have na1:a1≠l:=fun z=>by rw [z,g2.here] at k1; cases k1
   have nfa:fa≠l:=fun z=>by rw [z,g2.here] at k2; cases k2
   have nxa:xa≠l:=fun z=>by
    subst z
    have e:=g2.here
    rw [k3] at e
    have e2:z0a c.1=y05 many (V.ref t0):=HO.lst.inj (y12 e)
    obtain⟨x0,r0,hx0⟩:=y2c ne
    have hm:V.int (x0:Int)∈y05 many (V.ref t0):=by
     rw [←e2,hx0]
     exact y0d
    cases y32 hm
   have fzz:∀{H5:Hp} {b:Addr} {o:HO},Frz [l] H2 H5→b≠l→H2 b=some o→H5 b=some o:=fun {H5 b o} f hb h=>f b o (by simpa using hb) h
   have cl:=z1e r1 lt1
   walk_at "run"
   refine⟨_,_,.inr (SqT.of (fzz fz na1 k1)),rfl,?_⟩
   walk_at "run"
   refine .inl ⟨⟨_,SqL.of (fzz fz nxa k3)⟩,?_⟩
   refine z3f (xs:=z0a c.1) (fun j σ' H'=>∃t5 vs qs,σ' = [some (.ref aw),some (.ref ad),some (.int (many:Int)),some (.ref l),some (.ref a1),t5]∧Frz [l] H2 H'∧Grow K H H' l vs (qs.map fun p=>z9o p.1 p.2)∧LoadOk many (L.take i) ps qs∧∀h∈c.1.take j,qs[h]?=some p) ⟨_,vs,qs,rfl,fz,g,lok,fun h hh=>by simp at hh⟩ ?_ ?_ ?_
   ·rintro j σ' H' _ ⟨_,_,_,_,fz,_⟩
    exact SqL.of (fzz fz nxa k3)
   ·rintro j y σ' H' hy ⟨t5,vs,qs,rfl,fz,g,lok,done⟩
    obtain⟨hd',hhd,rfl⟩:=z31 hy
    have hlt:=lt1 hd' (y02 hhd)
    have vl2:vs.length=many:=by
     have:=z0i g.all
     rw [y04,lok.len] at this
     exact this
    walk_at "run"
    refine⟨_,_,.inr (SqT.of (fzz fz na1 k1)),rfl,_,hd',g.here,z33 (by omega),?_⟩
    have isf:Is K (del H' l) (.ref fa) (z9o p.1 p.2):=is_frac.mpr ⟨fa,rfl,by rw [z90 nfa]; exact fzz fz nfa k2⟩
    refine⟨_,vs.set hd' (.ref fa),qs.set hd' p,rfl,fz.trans (Frz.upd (by simp)),⟨by rw [z49]; exact g.old,z01,?_⟩,⟨by rw [y22]; exact lok.len,fun i' c' p' hc' hp' h hh=>?_⟩,fun h hh=>?_⟩
    ·rw [z49,y2b]
     exact z76 g.all isf
    ·have ne':hd'≠h:=fun z=>by
      subst z
      exact co.apart mfew (i:=i') (j:=i) (by
       have:=(y00.mp hc').1
       rw [y0v] at this
       omega) (zi7 hc') hc hh (y02 hhd)
     rw [y11 ne']
     exact lok.at_ i' c' p' hc' hp' h hh
    ·rw [z0d hhd] at hh
     by_cases z:hd'=h
     ·subst z
      rw [y0t (by rw [lok.len]; exact hlt)]
     ·rw [y11 z]
      rcases y13.mp hh with hh | hh
      ·exact done h hh
      ·exact absurd (y0e.mp hh).symm z
   ·rintro σ' H' ⟨t5,vs,qs,rfl,fz,g,lok,done⟩
    rw [z0g,y08 (y0a _)] at done
    refine⟨_,_,vs,qs,rfl,fz,g,⟨lok.len,fun i' c' p' hc' hp' h hh=>?_⟩⟩
    rw [z0d hc] at hc'
    by_cases z:i'<i
    ·rw [y0q (by rw [y0v]; have:=(y00.mp hc).1; omega)] at hc'
     exact lok.at_ i' c' p' hc' hp' h hh
    ·have hil:=(y00.mp hc).1
     rw [y0w (by rw [y0v]; omega)] at hc'
     have ei:i'=i:=by
      have:=(y00.mp hc').1
      rw [y0v] at this
      simp at this
      omega
     subst ei
     rw [show i' - (L.take i').length=0 by rw [y0v]; omega] at hc'
     cases hc'
     rw [hp] at hp'
     cases hp'
     exact done h hh
  ·rintro σ' H' ⟨t4,t5,vs,qs,rfl,fz,g,lok⟩
   rw [lvl,y08 (y0a _)] at lok
   walk_at "run"
   exact fin [] _ _ _ g lok
abbrev z2v:Stmt:=top 22
theorem sc_pieces_in:FnScope ["works","doers","crowd","many","work","gives","ties","sent"] ["works","doers","crowd"] (z05 z2v):=⟨rfl,rfl,rfl,by decide +kernel,rfl,by decide +kernel,by decide +kernel⟩
theorem z9q (T:Top K mg "pieces_in" z2v ["works","doers","crowd"])(B:Blt mg)(D_work_in:Def P w K mg base "work_in" 1 ["works","crowd"] (z71 K))(D_ties_in:Def P w K mg base "ties_in" 1 ["doers","crowd"] (z5q K))(D_pour_all:Def P w K mg base "pour_all" 8 ["gives","takes","ties"] (zkx K))(D_pour_more:Def P w K mg base "pour_more" 7 ["gives","takes","ties","sent"] (zev K)):Def P w K mg base "pieces_in" 9 ["works","doers","crowd"] (z8f K):=by
 refine z1x (k:=8) T sc_pieces_in (fun vs H Q E h=>?_) (fun f cdv A outer s H vs Q E hr h=>?_)
 ·obtain⟨aw,ad,vc,ws,drs,c,rfl,_⟩:=h
  rfl
 obtain⟨aw,ad,vc,ws,drs,c,rfl,ask,hcr,pc,q⟩:=h
 obtain⟨ac,ah,ax,rfl,h1,h2,h3⟩:=is_crowd.mp hcr
 have hl:=pc.hl
 have cl:=pc.cl
 refine⟨_,(z02 (z0c 3 sc_pieces_in.nd (z47 z1z B.len y18 (z00 (z0m z0l (cv 2) z07 (fun _ _=>rfl)) z04)))
   (z02 (z0c 4 sc_pieces_in.nd (z0k D_work_in (hr.mono (by decide)) (z00 (cv 0) (z00 (cv 2) z04))))
   (z02 (z7w (N:=["chore","works"]) (fr:=[0]) 5 1 sc_pieces_in.nd (z1o (z0m z0l (cv 2) z07 (fun _ _=>rfl))) (fun C hN=>by exact pgC ((z0b 0 hN)) (by walk_at "c")) (fun C hN=>by exact peC ((z0m z0l (cv 1) (cv 0) (fun _ _=>rfl))) (by walk_at "c")))
   (z02 (z0c 6 sc_pieces_in.nd (z0k D_ties_in (hr.mono (by decide)) (z00 (cv 1) (z00 (cv 2) z04))))
   (z02 (z0c 7 sc_pieces_in.nd (z0m z0l (z0k D_pour_all (hr.mono (by decide)) (z00 (cv 5) (z00 (z0o z35 (z19 (z00 (z0o z4f (cv 4) (cv 3)) z04)) (cv 3)) (z00 (cv 6) z04)))) z07 (fun _ _=>rfl)))
   (z08 (z0s (z0m z0l (z0k D_pour_more (hr.mono (by decide)) (z00 (cv 5) (z00 (z0o z35 (z19 (z00 (zat z6n (z0o z4f (zat z6n (cv 4)) (cv 3))) z04)) (cv 3)) (z00 (cv 6) (z00 (cv 7) z04))))) z07 (fun _ _=>rfl))))))))),?_⟩
 refine rd (σ':=[some (.ref aw),some (.ref ad),some (.ref ac),none,none,none,none,none]) rfl ?_
 walk_at "run"
 refine⟨_,_,.inr (SqT.of h1),rfl,_,.inl (SqL.of h2),?_⟩
 walk_at "run"
 rw [z0g]
 refine⟨aw,.ref ac,ws,c.1,c.2,rfl,ask.w,hcr,cl,pc.ci,fun H1 s1=>?_⟩
 walk_at "run"
 refine⟨_,_,.inr (SqT.of (s1 _ _ h1)),rfl,?_⟩
 walk_at "run"
 refine .inl ⟨⟨_,SqL.of (s1 _ _ h3)⟩,?_⟩
 refine cgo (σ':=[none,some (.ref aw)]) rfl ?_
 refine zmu (s1 _ _ h3) (s1 _ _ ask.w) cl pc.ci fun lg hlg=>?_
 have f2:=z03 hlg (.lst ((c.2.map fun c=>ws.getD c 0).map V.int))
 have kg:=z01 (H:=H1) (a:=lg) (o:=.lst ((c.2.map fun c=>ws.getD c 0).map V.int))
 have s2:=s1.trans f2
 generalize upd H1 lg (.lst ((c.2.map fun c=>ws.getD c 0).map V.int))=H2 at s2 kg ⊢
 clear s1 f2 hlg
 walk_at "run"
 refine⟨ad,.ref ac,drs,c.1,c.2,rfl,Is.same s2 _ _ ask.d,Is.same s2 _ _ hcr,pc.nd,hl,cl,ask.row,fun x hx=>by rw [ask.len]; exact pc.ci x hx,fun vt H3 s3 it _=>?_⟩
 obtain⟨ai,tv,e1,hai,hal⟩:=is_list.mp it
 subst e1
 have n0:=pc.n0
 have ewt:z2i ws c.2=PM.tot (z1n ws) c:=by
  unfold z2i PM.tot
  rw [y0j fun x hx=>(zl9 (pc.ci x hx)).symm]
 rw [ewt]
 have N0:(0:Int)<(c.1.length:Int):=by omega
 have nz:(c.1.length:Int)≠0:=by omega
 have lgn:((c.1.length:Int)).natAbs.log2<9000:=zjo (n:=60) (by show _<_; omega) (by decide) nz
 have tie:∀p∈z0j drs c.1 c.2,p.1<c.2.length∧p.2<c.1.length:=fun p hp=>by
  obtain⟨x,h,h1,h2,_⟩:=(z1u pc.nd p.1 p.2).mp hp
  exact⟨(y00.mp h1).1,(y00.mp h2).1⟩
 have wp:∀x∈c.2,1≤ws.getD x 0:=fun x hx=>ask.pos _ (y02 (z0x (pc.ci x hx)))
 have tot0:0≤PM.tot (z1n ws) c:=by
  unfold PM.tot
  refine zcx fun x hx=>?_
  obtain⟨y,_,rfl⟩:=y1h.mp hx
  have:=z81 ask.pos y
  omega
 have fl0:0≤(PM.tot (z1n ws) c).fdiv c.1.length:=y6y tot0 (by omega)
 have flc:=z9g (t:=PM.tot (z1n ws) c) N0
 have gl:(c.2.map fun x=>ws.getD x 0).length=c.2.length:=y04 ..
 have tlen:=z6i (hands:=c.1) (chores:=c.2) ask.row c.2.length
 have capn:∀v:Int,0≤v→∀g∈(c.2.map fun x=>ws.getD x 0)++y05 c.1.length v,0≤g:=fun v v0 g hg=>by
  rcases y13.mp hg with z | z
  ·obtain⟨x,hx,rfl⟩:=y1h.mp z
   have:=wp x hx
   omega
  ·rw [y32 z]
   exact v0
 have er:∀v:Int,y05 ((c.1.length:Int)).toNat (V.int v)=(y05 c.1.length v).map V.int:=fun v=>by rw [y2o]; rfl
 have sA:=s2.trans s3
 walk_at "run"
 refine⟨nz,lgn,sz (by show 1≤1000; decide),fun l1 hl1=>?_⟩
 have f1:=z03 hl1 (.lst [.int ((PM.tot (z1n ws) c).fdiv c.1.length)])
 refine⟨_,z01,by omega,by omega,sz (by show 1*_≤1000; omega),fun lt1 hlt1=>?_⟩
 rw [z2x,er]
 have f2:=z03 hlt1 (.lst ((y05 c.1.length ((PM.tot (z1n ws) c).fdiv c.1.length)).map V.int))
 have f12:=f1.trans f2
 refine⟨lg,lt1,ai,c.2.map (fun x=>ws.getD x 0),y05 c.1.length ((PM.tot (z1n ws) c).fdiv c.1.length),z0j drs c.1 c.2,rfl,f12 _ _ (s3 _ _ kg),z01,Is.same f12 _ _ it,fun p hp=>by rw [gl,y0x]; exact tie p hp,by rw [gl,y0x]; omega,by unfold z0j; omega,capn _ fl0,?_⟩
 intro p1 q1 a1 n1 m1 sent1 spare1 steps1 H4 s4 _ _ k1 k2 k3 k4 k5 D1 _ _
 have s34:=f12.trans s4
 walk_at "run"
 refine⟨_,_,.inr (SqT.of k1),rfl,?_⟩
 refine⟨nz,lgn,sz (by show 1≤1000; decide),fun l2 hl2=>?_⟩
 have f3:=z03 hl2 (.lst [.int (-(-PM.tot (z1n ws) c).fdiv c.1.length)])
 refine⟨_,z01,by omega,by omega,sz (by show 1*_≤1000; omega),fun lt2 hlt2=>?_⟩
 rw [z2x,er]
 have f4:=z03 hlt2 (.lst ((y05 c.1.length (-(-PM.tot (z1n ws) c).fdiv c.1.length)).map V.int))
 have f34:=f3.trans f4
 have sl1:sent1.length=(z0j drs c.1 c.2).length:=by have:=D1.flow.ls; rw [z73,y04] at this; exact this
 refine⟨lg,lt2,ai,a1,c.2.map (fun x=>ws.getD x 0),y05 c.1.length (-(-PM.tot (z1n ws) c).fdiv c.1.length),sent1,z0j drs c.1 c.2,rfl,(s34.trans f34) _ _ (s3 _ _ kg),z01,Is.same (s34.trans f34) _ _ it,f34 _ _ k3,fun p hp=>by rw [gl,y0x]; exact tie p hp,sl1,by rw [gl,y0x]; omega,by unfold z0j; omega,D1.flow.nn,fun e he=>?_,?_⟩
 ·rw [za5 sl1]
  unfold z8e
  rw [gl,y0x] at he
  have le:=D1.flow.load_le (e:=e) (by show e<_+_; rw [gl,y0x]; exact he)
  have le1:PM.load (z0n (c.2.map fun x=>ws.getD x 0).length (z0j drs c.1 c.2)) sent1 e≤((c.2.map fun x=>ws.getD x 0)++y05 c.1.length ((PM.tot (z1n ws) c).fdiv c.1.length)).getD e 0:=le.1
  have cc:((c.2.map fun x=>ws.getD x 0)++y05 c.1.length ((PM.tot (z1n ws) c).fdiv c.1.length)).getD e 0≤((c.2.map fun x=>ws.getD x 0)++y05 c.1.length (-(-PM.tot (z1n ws) c).fdiv c.1.length)).getD e 0:=by
   by_cases z:e<(c.2.map fun x=>ws.getD x 0).length
   ·rw [z4l z,z4l z]
    exact y1u _
   ·obtain⟨t,rfl⟩:∃t,e=(c.2.map fun x=>ws.getD x 0).length+t:=⟨e - (c.2.map fun x=>ws.getD x 0).length,by omega⟩
    rw [z42,z42,z5j (by omega),z5j (by omega)]
    exact flc
  omega
 intro p2 q2 a2 n2 m2 sent2 spare2 steps2 H5 s5 _ _ j1 j2 j3 j4 j5 D2 _ R2
 walk_at "run"
 refine⟨_,_,.inr (SqT.of j1),rfl,?_⟩
 refine q a2 sent2 H5 (zp0 pc ask.pos D1 D2 fun e he=>?_) (sA.trans (s34.trans (f34.trans s5))) j3
 have hx:((y0b ((c.2.map fun x=>ws.getD x 0).length+(y05 c.1.length (-(-PM.tot (z1n ws) c).fdiv c.1.length)).length)).map (z9y ((c.2.map fun x=>ws.getD x 0)++y05 c.1.length (-(-PM.tot (z1n ws) c).fdiv c.1.length)) (z0n (c.2.map fun x=>ws.getD x 0).length (z0j drs c.1 c.2)) sent1 (z0j drs c.1 c.2).length))[e]?=some (z8e (c.2.map fun x=>ws.getD x 0) (y05 c.1.length (-(-PM.tot (z1n ws) c).fdiv c.1.length)) (z0j drs c.1 c.2) sent1 e):=by
  rw [y06,y1q (by rw [gl,y0x]; exact he)]
  show some (z9y _ _ _ _ e)=_
  rw [za5 sl1]
 have lp:spare2.length=c.2.length+c.1.length:=by have:=D2.flow.lp; rw [this]; show _+_=_; rw [gl,y0x]
 have hy:spare2[e]?=some (spare2.getD e 0):=z0x (by omega)
 have:=R2 e _ _ hx hy
 unfold z8e z0n at this
 rw [gl] at this
 exact this
abbrev z2n:Stmt:=top 17
theorem sc_rows_from:FnScope ["doers","crowds","sents","nothing","rows","crowd","sent","tie","amount","chore"] ["doers","crowds","sents","nothing"] (z05 z2n):=⟨rfl,rfl,rfl,by decide +kernel,rfl,by decide +kernel,by decide +kernel⟩
theorem zaf (T:Top K mg "rows_from" z2n ["doers","crowds","sents","nothing"])(B:Blt mg)(D_ties_in:Def P w K mg base "ties_in" 1 ["doers","crowd"] (z5q K)):Def P w K mg base "rows_from" 2 ["doers","crowds","sents","nothing"] (zh2 K (fun z:Int=>PyData.int z)):=by
 refine z1x (k:=1) T sc_rows_from (fun vs H Q E h=>?_) (fun f cdv A outer s H vs Q E hr h=>?_)
 ·obtain⟨ad,ac,as,vn,drs,L,sss,no,rfl,_⟩:=h
  rfl
 obtain⟨ad,ac,as,vn,drs,L,sss,no,rfl,id,ic,is,iv,dfew,drow,dnd,lfew,lok,sl,sok,q⟩:=h
 obtain⟨_,rs,e0,hda,hrs⟩:=is_list.mp id
 cases e0
 obtain⟨_,cs,e0,hca,hcs⟩:=is_list.mp ic
 cases e0
 obtain⟨_,sv,e0,hsa,hsv⟩:=is_list.mp is
 cases e0
 have rsl:rs.length=drs.length:=by rw [z0i hrs,y04]
 have csl:cs.length=L.length:=by rw [z0i hcs,y04]
 have svl:sv.length=L.length:=by rw [z0i hsv,y04,sl]
 refine⟨_,(z02 (z7w (N:=["hands","nothing"]) (fr:=[3]) 4 1 sc_rows_from.nd (z1o (cv 0)) (fun C hN=>by exact pgC ((z0b 0 hN)) (by walk_at "c")) (fun C hN=>by exact peC ((z0o z35 (z19 (z00 (cv 1) z04)) (z47 z1z B.len y18 (z00 (cv 0) z04)))) (by walk_at "c")))
   (z02 (z1w (z6c B.zip (cv 1) (cv 2)) (z6u (z0b 5 sc_rows_from.nd) (z0b 6 sc_rows_from.nd))
   (z08 (z1w (z6c B.zip (z0k D_ties_in (hr.mono (by decide)) (z00 (cv 0) (z00 (cv 5) z04))) (cv 6)) (z6u (z0b 7 sc_rows_from.nd) (z0b 8 sc_rows_from.nd))
    (z02 (z0c 9 sc_rows_from.nd (z0m z0l (z0m z0l (cv 5) z07 (fun _ _=>rfl)) (z0m z0l (cv 7) z07 (fun _ _=>rfl)) (fun _ _=>rfl)))
     (z08 (z8v (cv 8) (zav (z0m z0l (cv 4) (cv 9) (fun _ _=>rfl)) (zal hr (z0m z0l (cv 0) (cv 9) (fun _ _=>rfl)) (z00 (z0m z0l (z0m z0l (cv 5) z07 (fun _ _=>rfl)) (z0m z0l (cv 7) z07 (fun _ _=>rfl)) (fun _ _=>rfl)) z04)) z4e)))))))
   (z08 (z0s (cv 4))))),?_⟩
 refine rd (σ':=[some (.ref ad),some (.ref ac),some (.ref as),some vn,none,none,none,none,none,none]) rfl ?_
 walk_at "run"
 refine .inl ⟨⟨_,SqL.of hda⟩,?_⟩
 refine cgo (σ':=[none,some vn]) rfl ?_
 refine z1j (xs:=rs) (fun j ys H1=>∃rv vals,ys=rv.map V.ref∧Rw K H H1 rv vals ((z54 (drs.take j) no).map fun r=>r.map fun z:Int=>PyData.int z)∧rv.length=j∧∀r∈rv,H r=none) ⟨[],[],rfl,⟨by simp,rfl,rfl,fun i r v h=>(by simp at h),fun b o h=>(by unfold z6v; simpa using h),fun i v d h=>(by simp at h)⟩,rfl,fun r h=>(by cases h)⟩ (z0h (by omega)) ?_ ?_ ?_
 ·rintro j ys H1 _ ⟨rv,vals,rfl,g,rl,_⟩
  exact⟨SqL.of (g.same _ _ hda),by rw [y04]; omega⟩
 ·rintro j x ys H1 hx ⟨rv,vals,rfl,g,rl,rn⟩
  have hj:=(y00.mp hx).1
  have hSj:drs[j]?=some (drs[j]'(by omega)):=y01 (by omega)
  generalize drs[j]'(by omega)=row at hSj
  obtain⟨ra,hra1,hra⟩:=z46 hrs hSj
  rw [hx] at hra1
  cases hra1
  have rl20:=drow row (y02 hSj)
  walk_at "run"
  refine z86 ⟨sz (by show 1≤1000; decide),fun t1 ht1=>?_⟩
  have f1:=z03 ht1 (.lst [vn])
  refine⟨_,.inl (SqL.of ((g.more f1).same _ _ hra)),?_⟩
  rw [z0g]
  walk_at "run"
  refine⟨_,z01,by omega,by omega,sz (by show 1*_≤1000; omega),fun l1 hl1=>?_⟩
  rw [z2x,show((row.length:Nat):Int).toNat=row.length by omega]
  have g1:=(g.more f1).snoc hl1 (v:=y05 row.length vn) (d:=y05 row.length (PyData.int no)) (z7k (Is.same (g.more f1).old _ _ iv) _)
  refine CNx.mk ⟨rv ++ [l1],vals ++ [y05 row.length vn],by rw [y0g]; rfl,?_,by rw [y0f,rl]; rfl,fun r hr'=>?_⟩ hj
  ·rw [z0d hSj]
   unfold z54 at g1 ⊢
   rw [y0g,y0g]
   simpa using g1
  ·rcases y13.mp hr' with z | z
   ·exact rn r z
   ·rw [y0e.mp z]
    exact z2z ((g.more f1).same) hl1
 rintro ys H1 ⟨rv,vals,rfl,g,rl,rn⟩ l hl
 rw [rsl,y08 (y0a _)] at g
 have f1:=z03 hl (.lst (rv.map V.ref))
 have kl:=z01 (H:=H1) (a:=l) (o:=.lst (rv.map V.ref))
 have lrv:l ∉ rv:=fun z=>by
  obtain⟨v,hv⟩:=g.here z
  rw [hl] at hv
  cases hv
 have g2:=(g.more f1).rebase
 have sB:Same H (z6v (upd H1 l (.lst (rv.map V.ref))) rv):=(g.more f1).old
 have hln:=z2z g.same hl
 have kb:z6v (upd H1 l (.lst (rv.map V.ref))) rv l=some (.lst (rv.map V.ref)):=by rw [zbp lrv]; exact kl
 generalize upd H1 l (.lst (rv.map V.ref))=H2 at g2 sB kl kb ⊢
 generalize z6v H2 rv=Hb at g2 sB kb
 clear g f1 hl kl
 refine⟨false,false,⟨_,SqL.of (g2.same _ _ (sB _ _ hca))⟩,⟨_,SqL.of (g2.same _ _ (sB _ _ hsa))⟩,?_⟩
 refine zau (xs:=cs) (ys:=sv) L.length (by rw [csl,svl,y4o]) (fun i σ' H'=>∃t5 t6 t7 t8 t9 vals,σ' = [some (.ref ad),some (.ref ac),some (.ref as),some vn,some (.ref l),t5,t6,t7,t8,t9]∧Rw K Hb H' rv vals (((((L.take i).zip (sss.take i)).flatMap fun x=>z5f drs x.1 x.2).foldl PM.putT (z54 drs no)).map fun r=>r.map fun z:Int=>PyData.int z)) ⟨_,_,_,_,_,vals,rfl,g2⟩ ?_ ?_ ?_
 ·rintro i σ' H' _ ⟨t5,t6,t7,t8,t9,vals,rfl,g⟩
  exact⟨SqL.of (g.same _ _ (sB _ _ hca)),SqL.of (g.same _ _ (sB _ _ hsa))⟩
 ·rintro i x y σ' H' pt hx hy ⟨t5,t6,t7,t8,t9,vals,rfl,g⟩ hpt
  have hi:=(y00.mp hx).1
  have hc1:L[i]?=some (L[i]'(by omega)):=y01 _
  generalize L[i]'(by omega)=c at hc1
  have hs1:sss[i]?=some (sss[i]'(by omega)):=y01 _
  generalize sss[i]'(by omega)=ss at hs1
  obtain⟨x',hx1,ix⟩:=z21 hcs (show(L.map z2h)[i]?=some (z2h c) by rw [y06,hc1]; rfl)
  rw [hx] at hx1
  cases hx1
  obtain⟨tc,ah,ax,rfl,k1,k2,k3⟩:=is_crowd.mp ix
  obtain⟨y',hy1,iy⟩:=z21 hsv (show(sss.map fun ss=>PyData.list (ss.map fun z:Int=>PyData.int z))[i]?=some (.list (ss.map fun z:Int=>PyData.int z)) by rw [y06,hs1]; rfl)
  rw [hy] at hy1
  cases hy1
  obtain⟨sa,vv,rfl,hsa1,hvv⟩:=is_list.mp iy
  obtain⟨hnd,hl20,cl20,cin⟩:=lok c (y02 hc1)
  have sl1:=sok i c ss hc1 hs1
  have vvl:vv.length=(z0j drs c.1 c.2).length:=by rw [z0i hvv,y04,sl1]
  have sT:=z03 hpt (.tup [.ref tc,.ref sa])
  have g1:=g.more sT
  have kT:=z01 (H:=H') (a:=pt) (o:=.tup [.ref tc,.ref sa])
  generalize upd H' pt (.tup [.ref tc,.ref sa])=H3 at g1 kT ⊢
  clear g sT hpt
  walk_at "run"
  refine⟨_,_,SqT.of kT,?_⟩
  walk_at "run"
  refine⟨ad,.ref tc,drs,c.1,c.2,rfl,Is.same (sB.trans g1.same) _ _ id,Is.same (sB.trans g1.same) _ _ ix,hnd,hl20,cl20,drow,cin,fun vt H4 s4 it ⟨lt,e1,nlt⟩=>?_⟩
  subst e1
  obtain⟨_,tv,e0,hlt,htv⟩:=is_list.mp it
  cases e0
  have g3:=g1.more s4
  have ltr:lt ∉ rv:=fun z=>by
   obtain⟨v,hv⟩:=g1.here z
   rw [nlt] at hv
   cases hv
  have tvl:tv.length=(z0j drs c.1 c.2).length:=by rw [z0i htv,y04]
  have g4:=g3.rebase
  have sC:Same Hb (z6v H4 rv):=g3.old
  have htv':=g3.prs htv
  have hlt':z6v H4 rv lt=some (.lst tv):=by rw [zbp ltr]; exact hlt
  generalize z6v H4 rv=Hc at g4 sC htv' hlt'
  clear g1 g3 s4 nlt hlt htv it kT
  have sA:=sB.trans sC
  refine⟨false,false,⟨_,SqL.of (g4.same _ _ hlt')⟩,⟨_,SqL.of (g4.same _ _ (sA _ _ hsa1))⟩,?_⟩
  generalize hR0:(((L.take i).zip (sss.take i)).flatMap fun x=>z5f drs x.1 x.2).foldl PM.putT (z54 drs no)=R0 at g4
  refine zau (xs:=tv) (ys:=vv) (z0j drs c.1 c.2).length (by rw [tvl,vvl,y4o]) (fun j σ' H'=>∃t7 t8 t9 vals,σ' = [some (.ref ad),some (.ref ac),some (.ref as),some vn,some (.ref l),some (.ref tc),some (.ref sa),t7,t8,t9]∧Rw K Hc H' rv vals ((((z5f drs c ss).take j).foldl PM.putT R0).map fun r=>r.map fun z:Int=>PyData.int z)) ⟨_,_,_,_,rfl,by simpa using g4⟩ ?_ ?_ ?_
  ·rintro j σ' H' _ ⟨t7,t8,t9,vals,rfl,g⟩
   exact⟨SqL.of (g.same _ _ hlt'),SqL.of (g.same _ _ (sA _ _ hsa1))⟩
  ·rintro j x y σ' H' pt hx hy ⟨t7,t8,t9,vals,rfl,g⟩ hpt
   have hj:=(y00.mp hx).1
   have ht1:(z0j drs c.1 c.2)[j]?=some ((z0j drs c.1 c.2)[j]'(by omega)):=y01 _
   generalize (z0j drs c.1 c.2)[j]'(by omega)=tp at ht1
   have ha1:ss[j]?=some (ss[j]'(by omega)):=y01 _
   generalize ss[j]'(by omega)=am at ha1
   obtain⟨x',hx1,ix⟩:=z21 htv' (show((z0j drs c.1 c.2).map pr)[j]?=some (pr tp) by rw [y06,ht1]; rfl)
   rw [hx] at hx1
   cases hx1
   obtain⟨pa,rfl,hpa⟩:=(is_frac (n:=(tp.1:Int)) (d:=(tp.2:Int))).mp ix
   obtain⟨y',hy1,iy'⟩:=z21 hvv (show(ss.map fun z:Int=>PyData.int z)[j]?=some (PyData.int am) by rw [y06,ha1]; rfl)
   rw [hy] at hy1
   cases hy1
   obtain⟨x0,h0,hx0,hh0,hin⟩:=(z1u hnd tp.1 tp.2).mp (y02 ht1)
   have xlt:x0<drs.length:=cin x0 (y02 hx0)
   have hrow:drs[x0]?=some (z2k drs x0):=by
    unfold z2k
    rw [y07,y01 xlt]
    rfl
   obtain⟨ra,hra1,hra⟩:=z46 hrs hrow
   have rx:rv[x0]?=some (rv[x0]'(by omega)):=y01 _
   generalize rv[x0]'(by omega)=r0 at rx
   have vx:vals[x0]?=some (vals[x0]'(by rw [g.len]; omega)):=y01 _
   generalize vals[x0]'(by rw [g.len]; omega)=v0 at vx
   have htr:(z5f drs c ss)[j]?=some (x0,(z2k drs x0).idxOf h0,am):=by
    unfold z5f
    rw [y06,(y0u (z:=(tp,am))).mpr ⟨ht1,ha1⟩]
    show some (c.2.getD tp.1 0,(z2k drs (c.2.getD tp.1 0)).idxOf (c.1.getD tp.2 0),am)=_
    rw [PM.getD_of hx0,PM.getD_of hh0]
   have sT:=z03 hpt (.tup [.ref pa,y])
   have g1:=g.more sT
   have kT:=z01 (H:=H') (a:=pt) (o:=.tup [.ref pa,y])
   generalize upd H' pt (.tup [.ref pa,y])=H5 at g1 kT ⊢
   clear g sT hpt
   have sH:=sA.trans g1.same
   have Rl:((((z5f drs c ss).take j).foldl PM.putT R0)).length=rv.length:=by have:=g1.dlen; rw [y04] at this; exact this
   generalize hR1:(((z5f drs c ss).take j).foldl PM.putT R0)=R1 at g1 Rl
   have dx:(R1.map fun r=>r.map fun z:Int=>PyData.int z)[x0]?=some ((R1.getD x0 []).map fun z:Int=>PyData.int z):=by
    rw [y06,y07,y01 (by omega)]
    rfl
   have al0:=g1.all x0 v0 _ vx dx
   have vl0:v0.length=(z2k drs x0).length:=by
    rw [z0i al0,y04,←hR1,←hR0,←y3y]
    refine(zcg _ _ (fun t ht=>?_) (zb5 drs no)).2 x0 xlt
    have one:∀{c:PM.Cr} {ss:List Int},c∈L→t∈z5f drs c ss→t.1<drs.length:=fun {c ss} hc ht=>by
     obtain⟨n1,_,_,ci⟩:=lok c hc
     obtain⟨_,_,x,_,_,z1,_,_,z2,_⟩:=z4b n1 ht
     rw [z2]
     exact ci x (y02 z1)
    rcases y13.mp ht with z | z
    ·obtain⟨u,hu,hu2⟩:=y38.mp z
     exact one (y5t (y1i hu).1) hu2
    ·exact one (y02 hc1) (y5t z)
   have klt:=y1m hin
   have st:=SqT.of (K:=K) (g1.same _ _ hpa)
   have sc:=SqT.of (K:=K) (sH _ _ k1)
   walk_at "run"
   refine⟨_,_,SqT.of kT,?_⟩
   walk_at "run"
   refine⟨_,_,.inr sc,rfl,_,_,.inr st,rfl,_,_,.inl (SqL.of (sH _ _ k3)),zma hx0,?_⟩
   walk_at "run"
   refine⟨_,_,.inl (SqL.of (g1.same _ _ (sC _ _ kb))),z28 (show(rv.map V.ref)[x0]?=some (.ref r0) by rw [y06,rx]; rfl),_,_,.inl (SqL.of (sH _ _ hda)),z28 hra1,⟨_,sH _ _ hra⟩,_,_,.inr sc,rfl,_,_,.inr st,rfl,_,_,.inl (SqL.of (sH _ _ k2)),zma hh0,(z2k drs x0).map fun (n:Nat)=>(n:Int),by rw [sH _ _ hra,z8n],y1h.mpr ⟨h0,hin,rfl⟩,fun k hk _=>?_⟩
   have ek:=z4o (dnd _ (y02 hrow)) (zn0 hk)
   refine⟨v0,k,g1.at_ x0 r0 v0 rx vx,z33 (by rw [vl0,←ek]; exact klt),?_⟩
   refine⟨_,_,_,vals.set x0 (v0.set k y),rfl,?_⟩
   have g2:=g1.set rx vx (z76 (i:=k) al0 (Is.same (sA.trans g1.old) _ _ iy'))
   rw [z0d htr,y3y,y3m,List.foldl_nil,hR1,zku (by omega),ek]
   exact g2
  ·rintro σ' H' ⟨t7,t8,t9,vals,rfl,g⟩
   refine⟨_,_,_,_,_,vals,rfl,?_⟩
   rw [show(z5f drs c ss).take (z0j drs c.1 c.2).length=z5f drs c ss from y08 (by unfold z5f; rw [y04,y5p]; omega),←hR0,←y3y] at g
   have e:(((L.take (i+1)).zip (sss.take (i+1))).flatMap fun x=>z5f drs x.1 x.2)=(((L.take i).zip (sss.take i)).flatMap fun x=>z5f drs x.1 x.2)++z5f drs c ss:=by
    rw [z0d hc1,z0d hs1,y5o (by rw [y0v,y0v]; omega),y60]
    simp
   rw [e]
   exact g.base sC
 ·rintro σ' H' ⟨t5,t6,t7,t8,t9,vals,rfl,g⟩
  rw [show L.take L.length=L from y08 (y0a _),show sss.take L.length=sss from y08 (by omega)] at g
  walk_at "run"
  refine q l rv H' ⟨sB.trans g.same,hln,g.same _ _ kb,fun r hr'=>⟨rn r hr',fun z=>lrv (z▸hr')⟩,by have:=g.dlen; rw [y04] at this; exact this.symm,fun i r row h1 h2=>?_⟩
  have hv:vals[i]?=some (vals[i]'(by rw [g.len]; exact(y00.mp h1).1)):=y01 _
  unfold z36 at h2
  exact⟨_,g.at_ i r _ h1 hv,IsAll.same zcu _ _ (g.all i _ _ hv (by rw [y06,h2]; rfl))⟩
abbrev z25:Stmt:=top 21
theorem sc_deal_pieces:FnScope ["works","doers","many","crowds","sents"] ["works","doers","many"] (z05 z25):=⟨rfl,rfl,rfl,by decide +kernel,rfl,by decide +kernel,by decide +kernel⟩
theorem z89 (T:Top K mg "deal_pieces" z25 ["works","doers","many"])(B:Blt mg)(D_crowds_by:Def P w K mg base "crowds_by" 10 ["works","doers","many"] (z9i K))(D_pieces_in:Def P w K mg base "pieces_in" 9 ["works","doers","crowd"] (z8f K))(D_rows_from:Def P w K mg base "rows_from" 2 ["doers","crowds","sents","nothing"] (zh2 K (fun z:Int=>PyData.int z))):Def P w K mg base "deal_pieces" 11 ["works","doers","many"] (zce K):=by
 refine z1x (k:=10) T sc_deal_pieces (fun vs H Q E h=>?_) (fun f cdv A outer s H vs Q E hr h=>?_)
 ·obtain⟨aw,ad,many,ws,drs,rfl,_⟩:=h
  rfl
 obtain⟨aw,ad,many,ws,drs,rfl,ask,dk,dnd,q⟩:=h
 have few:=ask.few
 refine⟨_,(z02 (z0c 3 sc_deal_pieces.nd (z0k D_crowds_by (hr.mono (by decide)) (z00 (cv 0) (z00 (cv 1) (z00 (cv 2) z04)))))
   (z02 (z7w (N:=["crowd","works","doers"]) (fr:=[0,1]) 4 1 sc_deal_pieces.nd (z1o (cv 3)) (fun C hN=>by exact pgC ((z0b 0 hN)) (by walk_at "c")) (fun C hN=>by exact peC ((z0k D_pieces_in (hr.mono (by decide)) (z00 (cv 1) (z00 (cv 2) (z00 (cv 0) z04))))) (by walk_at "c")))
   (z08 (z0s (z0k D_rows_from (hr.mono (by decide)) (z00 (cv 1) (z00 (cv 3) (z00 (cv 4) (z00 z07 z04))))))))),?_⟩
 refine rd (σ':=[some (.ref aw),some (.ref ad),some (.int (many:Int)),none,none]) rfl ?_
 walk_at "run"
 refine⟨aw,ad,many,ws,drs,rfl,ask,dk,fun L c1 c2 c3 vl H1 s1 il=>?_⟩
 have co:CrOk ws drs many L:=⟨c1,c2,c3⟩
 have lfew:=co.few dk.few
 obtain⟨al,lv,rfl,hal,hlv⟩:=is_list.mp il
 have lvl:lv.length=L.length:=by rw [z0i hlv,y04]
 walk_at "run"
 refine .inl ⟨⟨_,SqL.of hal⟩,?_⟩
 refine cgo (σ':=[none,some (.ref aw),some (.ref ad)]) rfl ?_
 refine z1j (xs:=lv) (fun j ys H2=>Same H1 H2∧ys.length≤j∧∃sss:List (List Int),IsAll K H2 ys (sss.map fun ss=>PyData.list (ss.map fun z:Int=>PyData.int z))∧sss.length=j∧∀(i:Nat) c ss,L[i]?=some c→sss[i]?=some ss→PcOk ws drs c ss) ⟨Same.refl _,y0a _,[],z0q,rfl,fun i c ss _ z=>(by simp at z)⟩ (z0h (by omega)) ?_ ?_ ?_
 ·rintro j ys H2 _ ⟨e2,yl,_⟩
  exact⟨SqL.of (e2 _ _ hal),yl⟩
 ·rintro j x ys H2 hx ⟨e2,yl,sss,al2,sl2,sp⟩
  have hj:=(y00.mp hx).1
  have hc1:L[j]?=some (L[j]'(by omega)):=y01 _
  generalize L[j]'(by omega)=c at hc1
  obtain⟨x',hx1,ix⟩:=z21 hlv (show(L.map z2h)[j]?=some (z2h c) by rw [y06,hc1]; rfl)
  rw [hx] at hx1
  cases hx1
  walk_at "run"
  refine z86 ⟨aw,ad,x,ws,drs,c,rfl,ask.same (s1.trans e2),Is.same e2 _ _ ix,co.crowdP dk.few few (y02 hc1),fun l ss H3 pk s3 k3=>?_⟩
  refine CNx.mk ⟨e2.trans s3,by rw [y0f]; show _+1≤_; omega,sss ++ [ss],?_,by rw [y0f,sl2]; rfl,fun i c' ss' h1 h2=>?_⟩ hj
  ·rw [y0g]
   exact z26 (IsAll.same s3 _ _ al2) (is_list.mpr ⟨l,_,rfl,k3,z2u _⟩)
  ·rcases z48 h2 with z | ⟨z1,z2⟩
   ·exact sp i c' ss' h1 z
   ·subst z2
    rw [z1,sl2,hc1] at h1
    cases h1
    exact pk
 rintro ys H2 ⟨e2,yl,sss,al2,sl2,sp⟩ ls hls
 rw [lvl] at sl2
 have f3:=z03 hls (.lst ys)
 have sA:=s1.trans (e2.trans f3)
 have sB:=e2.trans f3
 walk_at "run"
 refine⟨ad,al,ls,.int 0,drs,L,sss,0,rfl,Is.same sA _ _ ask.d,Is.same sB _ _ il,is_list.mpr ⟨ls,ys,rfl,z01,IsAll.same f3 _ _ al2⟩,by simp only [Is],by rw [ask.len]; exact few,ask.row,dnd,lfew,fun c hc=>?_,sl2,fun i c ss h1 h2=>(sp i c ss h1 h2).len,fun l rv H4 t=>?_⟩
 ·have p:=co.crowdP dk.few few hc
  exact⟨p.nd,p.hl,p.cl,fun x hx=>by rw [ask.len]; exact p.ci x hx⟩
 ·refine q L sss l rv H4 co sl2 sp ⟨sA.trans t.same,z2z sA t.new,t.out,fun r hr'=>⟨z2z sA (t.rows r hr').1,(t.rows r hr').2⟩,t.len,t.at_⟩
abbrev z4z:Stmt:=top 26
theorem zer:FnScope ["_law_found"] ["_law_found"] (z05 z4z):=⟨rfl,rfl,rfl,by decide +kernel,rfl,by decide +kernel,by decide +kernel⟩
theorem zgp (T:Top K mg "_law_whole" z4z ["_law_found"])(B:Blt mg) :Def P w K mg base "_law_whole" 1 ["_law_found"] (z3l):=by
 refine z1x (k:=0) T zer (fun vs H Q E h=>?_) (fun f cdv A outer s H vs Q E hr h=>?_)
 ·unfold z3l at h
  split at h
  ·rfl
  ·rfl
  ·exact h.elim
 refine⟨_,(z08 (z0s (z9p (z47 z22 B.isinstance z23 (z00 (cv 0) (z00 (zdw B.int zj4) z04))) (z7u (zjf (z47 z22 B.isinstance z23 (z00 (cv 0) (z00 (zdw B.bool zgt) z04)))))))),?_⟩
 unfold z3l at h
 split at h
 ·rename_i z
  refine rd (σ':=[some (.int z)]) rfl ?_
  walk_at "run"
  exact⟨by decide,z86 ⟨by decide,h⟩⟩
 ·rename_i z
  refine rd (σ':=[some (.bl z)]) rfl ?_
  walk_at "run"
  exact⟨by decide,z86 ⟨by decide,h⟩⟩
 ·exact h.elim
abbrev z6j:Stmt:=top 30
theorem sc_Lrows:FnScope ["_law_pieces","_law_works","_law_doers","_law_work_here","_law_row_here","_law_some","_law_number"] ["_law_pieces","_law_works","_law_doers"] (z05 z6j):=⟨rfl,rfl,rfl,by decide +kernel,rfl,by decide +kernel,by decide +kernel⟩
theorem ziz (T:Top K mg "_law_rows" z6j ["_law_pieces","_law_works","_law_doers"])(B:Blt mg)(D_Lwhole:Def P w K mg base "_law_whole" 1 ["_law_found"] (z3l)):Def P w K mg base "_law_rows" 2 ["_law_pieces","_law_works","_law_doers"] (zfd K):=by
 refine z1x (k:=1) T sc_Lrows (fun vs H Q E h=>?_) (fun f cdv A outer s H vs Q E hr h=>?_)
 ·obtain⟨ap,aw,ad,ws,drs,R,rfl,_⟩:=h
  rfl
 obtain⟨ap,aw,ad,ws,drs,R,rfl,ask,ip,rl,rk,q⟩:=h
 obtain⟨_,rs,e0,hda,hrs⟩:=is_list.mp ask.d
 cases e0
 obtain⟨_,pv,e0,hpa,hpv⟩:=is_list.mp ip
 cases e0
 have few:=ask.few
 have dl:=ask.len
 have rsl:rs.length=drs.length:=by rw [z0i hrs,y04]
 have pvl:pv.length=drs.length:=by rw [z0i hpv,y04,rl]
 refine⟨_,(z02 (z3k (zbn (z51 (z3r (z47 z22 B.isinstance z23 (z00 (cv 0) (z00 (zdw B.list z4r) z04))))) (z8s (z0y zkl (z47 z1z B.len y18 (z00 (cv 0) z04)) (z47 z1z B.len y18 (z00 (cv 1) z04)) (z0r _)))).pt
   (z08 (z0s z9m))
   z1r)
   (z02 (z1w (zky B.zip (cv 1) (cv 2) (cv 0)) (zn6 (z0b 3 sc_Lrows.nd) (z0b 4 sc_Lrows.nd) (z0b 5 sc_Lrows.nd))
   (z02 (z3k (zbn (z51 (z3r (z47 z22 B.isinstance z23 (z00 (cv 5) (z00 (zdw B.list z4r) z04))))) (z8s (z0y zkl (z47 z1z B.len y18 (z00 (cv 5) z04)) (z47 z1z B.len y18 (z00 (cv 4) z04)) (z0r _)))).pt
    (z08 (z0s z9m))
    z1r)
    (z02 (z1w (z1o (cv 5)) (z0b 6 sc_Lrows.nd)
    (z08 (z3k (zbn (z51 (z3r (z0k D_Lwhole (hr.mono (by decide)) (z00 (cv 6) z04)))) (z8s (z0y za8 (cv 6) z07 (z0r _)))).pt
     (z08 (z0s z9m))
     z1r)))
    (z08 (z3k (z0y zkl (z47 zjj B.sum zj6 (z00 (cv 5) z04)) (cv 3) (z0r _))
    (z08 (z0s z9m))
    z1r)))))
   (z08 (z0s z9m)))),?_⟩
 refine rd (σ':=[some (.ref ap),some (.ref aw),some (.ref ad),none,none,none,none]) rfl ?_
 walk_at "run"
 rw [hpa]
 walk_at "run"
 refine⟨by decide,zan ⟨_,.inl (SqL.of hpa),_,.inl (SqL.of ask.w),?_⟩⟩
 rw [pvl,y04,dl]
 refine zk3 rfl ?_
 walk_at "run"
 refine⟨false,false,false,⟨_,SqL.of ask.w⟩,⟨_,SqL.of hda⟩,⟨_,SqL.of hpa⟩,?_⟩
 refine zlp (xs:=ws.map V.int) (ys:=rs) (ws:=pv) ws.length (by rw [y04]) (by omega) (by omega) (fun i σ' H'=>Same H H'∧∃t3 t4 t5 t6,σ' = [some (.ref ap),some (.ref aw),some (.ref ad),t3,t4,t5,t6]) ⟨Same.refl _,_,_,_,_,rfl⟩ ?_ ?_ ?_
 ·rintro i σ' H' _ ⟨s1,_⟩
  exact⟨SqL.of (s1 _ _ ask.w),SqL.of (s1 _ _ hda),SqL.of (s1 _ _ hpa)⟩
 ·rintro i x y z σ' H' pt hx hy hz ⟨s1,t3,t4,t5,t6,rfl⟩ hpt
  obtain⟨w,hw,rfl⟩:=zac hx
  have hi:=(y00.mp hw).1
  have hr1:drs[i]?=some (drs[i]'(by omega)):=y01 _
  have hs1:R[i]?=some (R[i]'(by omega)):=y01 _
  generalize drs[i]'(by omega)=r at hr1
  generalize R[i]'(by omega)=s at hs1
  obtain⟨ra,hra1,hra⟩:=z46 hrs hr1
  rw [hy] at hra1
  cases hra1
  obtain⟨z',hz1,iz⟩:=z21 hpv (show(R.map fun r=>PyData.list (r.map fun z:Int=>PyData.int z))[i]?=some (.list (s.map fun z:Int=>PyData.int z)) by rw [y06,hs1]; rfl)
  rw [hz] at hz1
  cases hz1
  obtain⟨sa,rfl,hsa⟩:=zh4 iz
  obtain⟨k1,k2,k3⟩:=rk i r s hr1 hs1
  have sT:=z03 hpt (.tup [.int w,.ref ra,.ref sa])
  have s2:=s1.trans sT
  have kT:=z01 (H:=H') (a:=pt) (o:=.tup [.int w,.ref ra,.ref sa])
  generalize upd H' pt (.tup [.int w,.ref ra,.ref sa])=H2 at s2 kT ⊢
  have hsa2:=s2 _ _ hsa
  walk_at "run"
  refine⟨_,_,_,SqT.of kT,?_⟩
  walk_at "run"
  rw [hsa2]
  walk_at "run"
  refine⟨by decide,zan ⟨_,.inl (SqL.of hsa2),_,.inl (SqL.of (s2 _ _ hra)),?_⟩⟩
  rw [y04,z0g,k1]
  refine zk3 rfl (.inl ⟨⟨_,SqL.of hsa2⟩,?_⟩)
  refine z3f (xs:=s.map V.int) (fun j σ' H'=>H'=H2∧∃t6,σ' = [some (.ref ap),some (.ref aw),some (.ref ad),some (.int w),some (.ref ra),some (.ref sa),t6]) ⟨rfl,_,rfl⟩ ?_ ?_ ?_
  ·rintro j σ' H' _ ⟨rfl,_⟩
   exact SqL.of hsa2
  ·rintro j x σ' H' hx ⟨rfl,t6,rfl⟩
   obtain⟨u,hu,rfl⟩:=zac hx
   have u0:=k3 u (y02 hu)
   walk_at "run"
   refine zan ?_
   rw [decide_eq_false (show ¬u<0 by omega)]
   exact zan ⟨rfl,_,rfl⟩
  rintro σ' H' ⟨rfl,t6,rfl⟩
  walk_at "run"
  refine⟨s,SqL.of hsa2,?_⟩
  have ew:ws.getD i 0=w:=by rw [y07,hw]; rfl
  rw [k2,ew]
  exact zk3 rfl ⟨s2,_,_,_,_,rfl⟩
 ·rintro σ' H' ⟨s1,t3,t4,t5,t6,rfl⟩
  walk_at "run"
  exact q H' s1
abbrev z8z:Stmt:=top 31
theorem sc_Lgot:FnScope ["_law_pieces","_law_doers","_law_many","_law_found","_law_row_here","_law_some","_law_hand","_law_number"] ["_law_pieces","_law_doers","_law_many"] (z05 z8z):=⟨rfl,rfl,rfl,by decide +kernel,rfl,by decide +kernel,by decide +kernel⟩
theorem zli (T:Top K mg "_law_got" z8z ["_law_pieces","_law_doers","_law_many"])(B:Blt mg) :Def P w K mg base "_law_got" 1 ["_law_pieces","_law_doers","_law_many"] (zju K):=by
 refine z1x (k:=0) T sc_Lgot (fun vs H Q E h=>?_) (fun f cdv A outer s H vs Q E hr h=>?_)
 ·obtain⟨ap,ad,many,drs,R,rfl,_⟩:=h
  rfl
 obtain⟨ap,ad,many,drs,R,rfl,idd,ip,rl,rk,hlt,m20,q⟩:=h
 obtain⟨_,rs,e0,hda,hrs⟩:=is_list.mp idd
 cases e0
 obtain⟨_,pv,e0,hpa,hpv⟩:=is_list.mp ip
 cases e0
 have rsl:rs.length=drs.length:=by rw [z0i hrs,y04]
 have pvl:pv.length=drs.length:=by rw [z0i hpv,y04,rl]
 refine⟨_,(z02 (z0c 3 sc_Lgot.nd (z0o z35 (z19 (z00 z07 z04)) (cv 2)))
   (z02 (z1w (z6c B.zip (cv 1) (cv 0)) (z6u (z0b 4 sc_Lgot.nd) (z0b 5 sc_Lgot.nd))
   (z08 (z1w (z6c B.zip (cv 4) (cv 5)) (z6u (z0b 6 sc_Lgot.nd) (z0b 7 sc_Lgot.nd))
    (z08 (z8v (z0o z30 (z0m z0l (cv 3) (cv 6) (fun _ _=>rfl)) (cv 7)) (zav (cv 3) (cv 6) z4e))))))
   (z08 (z0s (cv 3))))),?_⟩
 refine rd (σ':=[some (.ref ap),some (.ref ad),some (.int (many:Int)),none,none,none,none,none]) rfl ?_
 walk_at "run"
 refine⟨sz (by show 1≤1000; decide),fun l0 hl0=>?_⟩
 have w1:=z03 hl0 (.lst [.int 0])
 refine⟨_,z01,by omega,by omega,sz (by show 1*_≤1000; omega),fun l hl=>?_⟩
 rw [z2x,show((many:Int)).toNat=many by omega]
 have hln:=z2z w1 hl
 have w2:=w1.trans (z03 hl (.lst (y05 many (V.int 0))))
 have kl:upd (upd H l0 (.lst [.int 0])) l (.lst (y05 many (V.int 0))) l=some (.lst ((y05 many (0:Int)).map V.int)):=by rw [z01,y2o]
 generalize upd (upd H l0 (.lst [.int 0])) l (.lst (y05 many (V.int 0)))=H1 at w2 kl ⊢
 clear w1 hl hl0
 have bag0:∀(h:Nat) z,(y05 many (0:Int))[h]?=some z→z=zdt id (z69 (drs.take 0) (R.take 0)) h:=fun h z hz=>by
  rw [y1f] at hz
  split at hz
  ·cases hz
   simp [z69,zdt]
  ·cases hz
 refine⟨false,false,⟨_,SqL.of (w2 _ _ hda)⟩,⟨_,SqL.of (w2 _ _ hpa)⟩,?_⟩
 refine zau (xs:=rs) (ys:=pv) drs.length (by rw [rsl,pvl,y4o]) (fun i σ' H'=>∃t4 t5 t6 t7 fs,σ' = [some (.ref ap),some (.ref ad),some (.int (many:Int)),some (.ref l),t4,t5,t6,t7]∧Same H H'∧H' l=some (.lst (fs.map V.int))∧fs.length=many∧∀(h:Nat) z,fs[h]?=some z→z=zdt id (z69 (drs.take i) (R.take i)) h) ⟨_,_,_,_,_,rfl,w2,kl,y0x,bag0⟩ ?_ ?_ ?_
 ·rintro i σ' H' _ ⟨t4,t5,t6,t7,fs,rfl,s1,_⟩
  exact⟨SqL.of (s1 _ _ hda),SqL.of (s1 _ _ hpa)⟩
 ·rintro i x y σ' H' pt hx hy ⟨t4,t5,t6,t7,fs,rfl,s1,kf,fl,fb⟩ hpt
  have hi:=(y00.mp hx).1
  have hr1:drs[i]?=some (drs[i]'(by omega)):=y01 _
  have hs1:R[i]?=some (R[i]'(by omega)):=y01 _
  generalize drs[i]'(by omega)=r at hr1
  generalize R[i]'(by omega)=s at hs1
  obtain⟨ra,hra1,hra⟩:=z46 hrs hr1
  rw [hx] at hra1
  cases hra1
  obtain⟨z',hz1,iz⟩:=z21 hpv (show(R.map fun r=>PyData.list (r.map fun z:Int=>PyData.int z))[i]?=some (.list (s.map fun z:Int=>PyData.int z)) by rw [y06,hs1]; rfl)
  rw [hy] at hz1
  cases hz1
  obtain⟨sa,rfl,hsa⟩:=zh4 iz
  have k1:=rk i r s hr1 hs1
  have sT:=z03 hpt (.tup [.ref ra,.ref sa])
  have s2:=s1.trans sT
  have kf2:=sT _ _ kf
  have kT:=z01 (H:=H') (a:=pt) (o:=.tup [.ref ra,.ref sa])
  generalize upd H' pt (.tup [.ref ra,.ref sa])=H2 at s2 kT kf2 ⊢
  walk_at "run"
  refine⟨_,_,SqT.of kT,?_⟩
  walk_at "run"
  refine⟨false,false,⟨_,SqL.of (s2 _ _ hra)⟩,⟨_,SqL.of (s2 _ _ hsa)⟩,?_⟩
  refine zau (xs:=z0a r) (ys:=s.map V.int) r.length (by rw [z0g,y04,k1,y4o]) (fun j σ' H'=>∃t6 t7 fs,σ' = [some (.ref ap),some (.ref ad),some (.int (many:Int)),some (.ref l),some (.ref ra),some (.ref sa),t6,t7]∧Same H H'∧H' l=some (.lst (fs.map V.int))∧fs.length=many∧∀(h:Nat) z,fs[h]?=some z→z=zdt id (z69 (drs.take i) (R.take i)++(r.zip s).take j) h) ⟨_,_,fs,rfl,s2,kf2,fl,by simpa using fb⟩ ?_ ?_ ?_
  ·rintro j σ' H' _ ⟨t6,t7,fs,rfl,s1,_⟩
   exact⟨SqL.of (s1 _ _ hra),SqL.of (s1 _ _ hsa)⟩
  ·rintro j x y σ' H' pt hx hy ⟨t6,t7,fs,rfl,s1,kf,fl,fb⟩ hpt
   obtain⟨h,hh,rfl⟩:=z31 hx
   obtain⟨u,hu,rfl⟩:=zac hy
   have hl1:=hlt r (y02 hr1) h (y02 hh)
   have zt:(r.zip s)[j]?=some (h,u):=(y0u (z:=(h,u))).mpr ⟨hh,hu⟩
   have sT:=z03 hpt (.tup [.int (h:Int),.int u])
   have s3:=s1.trans sT
   have kf3:=sT _ _ kf
   have kT:=z01 (H:=H') (a:=pt) (o:=.tup [.int (h:Int),.int u])
   generalize upd H' pt (.tup [.int (h:Int),.int u])=H3 at s3 kT kf3 ⊢
   walk_at "run"
   refine⟨_,_,SqT.of kT,?_⟩
   walk_at "run"
   refine⟨_,_,.inl (SqL.of kf3),zhk (by omega),?_⟩
   walk_at "run"
   refine⟨_,h,kf3,z33 (by rw [y04]; omega),?_⟩
   refine⟨_,_,fs.set h (fs.getD h 0+u),rfl,fun b o hb=>?_,by rw [z01,y2b],by rw [y22]; exact fl,fun g z hz=>?_⟩
   ·rw [z09 (z06 hb hln)]
    exact s3 _ _ hb
   ·rw [z0d zt,←y2z,zgs]
    by_cases c:h=g
    ·subst c
     rw [y0t (by omega)] at hz
     cases hz
     rw [if_pos rfl,fb h _ (z0x (by omega))]
     rfl
    ·rw [y11 c] at hz
     rw [if_neg c,y5k]
     exact fb g z hz
  ·rintro σ' H' ⟨t6,t7,fs,rfl,s1,kf,fl,fb⟩
   rw [show(r.zip s).take r.length=r.zip s from y08 (by rw [y5p]; omega),←ze0 hr1 hs1] at fb
   exact⟨_,_,_,_,fs,rfl,s1,kf,fl,fb⟩
 ·rintro σ' H' ⟨t4,t5,t6,t7,fs,rfl,s1,kf,fl,fb⟩
  rw [show drs.take drs.length=drs from y08 (y0a _),show R.take drs.length=R from y08 (by omega)] at fb
  walk_at "run"
  exact q l fs H' fl fb s1 kf
abbrev zfi:Stmt:=top 32
theorem sc_law:FnScope ["_law_script","_law_works","_law_doers","_law_many","_law_handed","_law_loads","_law_time","_law_pieces","_law_number","_law_load","_law_some"] ["_law_script"] (z05 zfi):=⟨rfl,rfl,rfl,by decide +kernel,rfl,by decide +kernel,by decide +kernel⟩
theorem zmh {f:Addr}{fd:FuncData}(U:Fun K "law" "law" zfi f fd)(B:Blt mg)(D_Lcrowd:Def P w K mg base "_law_crowd" 3 ["_law_script"] (zh6 K))(D_loads_by:Def P w K mg base "loads_by" 12 ["works","doers","many"] (zg3 K))(D_deal_pieces:Def P w K mg base "deal_pieces" 11 ["works","doers","many"] (zce K))(D_Lrows:Def P w K mg base "_law_rows" 2 ["_law_pieces","_law_works","_law_doers"] (zfd K))(D_Lgot:Def P w K mg base "_law_got" 1 ["_law_pieces","_law_doers","_law_many"] (zju K)):FnOk P w K mg base CX0 13 f fd ["_law_script"] (zdz K):=by
 refine U.ok sc_law (fun vs H Q E h=>?_) (fun cdv A outer s H vs Q E hr h=>?_)
 ·obtain⟨a,ns,rfl,_⟩:=h
  rfl
 obtain⟨a,ns,rfl,hS,hlen,q⟩:=h
 refine⟨_,(z02 (z8v (z0k D_Lcrowd (hr.mono (by decide)) (z00 (cv 0) z04)) (zn6 (z0b 1 sc_law.nd) (z0b 2 sc_law.nd) (z0b 3 sc_law.nd)))
   (z02 (z0c 4 sc_law.nd (z19 (z00 (zly z7e B.list z4r (z00 (cv 1) z04)) (z00 (z3m (N:=["_law_row_here"]) (fr:=[]) 1 (z1o (cv 2)) (fun C hN=>by exact pgC ((z0b 0 hN)) (by walk_at "c")) (fun C hN=>by exact peC ((zly z7e B.list z4r (z00 (cv 0) z04))) (by walk_at "c"))) z04))))
   (z02 (z0c 5 sc_law.nd (z0k D_loads_by (hr.mono (by decide)) (z00 (zly z7e B.list z4r (z00 (cv 1) z04)) (z00 (z3m (N:=["_law_row_here"]) (fr:=[]) 1 (z1o (cv 2)) (fun C hN=>by exact pgC ((z0b 0 hN)) (by walk_at "c")) (fun C hN=>by exact peC ((zly z7e B.list z4r (z00 (cv 0) z04))) (by walk_at "c"))) (z00 (cv 3) z04)))))
   (z02 (z1w (zgz B.range (z00 z07 z04)) (z0b 6 sc_law.nd)
   (z02 (z0c 7 sc_law.nd (z0k D_deal_pieces (hr.mono (by decide)) (z00 (z0m z0l (cv 4) z07 (fun _ _=>rfl)) (z00 (z0m z0l (cv 4) z07 (fun _ _=>rfl)) (z00 (cv 3) z04)))))
    (z02 (z3k (z51 (z3r (z0k D_Lrows (hr.mono (by decide)) (z00 (cv 7) (z00 (cv 1) (z00 (cv 2) z04))))))
    (z08 (z0s z9m))
    z1r)
    (z02 (z1w (z6c B.zip (z0k D_Lgot (hr.mono (by decide)) (z00 (cv 7) (z00 (cv 2) (z00 (cv 3) z04)))) (cv 5)) (z6u (z0b 8 sc_law.nd) (z0b 9 sc_law.nd))
    (z08 (z3k (zbn (z0y zoe (z0o z35 (cv 8) (z0m z0l (cv 9) z07 (fun _ _=>rfl))) (z0o zjb (z0m z0l (cv 9) z07 (fun _ _=>rfl)) (z0m z0l (cv 9) z07 (fun _ _=>rfl))) (z0r _)) (z8s (z0y zi1 (z0o z35 (cv 8) (z0m z0l (cv 9) z07 (fun _ _=>rfl))) (z0o z30 (z0m z0l (cv 9) z07 (fun _ _=>rfl)) (z0m z0l (cv 9) z07 (fun _ _=>rfl))) (z0r _)))).pt
     (z08 (z0s z9m))
     z1r)))
    (z02 (z1w (z1o (cv 7)) (z0b 10 sc_law.nd)
    (z08 (z20 (zbk (cv 10)))))
    (z08 (z20 (z0z (cv 7) (z00 (z19 (z00 z07 z04)) z04)))))))))
   (z08 (z0s (z9p (z3o (zfr hr) (cv 4) (z19 (z00 (cv 1) (z00 (cv 2) z04))) (z0r _)) (z7u (z3o (zfr hr) (z0k D_deal_pieces (hr.mono (by decide)) (z00 (z19 z04) (z00 (z19 z04) (z00 (cv 3) z04)))) (z19 z04) (z0r _)))))))))),?_⟩
 refine rd (σ':=[some (.ref a),none,none,none,none,none,none,none,none,none,none]) rfl ?_
 walk_at "run"
 refine⟨a,ns,rfl,hS,hlen,fun p aw ad ws drs many H1 cr s1 kp=>?_⟩
 walk_at "run"
 refine⟨_,_,_,SqT.of kp,?_⟩
 have few:=cr.few
 have h12:=cr.h12
 have h0:=cr.h0
 have dl:=cr.ask.len
 have dk:DoOk ws drs many:=cr.rows.doOk rfl (by omega)
 have dnd:∀r∈drs,r.Nodup:=fun r hr=>z1p (cr.rows.2 r hr).2.1
 obtain⟨_,rs,e0,hda,hrs⟩:=is_list.mp cr.ask.d
 cases e0
 have rsl:rs.length=drs.length:=by rw [z0i hrs,y04]
 walk_at "run"
 refine⟨_,.inl (SqL.of cr.ask.w),fun bw hbw=>?_⟩
 have s2:=z03 hbw (.lst (ws.map V.int))
 have kw:=z01 (H:=H1) (a:=bw) (o:=.lst (ws.map V.int))
 generalize upd H1 bw (.lst (ws.map V.int))=H2 at s2 kw ⊢
 walk_at "run"
 refine .inl ⟨⟨_,SqL.of (s2 _ _ hda)⟩,?_⟩
 refine cgo (σ':=[none]) rfl ?_
 refine zd3 (s2 _ _ hda) (IsAll.same s2 _ _ hrs) (by omega) fun bd ys H4 s4 kd ad4=>?_
 have ask4:AsksC K H4 bw bd ws drs:=⟨s4 _ _ kw,is_list.mpr ⟨bd,ys,rfl,kd,ad4⟩,cr.ask.len,cr.ask.few,cr.ask.row,cr.ask.pos,cr.ask.bd⟩
 have s24:=s2.trans s4
 clear kw hbw kd ad4 s2 s4
 walk_at "run"
 refine⟨sz (by show 2≤1000; decide),fun lh hlh=>?_⟩
 have f5:=z03 hlh (.lst [.ref bw,.ref bd])
 have kh:=z01 (H:=H4) (a:=lh) (o:=.lst [.ref bw,.ref bd])
 replace ask4:=ask4.same f5
 have s25:=s24.trans f5
 generalize upd H4 lh (.lst [.ref bw,.ref bd])=H5 at kh ask4 s25 ⊢
 clear f5 hlh s24
 walk_at "run"
 refine⟨_,.inl (SqL.of (s25 _ _ cr.ask.w)),fun bw2 hbw2=>?_⟩
 have s6:=z03 hbw2 (.lst (ws.map V.int))
 have kw2:=z01 (H:=H5) (a:=bw2) (o:=.lst (ws.map V.int))
 generalize upd H5 bw2 (.lst (ws.map V.int))=H6 at s6 kw2 ⊢
 walk_at "run"
 refine .inl ⟨⟨_,SqL.of ((s25.trans s6) _ _ hda)⟩,?_⟩
 refine cgo (σ':=[none]) rfl ?_
 refine zd3 ((s25.trans s6) _ _ hda) (IsAll.same (s25.trans s6) _ _ hrs) (by omega) fun bd2 ys2 H7 s7 kd2 ad7=>?_
 have ask7:AsksC K H7 bw2 bd2 ws drs:=⟨s7 _ _ kw2,is_list.mpr ⟨bd2,ys2,rfl,kd2,ad7⟩,cr.ask.len,cr.ask.few,cr.ask.row,cr.ask.pos,cr.ask.bd⟩
 have s67:=s6.trans s7
 replace ask4:=ask4.same s67
 replace kh:=s67 _ _ kh
 have s27:=s25.trans s67
 clear kw2 hbw2 kd2 ad7 s6 s7 s67 s25
 walk_at "run"
 refine⟨bw2,bd2,many,ws,drs,rfl,ask7,dk,fun L ps qs co lo lk vf H8 s8 isf=>?_⟩
 have B:=zif co lo lk h0 dk.few ask7.pos ask7.bd ask7.few
 obtain⟨al,lv,rfl,hal,hlv⟩:=is_list.mp isf
 have lvl:lv.length=many:=by rw [z0i hlv,y04,B.len]
 replace ask4:=ask4.same s8
 replace kh:=s8 _ _ kh
 have s28:=s27.trans s8
 replace cr:=cr.same s28
 have sS:=s1.trans s28
 clear s27 s28 s8 ask7 hda hrs kp s1 isf
 walk_at "run"
 refine⟨⟨by decide,by decide⟩,?_⟩
 refine z9n (fun i σ' H'=>Same H8 H'∧∃t6 t7 t8 t9 t10,σ' = [some (.ref a),some (.ref aw),some (.ref ad),some (.int (many:Int)),some (.ref lh),some (.ref al),t6,t7,t8,t9,t10]) ⟨Same.refl _,_,_,_,_,_,rfl⟩ ?_ ?_
 ·rintro i σ' H' hi ⟨e1,t6,t7,t8,t9,t10,rfl⟩
  have askA:=ask4.same e1
  have askB:=cr.ask.same e1
  have kh1:=e1 _ _ kh
  walk_at "run"
  refine⟨_,_,.inl (SqL.of kh1),rfl,_,_,.inl (SqL.of kh1),rfl,bw,bd,many,ws,drs,rfl,askA,dk,dnd,fun L2 sss l rv H9 c2 sl pk t=>?_⟩
  have pc:=zmj c2 h0 dl dnd askA.pos sl pk co lo lk
  generalize z36 drs L2 sss 0=R at t pc
  clear c2 sl pk
  have e2:=e1.trans t.same
  walk_at "run"
  refine⟨l,aw,ad,ws,drs,R,rfl,cr.ask.same e2,t.is,pc.len,pc.row,fun H10 s10=>?_⟩
  walk_at "run"
  refine zan ⟨l,ad,many,drs,R,rfl,(cr.ask.same (e2.trans s10)).d,Is.same s10 _ _ t.is,pc.len,fun i r s h1 h2=>(pc.row i r s h1 h2).1,fun r hr=>(cr.rows.2 r hr).2.2,by omega,fun lf fs H11 fl fb s11 kf=>?_⟩
  have s12:=s10.trans s11
  have e3:=e2.trans s12
  walk_at "run"
  refine⟨false,false,⟨_,SqL.of kf⟩,⟨_,SqL.of (e3 _ _ hal)⟩,?_⟩
  refine zau (xs:=fs.map V.int) (ys:=lv) many (by rw [y04,fl,lvl,y4o]) (fun j σ' H'=>Same H11 H'∧∃t8 t9,σ' = [some (.ref a),some (.ref aw),some (.ref ad),some (.int (many:Int)),some (.ref lh),some (.ref al),some (.int (0+(i:Int))),some (.ref l),t8,t9,t10]) ⟨Same.refl _,_,_,rfl⟩ ?_ ?_ ?_
  ·rintro j σ' H' _ ⟨e4,_⟩
   exact⟨SqL.of (e4 _ _ kf),SqL.of ((e3.trans e4) _ _ hal)⟩
  ·rintro j x y σ' H' pt hx hy ⟨e4,t8,t9,rfl⟩ hpt
   obtain⟨u,hu,rfl⟩:=zac hx
   obtain⟨p,pa,hp,rfl,hpa⟩:=zhe (IsAll.same (e3.trans e4) _ _ hlv) hy
   have ok:=B.ok p (y02 hp)
   obtain⟨g1,g2⟩:=pc.got j p hp
   rw [←fb j u hu] at g1 g2
   have sT:=z03 hpt (.tup [.int u,.ref pa])
   have st:=SqT.of (K:=K) (sT _ _ hpa)
   have b20:=ok.2.2.1
   have b1:=ok.1.1
   have bp:Bd 6 p.2:=by show p.2.natAbs<2^6; omega
   have bu:Bd 420 u:=by
    have a1:p.1.natAbs<2^400:=ok.2.2.2
    have u0:-1<u:=by
     refine y2d (a:=p.2) ?_ (by omega)
     rw [y55,y5z]
     have:=ok.2.1
     omega
    have u1:u≤u*p.2:=by
     have:=y1v b1 (show 0≤u by omega)
     rw [y3u] at this
     exact this
    show u.natAbs<2^420
    have e:(2:Nat)^420=2^20*2^400:=by rw [←Nat.pow_add]
    rw [e]
    generalize (2:Nat)^400=z at *
    omega
   walk_at "run"
   refine⟨_,_,SqT.of z01,?_⟩
   walk_at "run"
   refine⟨_,_,.inr st,rfl,zbv bu bp (by decide),_,_,.inr st,rfl,_,_,.inr st,rfl,?_⟩
   walk_at "run"
   rw [decide_eq_false (show ¬u*p.2≤p.1 - p.2 by omega)]
   refine zan ⟨_,_,.inr st,rfl,zbv bu bp (by decide),_,_,.inr st,rfl,_,_,.inr st,rfl,?_⟩
   walk_at "run"
   rw [decide_eq_false (show ¬p.1+p.2≤u*p.2 by omega)]
   exact zan ⟨e4.trans sT,_,_,rfl⟩
  rintro σ' H12 ⟨e4,t8,t9,rfl⟩
  have s14:=s12.trans e4
  walk_at "run"
  refine .inl ⟨⟨_,SqL.of (s14 _ _ t.out)⟩,?_⟩
  have lists:∀r∈rv,∃v,H12 r=some (.lst v):=fun r hr=>by
   obtain⟨k,hk⟩:=y09 hr
   have hkl:=(y00.mp hk).1
   obtain⟨v,hv,_⟩:=t.at_ k r _ hk (y01 (by rw [←t.len]; exact hkl))
   exact⟨v,s14 _ _ hv⟩
  refine z3f (xs:=rv.map V.ref) (fun j σ' H2=>Same H' H2∧H2 l=some (.lst (rv.map V.ref))∧(∀r∈rv,∃v,H2 r=some (.lst v))∧∃t10,σ' = [some (.ref a),some (.ref aw),some (.ref ad),some (.int (many:Int)),some (.ref lh),some (.ref al),some (.int (0+(i:Int))),some (.ref l),t8,t9,t10]) ⟨t.same.trans s14,s14 _ _ t.out,lists,_,rfl⟩ ?_ ?_ ?_
  ·rintro j σ' H2 _ ⟨_,k,_⟩
   exact SqL.of k
  ·rintro j x σ' H2 hx ⟨k1,k2,k3,t10,rfl⟩
   rw [y06] at hx
   cases hr:rv[j]? with
   | none=>rw [hr] at hx; cases hx
   | some r =>
    rw [hr] at hx
    cases hx
    have hrm:=y02 hr
    obtain⟨v,hv⟩:=k3 r hrm
    obtain⟨rn,rl⟩:=t.rows r hrm
    walk_at "run"
    refine⟨_,hv,fun b o hb=>?_,?_,fun r' hr'=>?_,_,rfl⟩
    ·rw [z09 (z06 hb rn)]
     exact k1 _ _ hb
    ·rw [z09 (Ne.symm rl)]
     exact k2
    ·by_cases c:r'=r
     ·rw [c]
      exact⟨_,z01⟩
     ·obtain⟨w,hw⟩:=k3 r' hr'
      exact⟨w,by rw [z09 c]; exact hw⟩
  rintro σ' H2 ⟨k1,k2,_,t10,rfl⟩
  walk_at "run"
  have rvl:rv.length≤20:=by rw [t.len,pc.len,dl]; omega
  refine⟨⟨_,k2⟩,sz (by show 1≤1000; decide),fun l1 hl1=>?_⟩
  have f1:=z03 hl1 (.lst [.int 1])
  refine⟨_,f1 _ _ k2,z0h (by rw [y04]; omega),fun b o hb=>?_,_,_,_,_,_,rfl⟩
  have hb':=e1 _ _ hb
  rw [z09 (z06 hb' t.new)]
  exact f1 _ _ (k1 _ _ hb')
 rintro σ' H' ⟨e1,t6,t7,t8,t9,t10,rfl⟩
 walk_at "run"
 refine⟨sz (by show 2≤1000; decide),fun le hle=>?_⟩
 have f1:=z03 hle (.lst [.ref aw,.ref ad])
 have e2:=e1.trans f1
 have both:∀{H':Hp} {x y l:Addr},AsksC K H' x y ws drs→H' l=some (.lst [.ref x,.ref y])→Is K H' (.ref l) (.list [.list (ws.map PyData.int),z8p drs]):=fun {H' x y l} as hl=>is_list.mpr ⟨l,_,rfl,hl,z1c (is_list.mpr ⟨x,_,rfl,as.w,z2u _⟩) (z4k as.d)⟩
 have shd:Sh 60 (PyData.list [.list (ws.map PyData.int),z8p drs]):=z6b (n:=59) fun d hd=>by
  simp only [y0m,y1c,or_false] at hd
  rcases hd with rfl | rfl
  ·exact zlu (n:=58) _
  ·refine z6b (n:=58) fun d hd=>?_
   obtain⟨r,_,rfl⟩:=y1h.mp hd
   refine z6b (n:=57) fun d hd=>?_
   obtain⟨x,_,rfl⟩:=y1h.mp hd
   exact z8d _
 refine⟨_,_,both (ask4.same e2) (e2 _ _ kh),both (cr.ask.same e2) z01,shd,shd,?_⟩
 rw [z6z shd]
 refine z86 ⟨sz (by show 0≤1000; decide),fun l1 hl1=>⟨sz (by show 0≤1000; decide),fun l2 hl2=>?_⟩⟩
 have f3:=z03 hl2 (.lst [])
 refine⟨l1,l2,many,[],[],rfl,⟨f3 _ _ z01,is_list.mpr ⟨l2,[],rfl,z01,z0q⟩,rfl,by decide,fun r hr=>(by cases hr),fun x hx=>(by cases hx),fun x hx=>(by cases hx)⟩,⟨by omega,fun c hc=>(by cases hc),fun c hc=>(by cases hc)⟩,fun r hr=>(by cases hr),fun L2 sss l rv H9 _ _ _ t=>?_⟩
 have rv0:rv = []:=by
  have:=t.len
  rw [zex] at this
  exact y1j.mp this
 subst rv0
 refine⟨sz (by show 0≤1000; decide),fun l3 hl3=>?_⟩
 have f4:=z03 hl3 (.lst [])
 refine⟨.list [],.list [],is_list.mpr ⟨l,[],rfl,f4 _ _ t.out,z0q⟩,is_list.mpr ⟨l3,[],rfl,z01,z0q⟩,z5m [],z5m [],?_⟩
 rw [show PyData.eqv (.list []) (.list [])=true from z6z (z5m [])]
 exact q _
end
theorem all_mk {l:y4e}{w:World}{K:y03}{h:Heap}{mg:Str→Option Value}{fa f1 f2 f3 f4 f5 f6 f7 f8 f9 f10 f11 f12 f13 f14 f15 f16 f17 f18 f19 f20 f21 f22 f23 f24 f25 f26 f27 f28 f29 f30 f31 f32 f33 f34 f35 f36 f37 CPour:Addr}(X:K.In h)(G:h.Ns mainGlobals mg)(hfa:mg "law"=some (.ref fa))
  {od1 an1 od2 an2 od3 an3 od4 an4 od5 an5 od6 an6 od7 an7 od8 an8 od9 an9 od10 an10 od11 an11 od12 an12 od13 an13 od14 an14 od15 an15 od16 an16 od17 an17 od18 an18 od19 an19 od20 an20 od21 an21 od22 an22 od23 an23 od24 an24 od25 an25 od26 an26 od27 an27 od28 an28 od29 an29 od30 an30 od31 an31 od32 an32 od33 an33 od34 an34 od35 an35 od36 an36 od37 an37:Option Addr} {sl1 sl2 sl3 sl4 sl5 sl6 sl7 sl8 sl9 sl10 sl11 sl12 sl13 sl14 sl15 sl16 sl17 sl18 sl19 sl20 sl21 sl22 sl23 sl24 sl25 sl26 sl27 sl28 sl29 sl30 sl31 sl32 sl33 sl34 sl35 sl36 sl37:Array (Option Value)} {oc1 kV1 dc1 pm1 cd1 ct1 oc2 kV2 dc2 pm2 cd2 ct2 oc3 kV3 dc3 pm3 cd3 ct3 oc4 kV4 dc4 pm4 cd4 ct4 oc5 kV5 dc5 pm5 cd5 ct5 oc6 kV6 dc6 pm6 cd6 ct6 oc7 kV7 dc7 pm7 cd7 ct7 oc8 kV8 dc8 pm8 cd8 ct8 oc9 kV9 dc9 pm9 cd9 ct9 oc10 kV10 dc10 pm10 cd10 ct10 oc11 kV11 dc11 pm11 cd11 ct11 oc12 kV12 dc12 pm12 cd12 ct12 oc13 kV13 dc13 pm13 cd13 ct13 oc14 kV14 dc14 pm14 cd14 ct14 oc15 kV15 dc15 pm15 cd15 ct15 oc16 kV16 dc16 pm16 cd16 ct16 oc17 kV17 dc17 pm17 cd17 ct17 oc18 kV18 dc18 pm18 cd18 ct18 oc19 kV19 dc19 pm19 cd19 ct19 oc20 kV20 dc20 pm20 cd20 ct20 oc21 kV21 dc21 pm21 cd21 ct21 oc22 kV22 dc22 pm22 cd22 ct22 oc23 kV23 dc23 pm23 cd23 ct23 oc24 kV24 dc24 pm24 cd24 ct24 oc25 kV25 dc25 pm25 cd25 ct25 oc26 kV26 dc26 pm26 cd26 ct26 oc27 kV27 dc27 pm27 cd27 ct27 oc28 kV28 dc28 pm28 cd28 ct28 oc29 kV29 dc29 pm29 cd29 ct29 oc30 kV30 dc30 pm30 cd30 ct30 oc31 kV31 dc31 pm31 cd31 ct31 oc32 kV32 dc32 pm32 cd32 ct32 oc33 kV33 dc33 pm33 cd33 ct33 oc34 kV34 dc34 pm34 cd34 ct34 oc35 kV35 dc35 pm35 cd35 ct35 oc36 kV36 dc36 pm36 cd36 ct36 oc37 kV37 dc37 pm37 cd37 ct37:Value}
  (a1:y0r K mainGlobals "_law_mixed"=some (some (.ref f1))) (l1:K.lookup f1=some ⟨oc1,od1,.func (y0o "_law_mixed" "_law_mixed" (z0f z4u) (z0e z4u) (z05 z4u) .none kV1 dc1 pm1 an1 cd1 ct1),sl1⟩) (c1:y0k K cd1 "_law_mixed"=true) (k1:y0i K (.ref f1)=true)
  (a2:y0r K mainGlobals "_law_cell_at"=some (some (.ref f2))) (l2:K.lookup f2=some ⟨oc2,od2,.func (y0o "_law_cell_at" "_law_cell_at" (z0f z3b) (z0e z3b) (z05 z3b) .none kV2 dc2 pm2 an2 cd2 ct2),sl2⟩) (c2:y0k K cd2 "_law_cell_at"=true) (k2:y0i K (.ref f2)=true)
  (a3:y0r K mainGlobals "_law_row"=some (some (.ref f3))) (l3:K.lookup f3=some ⟨oc3,od3,.func (y0o "_law_row" "_law_row" (z0f z8h) (z0e z8h) (z05 z8h) .none kV3 dc3 pm3 an3 cd3 ct3),sl3⟩) (c3:y0k K cd3 "_law_row"=true) (k3:y0i K (.ref f3)=true)
  (a4:y0r K mainGlobals "_law_work"=some (some (.ref f4))) (l4:K.lookup f4=some ⟨oc4,od4,.func (y0o "_law_work" "_law_work" (z0f z66) (z0e z66) (z05 z66) .none kV4 dc4 pm4 an4 cd4 ct4),sl4⟩) (c4:y0k K cd4 "_law_work"=true) (k4:y0i K (.ref f4)=true)
  (a5:y0r K mainGlobals "_law_crowd"=some (some (.ref f5))) (l5:K.lookup f5=some ⟨oc5,od5,.func (y0o "_law_crowd" "_law_crowd" (z0f z4v) (z0e z4v) (z05 z4v) .none kV5 dc5 pm5 an5 cd5 ct5),sl5⟩) (c5:y0k K cd5 "_law_crowd"=true) (k5:y0i K (.ref f5)=true)
  (a6:y0r K mainGlobals "pour_more"=some (some (.ref f6))) (l6:K.lookup f6=some ⟨oc6,od6,.func (y0o "pour_more" "pour_more" (z0f z2s) (z0e z2s) (z05 z2s) .none kV6 dc6 pm6 an6 cd6 ct6),sl6⟩) (c6:y0k K cd6 "pour_more"=true) (k6:y0i K (.ref f6)=true)
  (a7:y0r K mainGlobals "pour_all"=some (some (.ref f7))) (l7:K.lookup f7=some ⟨oc7,od7,.func (y0o "pour_all" "pour_all" (z0f z3c) (z0e z3c) (z05 z3c) .none kV7 dc7 pm7 an7 cd7 ct7),sl7⟩) (c7:y0k K cd7 "pour_all"=true) (k7:y0i K (.ref f7)=true)
  (a8:y0r K mainGlobals "ties_in"=some (some (.ref f8))) (l8:K.lookup f8=some ⟨oc8,od8,.func (y0o "ties_in" "ties_in" (z0f z3w) (z0e z3w) (z05 z3w) .none kV8 dc8 pm8 an8 cd8 ct8),sl8⟩) (c8:y0k K cd8 "ties_in"=true) (k8:y0i K (.ref f8)=true)
  (a9:y0r K mainGlobals "work_in"=some (some (.ref f9))) (l9:K.lookup f9=some ⟨oc9,od9,.func (y0o "work_in" "work_in" (z0f z41) (z0e z41) (z05 z41) .none kV9 dc9 pm9 an9 cd9 ct9),sl9⟩) (c9:y0k K cd9 "work_in"=true) (k9:y0i K (.ref f9)=true)
  (a10:y0r K mainGlobals "pour_in"=some (some (.ref f10))) (l10:K.lookup f10=some ⟨oc10,od10,.func (y0o "pour_in" "pour_in" (z0f z3s) (z0e z3s) (z05 z3s) .none kV10 dc10 pm10 an10 cd10 ct10),sl10⟩) (c10:y0k K cd10 "pour_in"=true) (k10:y0i K (.ref f10)=true)
  (a11:y0r K mainGlobals "chosen"=some (some (.ref f11))) (l11:K.lookup f11=some ⟨oc11,od11,.func (y0o "chosen" "chosen" (z0f z4x) (z0e z4x) (z05 z4x) .none kV11 dc11 pm11 an11 cd11 ct11),sl11⟩) (c11:y0k K cd11 "chosen"=true) (k11:y0i K (.ref f11)=true)
  (a12:y0r K mainGlobals "crowds_by"=some (some (.ref f12))) (l12:K.lookup f12=some ⟨oc12,od12,.func (y0o "crowds_by" "crowds_by" (z0f z2w) (z0e z2w) (z05 z2w) .none kV12 dc12 pm12 an12 cd12 ct12),sl12⟩) (c12:y0k K cd12 "crowds_by"=true) (k12:y0i K (.ref f12)=true)
  (a13:y0r K mainGlobals "is_whole"=some (some (.ref f13))) (l13:K.lookup f13=some ⟨oc13,od13,.func (y0o "is_whole" "is_whole" (z0f z39) (z0e z39) (z05 z39) .none kV13 dc13 pm13 an13 cd13 ct13),sl13⟩) (c13:y0k K cd13 "is_whole"=true) (k13:y0i K (.ref f13)=true)
  (a14:y0r K mainGlobals "divisor_of"=some (some (.ref f14))) (l14:K.lookup f14=some ⟨oc14,od14,.func (y0o "divisor_of" "divisor_of" (z0f z2d) (z0e z2d) (z05 z2d) .none kV14 dc14 pm14 an14 cd14 ct14),sl14⟩) (c14:y0k K cd14 "divisor_of"=true) (k14:y0i K (.ref f14)=true)
  (a15:y0r K mainGlobals "part_of"=some (some (.ref f15))) (l15:K.lookup f15=some ⟨oc15,od15,.func (y0o "part_of" "part_of" (z0f z3p) (z0e z3p) (z05 z3p) .none kV15 dc15 pm15 an15 cd15 ct15),sl15⟩) (c15:y0k K cd15 "part_of"=true) (k15:y0i K (.ref f15)=true)
  (a16:y0r K mainGlobals "layers_by"=some (some (.ref f16))) (l16:K.lookup f16=some ⟨oc16,od16,.func (y0o "layers_by" "layers_by" (z0f z2q) (z0e z2q) (z05 z2q) .none kV16 dc16 pm16 an16 cd16 ct16),sl16⟩) (c16:y0k K cd16 "layers_by"=true) (k16:y0i K (.ref f16)=true)
  (a17:y0r K mainGlobals "loads_by"=some (some (.ref f17))) (l17:K.lookup f17=some ⟨oc17,od17,.func (y0o "loads_by" "loads_by" (z0f z3a) (z0e z3a) (z05 z3a) .none kV17 dc17 pm17 an17 cd17 ct17),sl17⟩) (c17:y0k K cd17 "loads_by"=true) (k17:y0i K (.ref f17)=true)
  (a18:y0r K mainGlobals "pieces_in"=some (some (.ref f18))) (l18:K.lookup f18=some ⟨oc18,od18,.func (y0o "pieces_in" "pieces_in" (z0f z2v) (z0e z2v) (z05 z2v) .none kV18 dc18 pm18 an18 cd18 ct18),sl18⟩) (c18:y0k K cd18 "pieces_in"=true) (k18:y0i K (.ref f18)=true)
  (a19:y0r K mainGlobals "rows_from"=some (some (.ref f19))) (l19:K.lookup f19=some ⟨oc19,od19,.func (y0o "rows_from" "rows_from" (z0f z2n) (z0e z2n) (z05 z2n) .none kV19 dc19 pm19 an19 cd19 ct19),sl19⟩) (c19:y0k K cd19 "rows_from"=true) (k19:y0i K (.ref f19)=true)
  (a20:y0r K mainGlobals "deal_pieces"=some (some (.ref f20))) (l20:K.lookup f20=some ⟨oc20,od20,.func (y0o "deal_pieces" "deal_pieces" (z0f z25) (z0e z25) (z05 z25) .none kV20 dc20 pm20 an20 cd20 ct20),sl20⟩) (c20:y0k K cd20 "deal_pieces"=true) (k20:y0i K (.ref f20)=true)
  (a21:y0r K mainGlobals "_law_whole"=some (some (.ref f21))) (l21:K.lookup f21=some ⟨oc21,od21,.func (y0o "_law_whole" "_law_whole" (z0f z4z) (z0e z4z) (z05 z4z) .none kV21 dc21 pm21 an21 cd21 ct21),sl21⟩) (c21:y0k K cd21 "_law_whole"=true) (k21:y0i K (.ref f21)=true)
  (a22:y0r K mainGlobals "_law_rows"=some (some (.ref f22))) (l22:K.lookup f22=some ⟨oc22,od22,.func (y0o "_law_rows" "_law_rows" (z0f z6j) (z0e z6j) (z05 z6j) .none kV22 dc22 pm22 an22 cd22 ct22),sl22⟩) (c22:y0k K cd22 "_law_rows"=true) (k22:y0i K (.ref f22)=true)
  (a23:y0r K mainGlobals "_law_got"=some (some (.ref f23))) (l23:K.lookup f23=some ⟨oc23,od23,.func (y0o "_law_got" "_law_got" (z0f z8z) (z0e z8z) (z05 z8z) .none kV23 dc23 pm23 an23 cd23 ct23),sl23⟩) (c23:y0k K cd23 "_law_got"=true) (k23:y0i K (.ref f23)=true)
  (a24:y0r K mainGlobals "law"=some (some (.ref f24))) (l24:K.lookup f24=some ⟨oc24,od24,.func (y0o "law" "law" (z0f zfi) (z0e zfi) (z05 zfi) .none kV24 dc24 pm24 an24 cd24 ct24),sl24⟩) (c24:y0k K cd24 "law"=true) (k24:y0i K (.ref f24)=true)
  (uPour:y0r K mainGlobals "Pour"=some (some (.ref CPour))) (p1Pour:y3k K CPour Str.empty=true) (p2Pour:y3v K CPour=true) (p3Pour:y4t K CPour=true) (p4Pour:y0y K (.ref CPour) "__setattr__"=some (some (.builtin "object.__setattr__"))) (p5Pour:y4d K CPour=true) (p6Pour:y0i K (.ref CPour)=true)
  (n_many_gives:y0y K (.ref CPour) "many_gives"=some none)
  (n_sent:y0y K (.ref CPour) "sent"=some none)
  (n_spare:y0y K (.ref CPour) "spare"=some none)
  (n_tie_ends:y0y K (.ref CPour) "tie_ends"=some none)
  (n_ties_at:y0y K (.ref CPour) "ties_at"=some none)
  (a25:y0y K (.ref CPour) "__init__"=some (some (.ref f25))) (l25:K.lookup f25=some ⟨oc25,od25,.func (y0o "__init__" "Pour.__init__" (z0f z2m) (z0e z2m) (z05 z2m) .none kV25 dc25 pm25 an25 cd25 ct25),sl25⟩) (c25:y0k K cd25 "Pour.__init__"=true) (k25:y0i K (.ref f25)=true) (i25:y1y K (.ref f25)=true)
  (a26:y0y K (.ref CPour) "gives_with_rest"=some (some (.ref f26))) (l26:K.lookup f26=some ⟨oc26,od26,.func (y0o "gives_with_rest" "Pour.gives_with_rest" (z0f z0p) (z0e z0p) (z05 z0p) .none kV26 dc26 pm26 an26 cd26 ct26),sl26⟩) (c26:y0k K cd26 "Pour.gives_with_rest"=true) (k26:y0i K (.ref f26)=true) (i26:y1y K (.ref f26)=true)
  (a27:y0y K (.ref CPour) "has_room"=some (some (.ref f27))) (l27:K.lookup f27=some ⟨oc27,od27,.func (y0o "has_room" "Pour.has_room" (z0f z1m) (z0e z1m) (z05 z1m) .none kV27 dc27 pm27 an27 cd27 ct27),sl27⟩) (c27:y0k K cd27 "Pour.has_room"=true) (k27:y0i K (.ref f27)=true) (i27:y1y K (.ref f27)=true)
  (a28:y0y K (.ref CPour) "far_end"=some (some (.ref f28))) (l28:K.lookup f28=some ⟨oc28,od28,.func (y0o "far_end" "Pour.far_end" (z0f z1v) (z0e z1v) (z05 z1v) .none kV28 dc28 pm28 an28 cd28 ct28),sl28⟩) (c28:y0k K cd28 "Pour.far_end"=true) (k28:y0i K (.ref f28)=true) (i28:y1y K (.ref f28)=true)
  (a29:y0y K (.ref CPour) "may_go"=some (some (.ref f29))) (l29:K.lookup f29=some ⟨oc29,od29,.func (y0o "may_go" "Pour.may_go" (z0f z24) (z0e z24) (z05 z24) .none kV29 dc29 pm29 an29 cd29 ct29),sl29⟩) (c29:y0k K cd29 "Pour.may_go"=true) (k29:y0i K (.ref f29)=true) (i29:y1y K (.ref f29)=true)
  (a30:y0y K (.ref CPour) "row_behind"=some (some (.ref f30))) (l30:K.lookup f30=some ⟨oc30,od30,.func (y0o "row_behind" "Pour.row_behind" (z0f z1a) (z0e z1a) (z05 z1a) .none kV30 dc30 pm30 an30 cd30 ct30),sl30⟩) (c30:y0k K cd30 "Pour.row_behind"=true) (k30:y0i K (.ref f30)=true) (i30:y1y K (.ref f30)=true)
  (a31:y0y K (.ref CPour) "steps_to_room"=some (some (.ref f31))) (l31:K.lookup f31=some ⟨oc31,od31,.func (y0o "steps_to_room" "Pour.steps_to_room" (z0f z0w) (z0e z0w) (z05 z0w) .none kV31 dc31 pm31 an31 cd31 ct31),sl31⟩) (c31:y0k K cd31 "Pour.steps_to_room"=true) (k31:y0i K (.ref f31)=true) (i31:y1y K (.ref f31)=true)
  (a32:y0y K (.ref CPour) "leads_on"=some (some (.ref f32))) (l32:K.lookup f32=some ⟨oc32,od32,.func (y0o "leads_on" "Pour.leads_on" (z0f z1i) (z0e z1i) (z05 z1i) .none kV32 dc32 pm32 an32 cd32 ct32),sl32⟩) (c32:y0k K cd32 "Pour.leads_on"=true) (k32:y0i K (.ref f32)=true) (i32:y1y K (.ref f32)=true)
  (a33:y0y K (.ref CPour) "skip_dead_ties"=some (some (.ref f33))) (l33:K.lookup f33=some ⟨oc33,od33,.func (y0o "skip_dead_ties" "Pour.skip_dead_ties" (z0f z0t) (z0e z0t) (z05 z0t) .none kV33 dc33 pm33 an33 cd33 ct33),sl33⟩) (c33:y0k K cd33 "Pour.skip_dead_ties"=true) (k33:y0i K (.ref f33)=true) (i33:y1y K (.ref f33)=true)
  (a34:y0y K (.ref CPour) "way_from"=some (some (.ref f34))) (l34:K.lookup f34=some ⟨oc34,od34,.func (y0o "way_from" "Pour.way_from" (z0f z1l) (z0e z1l) (z05 z1l) .none kV34 dc34 pm34 an34 cd34 ct34),sl34⟩) (c34:y0k K cd34 "Pour.way_from"=true) (k34:y0i K (.ref f34)=true) (i34:y1y K (.ref f34)=true)
  (a35:y0y K (.ref CPour) "send_along"=some (some (.ref f35))) (l35:K.lookup f35=some ⟨oc35,od35,.func (y0o "send_along" "Pour.send_along" (z0f z1b) (z0e z1b) (z05 z1b) .none kV35 dc35 pm35 an35 cd35 ct35),sl35⟩) (c35:y0k K cd35 "Pour.send_along"=true) (k35:y0i K (.ref f35)=true) (i35:y1y K (.ref f35)=true)
  (a36:y0y K (.ref CPour) "send_by_steps"=some (some (.ref f36))) (l36:K.lookup f36=some ⟨oc36,od36,.func (y0o "send_by_steps" "Pour.send_by_steps" (z0f z0v) (z0e z0v) (z05 z0v) .none kV36 dc36 pm36 an36 cd36 ct36),sl36⟩) (c36:y0k K cd36 "Pour.send_by_steps"=true) (k36:y0i K (.ref f36)=true) (i36:y1y K (.ref f36)=true)
  (a37:y0y K (.ref CPour) "fill"=some (some (.ref f37))) (l37:K.lookup f37=some ⟨oc37,od37,.func (y0o "fill" "Pour.fill" (z0f z2t) (z0e z2t) (z05 z2t) .none kV37 dc37 pm37 an37 cd37 ct37),sl37⟩) (c37:y0k K cd37 "Pour.fill"=true) (k37:y0i K (.ref f37)=true) (i37:y1y K (.ref f37)=true)
  (z1:y0r K mainGlobals "abs"=some none) (z2:y0r K mainGlobals "any"=some none) (z3:y0r K mainGlobals "bool"=some none) (z4:y0r K mainGlobals "dict"=some none) (z5:y0r K mainGlobals "enumerate"=some none) (z6:y0r K mainGlobals "int"=some none) (z7:y0r K mainGlobals "isinstance"=some none) (z8:y0r K mainGlobals "len"=some none) (z9:y0r K mainGlobals "list"=some none) (z10:y0r K mainGlobals "max"=some none) (z11:y0r K mainGlobals "min"=some none) (z12:y0r K mainGlobals "range"=some none) (z13:y0r K mainGlobals "reversed"=some none) (z14:y0r K mainGlobals "sorted"=some none) (z15:y0r K mainGlobals "str"=some none) (z16:y0r K mainGlobals "sum"=some none) (z17:y0r K mainGlobals "tuple"=some none) (z18:y0r K mainGlobals "zip"=some none) :
  ∃fd:FuncData,(∀(s:Shared) (v:Value),BindsTo s fd ⟨[v],[]⟩ [("_law_script",v)])∧∀base:Heap,K.In base→base.Ns mainGlobals mg→FnOk l.prog w K mg base CX0 13 fa fd ["_law_script"] (zdz K):=by
 have T_Lmixed:=z1y (st:=z4u) (ps:=["_law_cell","_law_k"]) X G a1 l1 c1 k1 fun _ _ _ _ _ _ us hl=>match us,hl with | [_,_],_=>rfl
 have T_Lcell_at:=z1y (st:=z3b) (ps:=["_law_script","_law_k"]) X G a2 l2 c2 k2 fun _ _ _ _ _ _ us hl=>match us,hl with | [_,_],_=>rfl
 have T_Lrow:=z1y (st:=z8h) (ps:=["_law_cell","_law_many","_law_thin"]) X G a3 l3 c3 k3 fun _ _ _ _ _ _ us hl=>match us,hl with | [_,_,_],_=>rfl
 have T_Lwork:=z1y (st:=z66) (ps:=["_law_cell"]) X G a4 l4 c4 k4 fun _ _ _ _ _ _ us hl=>match us,hl with | [_],_=>rfl
 have T_Lcrowd:=z1y (st:=z4v) (ps:=["_law_script"]) X G a5 l5 c5 k5 fun _ _ _ _ _ _ us hl=>match us,hl with | [_],_=>rfl
 have T_pour_more:=z1y (st:=z2s) (ps:=["gives","takes","ties","sent"]) X G a6 l6 c6 k6 fun _ _ _ _ _ _ us hl=>match us,hl with | [_,_,_,_],_=>rfl
 have T_pour_all:=z1y (st:=z3c) (ps:=["gives","takes","ties"]) X G a7 l7 c7 k7 fun _ _ _ _ _ _ us hl=>match us,hl with | [_,_,_],_=>rfl
 have T_ties_in:=z1y (st:=z3w) (ps:=["doers","crowd"]) X G a8 l8 c8 k8 fun _ _ _ _ _ _ us hl=>match us,hl with | [_,_],_=>rfl
 have T_work_in:=z1y (st:=z41) (ps:=["works","crowd"]) X G a9 l9 c9 k9 fun _ _ _ _ _ _ us hl=>match us,hl with | [_,_],_=>rfl
 have T_pour_in:=z1y (st:=z3s) (ps:=["works","doers","crowd"]) X G a10 l10 c10 k10 fun _ _ _ _ _ _ us hl=>match us,hl with | [_,_,_],_=>rfl
 have T_chosen:=z1y (st:=z4x) (ps:=["things","marks","wanted"]) X G a11 l11 c11 k11 fun _ _ _ _ _ _ us hl=>match us,hl with | [_,_,_],_=>rfl
 have T_crowds_by:=z1y (st:=z2w) (ps:=["works","doers","many"]) X G a12 l12 c12 k12 fun _ _ _ _ _ _ us hl=>match us,hl with | [_,_,_],_=>rfl
 have T_is_whole:=z1y (st:=z39) (ps:=["thing"]) X G a13 l13 c13 k13 fun _ _ _ _ _ _ us hl=>match us,hl with | [_],_=>rfl
 have T_divisor_of:=z1y (st:=z2d) (ps:=["one","other"]) X G a14 l14 c14 k14 fun _ _ _ _ _ _ us hl=>match us,hl with | [_,_],_=>rfl
 have T_part_of:=z1y (st:=z3p) (ps:=["top","bottom"]) X G a15 l15 c15 k15 fun _ _ _ _ _ _ us hl=>match us,hl with | [_,_],_=>rfl
 have T_layers_by:=z1y (st:=z2q) (ps:=["works","doers","many"]) X G a16 l16 c16 k16 fun _ _ _ _ _ _ us hl=>match us,hl with | [_,_,_],_=>rfl
 have T_loads_by:=z1y (st:=z3a) (ps:=["works","doers","many"]) X G a17 l17 c17 k17 fun _ _ _ _ _ _ us hl=>match us,hl with | [_,_,_],_=>rfl
 have T_pieces_in:=z1y (st:=z2v) (ps:=["works","doers","crowd"]) X G a18 l18 c18 k18 fun _ _ _ _ _ _ us hl=>match us,hl with | [_,_,_],_=>rfl
 have T_rows_from:=z1y (st:=z2n) (ps:=["doers","crowds","sents","nothing"]) X G a19 l19 c19 k19 fun _ _ _ _ _ _ us hl=>match us,hl with | [_,_,_,_],_=>rfl
 have T_deal_pieces:=z1y (st:=z25) (ps:=["works","doers","many"]) X G a20 l20 c20 k20 fun _ _ _ _ _ _ us hl=>match us,hl with | [_,_,_],_=>rfl
 have T_Lwhole:=z1y (st:=z4z) (ps:=["_law_found"]) X G a21 l21 c21 k21 fun _ _ _ _ _ _ us hl=>match us,hl with | [_],_=>rfl
 have T_Lrows:=z1y (st:=z6j) (ps:=["_law_pieces","_law_works","_law_doers"]) X G a22 l22 c22 k22 fun _ _ _ _ _ _ us hl=>match us,hl with | [_,_,_],_=>rfl
 have T_Lgot:=z1y (st:=z8z) (ps:=["_law_pieces","_law_doers","_law_many"]) X G a23 l23 c23 k23 fun _ _ _ _ _ _ us hl=>match us,hl with | [_,_,_],_=>rfl
 have clPour:Cls K CPour:=⟨p1Pour,p2Pour,p3Pour,p4Pour⟩
 have F:FldsPour K CPour:=⟨⟨clPour,n_many_gives⟩,⟨clPour,n_sent⟩,⟨clPour,n_spare⟩,⟨clPour,n_tie_ends⟩,⟨clPour,n_ties_at⟩⟩
 have T_Pour_init:MTop K CPour "__init__" "Pour.__init__" z2m ["self","gives","takes","ties","sent"]:=⟨⟨f25,_,z1g l25 c25 k25,(z1g l25 c25 k25).binds fun _ _ _ _ _ _ us hl=>match us,hl with | [_,_,_,_,_],_=>rfl,⟨a25,i25,k25⟩⟩,clPour⟩
 have T_Pour_gives_with_rest:MTop K CPour "gives_with_rest" "Pour.gives_with_rest" z0p ["self"]:=⟨⟨f26,_,z1g l26 c26 k26,(z1g l26 c26 k26).binds fun _ _ _ _ _ _ us hl=>match us,hl with | [_],_=>rfl,⟨a26,i26,k26⟩⟩,clPour⟩
 have T_Pour_has_room:MTop K CPour "has_room" "Pour.has_room" z1m ["self","ends"]:=⟨⟨f27,_,z1g l27 c27 k27,(z1g l27 c27 k27).binds fun _ _ _ _ _ _ us hl=>match us,hl with | [_,_],_=>rfl,⟨a27,i27,k27⟩⟩,clPour⟩
 have T_Pour_far_end:MTop K CPour "far_end" "Pour.far_end" z1v ["self","end","tie"]:=⟨⟨f28,_,z1g l28 c28 k28,(z1g l28 c28 k28).binds fun _ _ _ _ _ _ us hl=>match us,hl with | [_,_,_],_=>rfl,⟨a28,i28,k28⟩⟩,clPour⟩
 have T_Pour_may_go:MTop K CPour "may_go" "Pour.may_go" z24 ["self","end","tie"]:=⟨⟨f29,_,z1g l29 c29 k29,(z1g l29 c29 k29).binds fun _ _ _ _ _ _ us hl=>match us,hl with | [_,_,_],_=>rfl,⟨a29,i29,k29⟩⟩,clPour⟩
 have T_Pour_row_behind:MTop K CPour "row_behind" "Pour.row_behind" z1a ["self","row","steps"]:=⟨⟨f30,_,z1g l30 c30 k30,(z1g l30 c30 k30).binds fun _ _ _ _ _ _ us hl=>match us,hl with | [_,_,_],_=>rfl,⟨a30,i30,k30⟩⟩,clPour⟩
 have T_Pour_steps_to_room:MTop K CPour "steps_to_room" "Pour.steps_to_room" z0w ["self"]:=⟨⟨f31,_,z1g l31 c31 k31,(z1g l31 c31 k31).binds fun _ _ _ _ _ _ us hl=>match us,hl with | [_],_=>rfl,⟨a31,i31,k31⟩⟩,clPour⟩
 have T_Pour_leads_on:MTop K CPour "leads_on" "Pour.leads_on" z1i ["self","end","tie","steps"]:=⟨⟨f32,_,z1g l32 c32 k32,(z1g l32 c32 k32).binds fun _ _ _ _ _ _ us hl=>match us,hl with | [_,_,_,_],_=>rfl,⟨a32,i32,k32⟩⟩,clPour⟩
 have T_Pour_skip_dead_ties:MTop K CPour "skip_dead_ties" "Pour.skip_dead_ties" z0t ["self","end","steps","tried"]:=⟨⟨f33,_,z1g l33 c33 k33,(z1g l33 c33 k33).binds fun _ _ _ _ _ _ us hl=>match us,hl with | [_,_,_,_],_=>rfl,⟨a33,i33,k33⟩⟩,clPour⟩
 have T_Pour_way_from:MTop K CPour "way_from" "Pour.way_from" z1l ["self","give","steps","tried"]:=⟨⟨f34,_,z1g l34 c34 k34,(z1g l34 c34 k34).binds fun _ _ _ _ _ _ us hl=>match us,hl with | [_,_,_,_],_=>rfl,⟨a34,i34,k34⟩⟩,clPour⟩
 have T_Pour_send_along:MTop K CPour "send_along" "Pour.send_along" z1b ["self","give","way"]:=⟨⟨f35,_,z1g l35 c35 k35,(z1g l35 c35 k35).binds fun _ _ _ _ _ _ us hl=>match us,hl with | [_,_,_],_=>rfl,⟨a35,i35,k35⟩⟩,clPour⟩
 have T_Pour_send_by_steps:MTop K CPour "send_by_steps" "Pour.send_by_steps" z0v ["self","steps"]:=⟨⟨f36,_,z1g l36 c36 k36,(z1g l36 c36 k36).binds fun _ _ _ _ _ _ us hl=>match us,hl with | [_,_],_=>rfl,⟨a36,i36,k36⟩⟩,clPour⟩
 have T_Pour_fill:MTop K CPour "fill" "Pour.fill" z2t ["self"]:=⟨⟨f37,_,z1g l37 c37 k37,(z1g l37 c37 k37).binds fun _ _ _ _ _ _ us hl=>match us,hl with | [_],_=>rfl,⟨a37,i37,k37⟩⟩,clPour⟩
 have B:Blt mg:=⟨y16 X G z1,y16 X G z2,y16 X G z3,y16 X G z4,y16 X G z5,y16 X G z6,y16 X G z7,y16 X G z8,y16 X G z9,y16 X G z10,y16 X G z11,y16 X G z12,y16 X G z13,y16 X G z14,y16 X G z15,y16 X G z16,y16 X G z17,y16 X G z18⟩
 refine znh X G hfa a24 l24 c24 k24 (fun s v=>.of_eq rfl) fun f fd U base=>?_
 have D_Lmixed:=zfa (P:=l.prog) (w:=w) (base:=base) T_Lmixed B
 have D_Lcell_at:=zbz (P:=l.prog) (w:=w) (base:=base) T_Lcell_at B
 have D_Lrow:=zkg (P:=l.prog) (w:=w) (base:=base) T_Lrow B D_Lmixed
 have D_Lwork:=zi4 (P:=l.prog) (w:=w) (base:=base) T_Lwork B D_Lmixed
 have D_Lcrowd:=zgf (P:=l.prog) (w:=w) (base:=base) T_Lcrowd B D_Lmixed D_Lcell_at D_Lrow D_Lwork
 have D_Pour_init:=zb9 (P:=l.prog) (w:=w) (base:=base) (mg:=mg) T_Pour_init B F
 have D_Pour_init:CDef l.prog w K mg base "Pour" CPour 1 ["self","gives","takes","ties","sent"] (zg2 K CPour):=zl4 D_Pour_init p5Pour p6Pour (y62 X G uPour)
 have D_Pour_gives_with_rest:=z4d (P:=l.prog) (w:=w) (base:=base) (mg:=mg) T_Pour_gives_with_rest B F
 have D_Pour_has_room:=z6q (P:=l.prog) (w:=w) (base:=base) (mg:=mg) T_Pour_has_room B F
 have D_Pour_far_end:=z80 (P:=l.prog) (w:=w) (base:=base) (mg:=mg) T_Pour_far_end B F
 have D_Pour_may_go:=z8b (P:=l.prog) (w:=w) (base:=base) (mg:=mg) T_Pour_may_go B F
 have D_Pour_row_behind:=z5h (P:=l.prog) (w:=w) (base:=base) (mg:=mg) T_Pour_row_behind B F D_Pour_far_end D_Pour_may_go
 have D_Pour_steps_to_room:=z4j (P:=l.prog) (w:=w) (base:=base) (mg:=mg) T_Pour_steps_to_room B F D_Pour_gives_with_rest D_Pour_has_room D_Pour_row_behind
 have D_Pour_leads_on:=z6w (P:=l.prog) (w:=w) (base:=base) (mg:=mg) T_Pour_leads_on B D_Pour_may_go D_Pour_far_end
 have D_Pour_skip_dead_ties:=z4h (P:=l.prog) (w:=w) (base:=base) (mg:=mg) T_Pour_skip_dead_ties B F D_Pour_leads_on
 have D_Pour_way_from:=z6t (P:=l.prog) (w:=w) (base:=base) (mg:=mg) T_Pour_way_from B F D_Pour_has_room D_Pour_skip_dead_ties D_Pour_far_end
 have D_Pour_send_along:=z5s (P:=l.prog) (w:=w) (base:=base) (mg:=mg) T_Pour_send_along B F
 have D_Pour_send_by_steps:=z4p (P:=l.prog) (w:=w) (base:=base) (mg:=mg) T_Pour_send_by_steps B F D_Pour_gives_with_rest D_Pour_way_from D_Pour_send_along
 have D_Pour_fill:=z9w (P:=l.prog) (w:=w) (base:=base) (mg:=mg) T_Pour_fill B D_Pour_steps_to_room D_Pour_has_room D_Pour_send_by_steps
 have D_pour_more:=zah (P:=l.prog) (w:=w) (base:=base) T_pour_more B F D_Pour_init D_Pour_fill
 have D_pour_all:=zc7 (P:=l.prog) (w:=w) (base:=base) T_pour_all B D_pour_more
 have D_ties_in:=zdo (P:=l.prog) (w:=w) (base:=base) T_ties_in B
 have D_work_in:=zdh (P:=l.prog) (w:=w) (base:=base) T_work_in B
 have D_pour_in:=zdu (P:=l.prog) (w:=w) (base:=base) T_pour_in B D_pour_all D_ties_in D_work_in
 have D_chosen:=zgq (P:=l.prog) (w:=w) (base:=base) T_chosen B
 have D_crowds_by:=zaa (P:=l.prog) (w:=w) (base:=base) T_crowds_by B D_pour_in D_chosen
 have D_is_whole:=zbg (P:=l.prog) (w:=w) (base:=base) T_is_whole B
 have D_divisor_of:=z9d (P:=l.prog) (w:=w) (base:=base) T_divisor_of B
 have D_part_of:=ze6 (P:=l.prog) (w:=w) (base:=base) T_part_of B D_is_whole D_divisor_of
 have D_layers_by:=zba (P:=l.prog) (w:=w) (base:=base) T_layers_by B D_crowds_by D_part_of D_work_in
 have D_loads_by:=zbc (P:=l.prog) (w:=w) (base:=base) T_loads_by B D_layers_by
 have D_pieces_in:=z9q (P:=l.prog) (w:=w) (base:=base) T_pieces_in B D_work_in D_ties_in D_pour_all D_pour_more
 have D_rows_from:=zaf (P:=l.prog) (w:=w) (base:=base) T_rows_from B D_ties_in
 have D_deal_pieces:=z89 (P:=l.prog) (w:=w) (base:=base) T_deal_pieces B D_crowds_by D_pieces_in D_rows_from
 have D_Lwhole:=zgp (P:=l.prog) (w:=w) (base:=base) T_Lwhole B
 have D_Lrows:=ziz (P:=l.prog) (w:=w) (base:=base) T_Lrows B D_Lwhole
 have D_Lgot:=zli (P:=l.prog) (w:=w) (base:=base) T_Lgot B
 exact zmh U B D_Lcrowd D_loads_by D_deal_pieces D_Lrows D_Lgot
end My
namespace PySem.W.Fast
def tw2026793721821267990:=0
def tw1195278833748569105:=0
def tw5195839965861058522:=0
def tw845691987949477051:=0
def tw10915621618812922743:=0
def tw286182672492314337:=0
def tw3658512641721771658:=0
def tw4992119604027901919:=0
def tw18157623396852815174:=0
def tw9347818221513418436:=0
def tw9810568036326023221:=0
def tw4818786606720528115:=0
def tw4626312091287222775:=0
def tw14323251577618616856:=0
def tw13316862658034546751:=0
def tw5166629399436620291:=0
def tw5007392098047704002:=0
def tw10574349222725884146:=0
def tw14485591744507782264:=0
def tw3023522193527438200:=0
def tw15934203582363938978:=0
def tw13967743641620686054:=0
def tw7252293003178619644:=0
def tw2777932130056749451:=0
def tw4830948602512033121:=0
def tw4627974864749954593:=0
def tw3041463208415237880:=0
def tw808648093453019144:=0
def tw3825887923361904228:=0
def tw4390080892976558162:=0
def tw15136823390614746647:=0
def tw11332379336048494218:=0
def tw13598955109361180698:=0
def tw16448984976325082725:=0
def tw10345167008512193495:=0
def tw7757415228446704684:=0
def tw3727623937069129442:=0
def tw12951003231075563060:=0
def tw11358919933552647957:=0
def tw7103321558870403262:=0
def tw4011964384719625539:=0
def tw14182734554959270932:=0
def tw12695647641067086011:=0
def tw2629841207145032392:=0
def tw8281919049387929294:=0
def tw3910106923503428469:=0
def tw14486346988935445662:=0
def tw7506052354050200586:=0
def tw12737673669658629854:=0
def tw7167994530789249184:=0
def tw1489177563784089875:=0
def tw5258927280621537542:=0
def tw9048721186607604749:=0
def tw18393311223797095640:=0
def tw13753920974624536233:=0
def tw16517856697396218643:=0
def tw9269233123039500777:=0
def tw13676508199165409620:=0
def tw8913791971807938857:=0
def tw16095945924718703511:=0
def tw632173075127432020:=0
def tw12168481975923302235:=0
def tw17953888721266347802:=0
def tw12440760524013976304:=0
def tw8744871614483086364:=0
def tw6704399576323788843:=0
def tw14442189239866959470:=0
def tw16840058575771397734:=0
def tw1981646774508975074:=0
def tw7308074926867116980:=0
def tw1653192532083625847:=0
def tw4857640368928331348:=0
def tw2098137499466994736:=0
def tw14038549416793796895:=0
def tw13081762998324745971:=0
def tw8499651799053371352:=0
def tw8384818793422110193:=0
def tw3199831230856293277:=0
def tw15335448493371484853:=0
def tw12038040225977077895:=0
def tw3874868415154091967:=0
def tw8477810999045031287:=0
def tw9418502925800784311:=0
def tw3080774237846380838:=0
def tw580341460281587256:=0
def tw17753023564046076273:=0
def tw17881934425843556806:=0
def tw12396861352055680713:=0
def tw12623611372379625144:=0
def tw15634227737204577687:=0
def tw4006786717981864506:=0
def tw1410015231194543270:=0
def tw6809422091240325015:=0
def tw3878956745259373259:=0
def tw14266818578100342935:=0
def tw1769748779940401833:=0
def tw9863103691403052018:=0
def tw4625214259215105708:=0
def tw15206516162770637018:=0
def tw17352223261251564355:=0
def tw16402776020621405596:=0
def tw11712122333218210202:=0
def tw6129317947895495385:=0
def tw11174278062004804561:=0
def tw5661614804741574556:=0
def tw16625905811336027341:=0
def tw9820577077095881646:=0
def tw12378960697621829141:=0
def tw2508041602515028604:=0
def tw9541119191175450366:=0
def tw12638016047899905031:=0
def tw3477935595280053938:=0
def tw10925106376684325593:=0
def tw9808131028124536385:=0
def tw11301244129422219448:=0
def tw4548671546657262952:=0
def tw3713289083570260432:=0
def tw1409492549676266386:=0
def tw1243080417793729475:=0
def tw16998743275998194498:=0
def tw122795061118869216:=0
def tw5410515943282151567:=0
def tw2486033071065175845:=0
def tw1444432797300347455:=0
def tw6487018458162019802:=0
def tw17171305779815666615:=0
def tw17574737006744712477:=0
def tw14062554402651296089:=0
def tw16778318307714801662:=0
def tw12057846185340405851:=0
def tw17026720293769091335:=0
def tw16134214585653032045:=0
def tw459420498575193570:=0
def tw6841234050093562166:=0
def tw16510686777395660417:=0
def tw18102717401068030761:=0
def tw15237400527488911021:=0
def tw4756969901881657329:=0
def tw17971616895250452568:=0
def tw4207105088711515055:=0
def tw15167536546130171769:=0
def tw15198765868211821370:=0
def tw2805346806563665483:=0
def tw2469703048728290391:=0
def tw8913763544960624457:=0
def tw10363478650451327569:=0
def tw5554827491654460437:=0
def tw13227451643593231435:=0
def tw9273034079828837120:=0
def tw6500024639013680260:=0
def tw2231325516982233955:=0
def tw11024928802368756852:=0
def tw3809241540982581359:=0
def tw10423428458731772376:=0
def tw129943395116792167:=0
def tw5755100430454060530:=0
def tw2220393333425477451:=0
def tw947263556263850475:=0
def tw3435061563857583685:=0
def tw5371673063948531741:=0
def tw6723002111334863781:=0
def tw15824322257097559331:=0
def tw1928509234354420063:=0
def tw5838185948994970332:=0
def tw231520025793797242:=0
def tw9399341018158983392:=0
def tw11059860956581851866:=0
def tw15275782633456721781:=0
def tw15338535499612895278:=0
def tw4760441661811533779:=0
def tw6827763963612837815:=0
def tw5461723121822356010:=0
def tw1597181038335143093:=0
def tw3487785320387520023:=0
def tw3161184540125633378:=0
def tw18312658500880785245:=0
def tw14073376790850360593:=0
def tw17567952214313571629:=0
def tw17574137673465777401:=0
def tw4985567548197346534:=0
def tw17332587377433578542:=0
def tw18025550205573616164:=0
def tw4793727862787676029:=0
def tw7012513466155507754:=0
def tw18349865729517705748:=0
def tw11965872664374280224:=0
def tw5776695052939170226:=0
def tw13751508256282443125:=0
def tw8919686213935829097:=0
def tw220096216840150168:=0
def tw8783096408177496099:=0
def tw15119262825066631594:=0
def tw2331858790366942313:=0
def tw5342217776403568310:=0
def tw10075389338506699001:=0
def tw2228858665454639094:=0
def tw12025595897781124861:=0
def tw7938340282748421289:=0
def tw12167936558718235615:=0
def tw6669073819227019690:=0
def tw3578182882364054049:=0
def tw17057346186176104536:=0
end PySem.W.Fast
open PySem PySem.W PyProof.Rows
set_option maxRecDepth 100000 in
set_option maxHeartbeats 0 in
theorem PySem.Challenge.cw_evenyoke_k41_whole_pieces_holds : PySem.Challenge.rw_evenyoke_k41_whole_pieces.Holds := by
 w_on; o_law; k_head; (case hw=>w_witness2)
 k_fill
 refine L2.EX.walk (l:=PySem.Challenge.rw_evenyoke_k41_whole_pieces) 13 rfl rfl ⟨rfl,by decide,by decide⟩ (fun w h Y=>PySem.W.kIn_of Y) ?F
 case F =>
  intro w mg fa h KX G hmg
  refine' My.all_mk KX G hmg ?a1 ?l1 ?c1 ?k1 ?a2 ?l2 ?c2 ?k2 ?a3 ?l3 ?c3 ?k3 ?a4 ?l4 ?c4 ?k4 ?a5 ?l5 ?c5 ?k5 ?a6 ?l6 ?c6 ?k6 ?a7 ?l7 ?c7 ?k7 ?a8 ?l8 ?c8 ?k8 ?a9 ?l9 ?c9 ?k9 ?a10 ?l10 ?c10 ?k10 ?a11 ?l11 ?c11 ?k11 ?a12 ?l12 ?c12 ?k12 ?a13 ?l13 ?c13 ?k13 ?a14 ?l14 ?c14 ?k14 ?a15 ?l15 ?c15 ?k15 ?a16 ?l16 ?c16 ?k16 ?a17 ?l17 ?c17 ?k17 ?a18 ?l18 ?c18 ?k18 ?a19 ?l19 ?c19 ?k19 ?a20 ?l20 ?c20 ?k20 ?a21 ?l21 ?c21 ?k21 ?a22 ?l22 ?c22 ?k22 ?a23 ?l23 ?c23 ?k23 ?a24 ?l24 ?c24 ?k24 ?uPour ?p1Pour ?p2Pour ?p3Pour ?p4Pour ?p5Pour ?p6Pour ?n_many_gives ?n_sent ?n_spare ?n_tie_ends ?n_ties_at ?a25 ?l25 ?c25 ?k25 ?i25 ?a26 ?l26 ?c26 ?k26 ?i26 ?a27 ?l27 ?c27 ?k27 ?i27 ?a28 ?l28 ?c28 ?k28 ?i28 ?a29 ?l29 ?c29 ?k29 ?i29 ?a30 ?l30 ?c30 ?k30 ?i30 ?a31 ?l31 ?c31 ?k31 ?i31 ?a32 ?l32 ?c32 ?k32 ?i32 ?a33 ?l33 ?c33 ?k33 ?i33 ?a34 ?l34 ?c34 ?k34 ?i34 ?a35 ?l35 ?c35 ?k35 ?i35 ?a36 ?l36 ?c36 ?k36 ?i36 ?a37 ?l37 ?c37 ?k37 ?i37 ?z1 ?z2 ?z3 ?z4 ?z5 ?z6 ?z7 ?z8 ?z9 ?z10 ?z11 ?z12 ?z13 ?z14 ?z15 ?z16 ?z17 ?z18
  (case a1=>k_is)
  (case l1=>k_is)
  (case c1=>k_is)
  (case k1=>k_is)
  (case a2=>k_is)
  (case l2=>k_is)
  (case c2=>k_is)
  (case k2=>k_is)
  (case a3=>k_is)
  (case l3=>k_is)
  (case c3=>k_is)
  (case k3=>k_is)
  (case a4=>k_is)
  (case l4=>k_is)
  (case c4=>k_is)
  (case k4=>k_is)
  (case a5=>k_is)
  (case l5=>k_is)
  (case c5=>k_is)
  (case k5=>k_is)
  (case a6=>k_is)
  (case l6=>k_is)
  (case c6=>k_is)
  (case k6=>k_is)
  (case a7=>k_is)
  (case l7=>k_is)
  (case c7=>k_is)
  (case k7=>k_is)
  (case a8=>k_is)
  (case l8=>k_is)
  (case c8=>k_is)
  (case k8=>k_is)
  (case a9=>k_is)
  (case l9=>k_is)
  (case c9=>k_is)
  (case k9=>k_is)
  (case a10=>k_is)
  (case l10=>k_is)
  (case c10=>k_is)
  (case k10=>k_is)
  (case a11=>k_is)
  (case l11=>k_is)
  (case c11=>k_is)
  (case k11=>k_is)
  (case a12=>k_is)
  (case l12=>k_is)
  (case c12=>k_is)
  (case k12=>k_is)
  (case a13=>k_is)
  (case l13=>k_is)
  (case c13=>k_is)
  (case k13=>k_is)
  (case a14=>k_is)
  (case l14=>k_is)
  (case c14=>k_is)
  (case k14=>k_is)
  (case a15=>k_is)
  (case l15=>k_is)
  (case c15=>k_is)
  (case k15=>k_is)
  (case a16=>k_is)
  (case l16=>k_is)
  (case c16=>k_is)
  (case k16=>k_is)
  (case a17=>k_is)
  (case l17=>k_is)
  (case c17=>k_is)
  (case k17=>k_is)
  (case a18=>k_is)
  (case l18=>k_is)
  (case c18=>k_is)
  (case k18=>k_is)
  (case a19=>k_is)
  (case l19=>k_is)
  (case c19=>k_is)
  (case k19=>k_is)
  (case a20=>k_is)
  (case l20=>k_is)
  (case c20=>k_is)
  (case k20=>k_is)
  (case a21=>k_is)
  (case l21=>k_is)
  (case c21=>k_is)
  (case k21=>k_is)
  (case a22=>k_is)
  (case l22=>k_is)
  (case c22=>k_is)
  (case k22=>k_is)
  (case a23=>k_is)
  (case l23=>k_is)
  (case c23=>k_is)
  (case k23=>k_is)
  (case a24=>k_is)
  (case l24=>k_is)
  (case c24=>k_is)
  (case k24=>k_is)
  (case uPour=>k_is)
  (case p1Pour=>k_is)
  (case p2Pour=>k_is)
  (case p3Pour=>k_is)
  (case p4Pour=>k_is)
  (case p5Pour=>k_is)
  (case p6Pour=>k_is)
  (case n_many_gives=>k_is)
  (case n_sent=>k_is)
  (case n_spare=>k_is)
  (case n_tie_ends=>k_is)
  (case n_ties_at=>k_is)
  (case a25=>k_is)
  (case l25=>k_is)
  (case c25=>k_is)
  (case k25=>k_is)
  (case i25=>k_is)
  (case a26=>k_is)
  (case l26=>k_is)
  (case c26=>k_is)
  (case k26=>k_is)
  (case i26=>k_is)
  (case a27=>k_is)
  (case l27=>k_is)
  (case c27=>k_is)
  (case k27=>k_is)
  (case i27=>k_is)
  (case a28=>k_is)
  (case l28=>k_is)
  (case c28=>k_is)
  (case k28=>k_is)
  (case i28=>k_is)
  (case a29=>k_is)
  (case l29=>k_is)
  (case c29=>k_is)
  (case k29=>k_is)
  (case i29=>k_is)
  (case a30=>k_is)
  (case l30=>k_is)
  (case c30=>k_is)
  (case k30=>k_is)
  (case i30=>k_is)
  (case a31=>k_is)
  (case l31=>k_is)
  (case c31=>k_is)
  (case k31=>k_is)
  (case i31=>k_is)
  (case a32=>k_is)
  (case l32=>k_is)
  (case c32=>k_is)
  (case k32=>k_is)
  (case i32=>k_is)
  (case a33=>k_is)
  (case l33=>k_is)
  (case c33=>k_is)
  (case k33=>k_is)
  (case i33=>k_is)
  (case a34=>k_is)
  (case l34=>k_is)
  (case c34=>k_is)
  (case k34=>k_is)
  (case i34=>k_is)
  (case a35=>k_is)
  (case l35=>k_is)
  (case c35=>k_is)
  (case k35=>k_is)
  (case i35=>k_is)
  (case a36=>k_is)
  (case l36=>k_is)
  (case c36=>k_is)
  (case k36=>k_is)
  (case i36=>k_is)
  (case a37=>k_is)
  (case l37=>k_is)
  (case c37=>k_is)
  (case k37=>k_is)
  (case i37=>k_is)
  (case z1=>k_is)
  (case z2=>k_is)
  (case z3=>k_is)
  (case z4=>k_is)
  (case z5=>k_is)
  (case z6=>k_is)
  (case z7=>k_is)
  (case z8=>k_is)
  (case z9=>k_is)
  (case z10=>k_is)
  (case z11=>k_is)
  (case z12=>k_is)
  (case z13=>k_is)
  (case z14=>k_is)
  (case z15=>k_is)
  (case z16=>k_is)
  (case z17=>k_is)
  (case z18=>k_is)
