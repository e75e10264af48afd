import PyProof.Rows.All
import Wide.All
import OpenK.AllK
import Wide.FinOn
import Lean
import PyProof.EqAt
import PyProof.EqKinds
import PyProof.TupleCall
import KE.KRevIter
import PyProof.AutoListH
import KE.KDictOf
import PyProof.AttrMissHeap
import PyProof.ListRange
import PyProof.Rows.SortWalk
import PySem.Challenge.RW_evenyoke_k34_whole_none_is_better
open And renaming intro→y4i
open Array renaming getElem?_toList→y44,length_toList→y5x
open Bool renaming false_ne_true→y10,and_eq_true→y1d,eq_false_or_eq_true→y1f,eq_iff_iff→y2m,false_eq_true→y4s,not_eq_true'→y52,or_eq_true→y5k,false_and→y71,true_and→y78
open Int renaming gcd→y13,eq_of_mul_eq_mul_right→y1b,mul_comm→y1g,emod_nonneg→y1l,emod_lt_of_pos→y1m,le_of_lt→y1p,mul_fdiv_cancel_left→y1q,mul_nonneg→y1r,le_refl→y23,natAbs_dvd_natAbs→y24,mul_assoc→y28,natAbs_mul→y2b,mul_lt_mul_of_pos_right→y2c,eq_ofNat_of_zero_le→y2e,mul_right_comm→y2f,mul_le_mul_of_nonneg_right→y2o,lt_or_le→y2p,mul_le_mul_of_nonneg_left→y2t,fdiv_eq_ediv_of_nonneg→y2x,lt_of_mul_lt_mul_right→y2y,dvd_trans→y36,ediv_nonneg→y3b,le_trans→y3c,add_zero→y3d,le_of_eq→y3e,gcd_comm→y3f,gcd_dvd_right→y3k,le_of_mul_le_mul_right→y3l,mul_pos→y3p,zero_add→y3r,lt_of_lt_of_le→y3v,toNat_natCast→y41,mul_left_comm→y42,toNat→y45,ediv_le_self→y47,mul_add→y4j,add_mul→y4l,ediv_mul_cancel→y4m,mul_ne_zero→y4n,sub_eq_add_neg→y4v,natAbs_add_le→y53,dvd_mul_right→y55,mul_one→y57,dvd_mul_of_dvd_left→y59,gcd_dvd_left→y5d,dvd_mul_left→y5e,zero_mul→y5o,dvd_refl→y5p,neg_mul→y5z,natCast_nonneg→y67,neg_mul_neg→y6u,neg_gcd→y6v,mul_neg→y6w,natAbs_neg→y73,le_of_dvd→y7b
open List renaming getElem?_eq_some_iff→y00,getElem?_eq_getElem→y01,mem_of_getElem?→y03,length_map→y04,take_of_length_le→y05,replicate→y06,mem_cons_of_mem→y08,length_append→y09,mem_singleton→y0a,getElem?_map→y0b,range→y0c,mem_cons_self→y0d,getElem?_of_mem→y0f,map_append→y0h,mem_cons→y0k,getElem?_append_left→y0l,map_cons→y0m,sum_cons→y0n,getD_eq_getElem?_getD→y0o,size_toArray→y0q,length_take→y0r,getElem?_append_right→y0s,length_pos_iff→y0t,mem_append→y0u,map_congr_left→y0v,getElem?_set_self→y0y,mem_append_right→y0z,length_cons→y11,mem_filter→y15,getElem?_set_ne→y16,getLast?_eq_getElem?→y18,getElem?_eq_none→y1a,not_mem_nil→y1c,lookup_cons→y1e,any_eq_true→y1h,getElem?_replicate→y1i,getD→y1j,length_eq_zero_iff→y1k,mem_range→y1n,getElem?_zip_eq_some→y1o,replicate_succ→y1s,sum_append→y1t,getLast?_eq_some_getLast→y1u,of_mem_zip→y1x,length_replicate→y1z,contains_iff_mem→y21,mem_map→y22,getElem?_range→y25,all_eq_true→y27,map_map→y2a,exists_cons_of_ne_nil→y2g,getElem?_dropLast→y2h,filterMap_cons→y2i,pairwise_iff_getElem→y2l,append_nil→y2n,map_set→y2q,count_pos_iff→y2s,length_range→y2u,find?_cons→y2w,map_replicate→y30,length_set→y32,append_assoc→y33,map_nil→y35,filter_cons→y37,filter_append→y38,nodup_cons→y3a,length_filter_le→y3g,range_succ→y3h,flatten_cons→y3i,ext_getElem?→y3j,mem_append_left→y3m,getElem?_eq_none_iff→y3n,set_cons_zero→y3t,set_cons_succ→y3u,getElem?_take→y3w,drop_of_length_le→y3x,pairwise_lt_range→y3y,lookup→y40,length_singleton→y43,length_drop→y46,getElem_mem→y48,countP_cons→y49,count_range→y4a,mem_flatMap→y4b,nodup_iff_count→y4c,mem_of_mem_take→y4d,countP_eq_length_filter→y4e,range'→y4k,mem_filterMap→y4q,getElem?_drop→y4t,count_flatMap→y4u,getElem?_take_of_lt→y4z,take_append_getElem→y51,filter_congr→y54,eq_of_mem_replicate→y56,pairwise_singleton→y5b,range_succ_eq_map→y5h,forIn_cons→y5l,count_cons→y5m,zip_append→y5r,sum_nil→y5s,take_append_drop→y5t,length_zip→y5u,length_dropLast→y5v,length→y5y,filter_eq_self→y60,perm_iff_count→y61,flatMap_append→y62,reverse_append→y64,count_eq_zero→y68,filterMap_map→y69,any_eq_false→y6a,cons_append→y6p,map_snd_zip→y6r,filter_nil→y6z,foldl→y74,any_cons→y7a,map_take→y7c,map_drop→y7d
open List.Pairwise renaming nil→y6e
open Nat renaming le_refl→y07,lt_of_lt_of_le→y0p,ne_of_lt→y0x,le_trans→y19,eq_zero_or_pos→y1v,le_mul_of_pos_right→y2d,zero_le→y2j,lt_irrefl→y2k,lt_of_le_of_lt→y2r,lt_succ_self→y2z,mul_le_mul_right→y31,lt_trichotomy→y34,ne_of_gt→y39,lt_or_ge→y3q,mul_lt_mul_of_pos_right→y4o,le_of_lt→y4p,lt_succ_of_lt→y50,le_succ→y58,pow_add→y5a,le_add_right→y5c,not_lt_zero→y5n,lt_trans→y5q,pow_le_pow_right→y5w,pow_pos→y63,lt_succ_of_le→y6f,le_of_eq→y6h,gcd_comm→y6j,min_self→y6k,lt_of_not_ge→y6n,min_eq_right→y6o,mod_eq_of_lt→y6q,Coprime→y6x,min_eq_left→y6y,add_mul→y70,mod_lt→y76,le_of_dvd→y79,gcd→y7e
open Option renaming map_eq_some_iff→y5g,getD_none→y6m,map_some→y6t
open Option.some renaming inj→y14
open Or renaming inr→y6i,inl→y6s
open PyProof.Rows renaming callWith_type1→y20
open PySem renaming boot_len→y17,mem_of_lookup→y1y,Within→y6g,call→y75
open PySem.F renaming plainAttrs_list→y3s
open PySem.SeqAt renaming shaped→y66
open PySem.W renaming Frag→y02,keepIn→y0e,codeIn→y0g,fnOf→y0i,nsIn→y0j,findIn→y0w,mg_none_of→y12,isFn→y1w,kia_one→y26,emptyDict→y29,instObj→y2v,plainGet→y3o,hasDictIn→y3z,plainGet_of→y4f,makesIn→y4g,OpenLaw→y4h,callWith_K→y4r,lookIn→y4w,methodObj→y4x,plainOver→y4y,cellsFrom_some→y5f,takerIn→y5i,methodCall_KW→y5j,mg_of→y65,specialIn→y6b,kitx_list→y6c,kitx_dict→y6d,handedIn→y6l,kitOne→y72,WalkO→y77
set_option Elab.async false
set_option linter.all false
set_option maxRecDepth 100000
namespace L2
open PySem PySem.Spec PyProof.Rows
abbrev Key:=Sum Int Str
def zba:Key→Value→Bool
 | .inl k,v=>Value.isInt k v
 | .inr x,v=>Value.isStrOf x v
def zqe (w:World):Key→Int
 | .inl k=>hashInt k
 | .inr x=>hashStr w x
theorem z1w:∀{k:Key} {v:Value},zba k v=true→(∃i t,k=Sum.inl i∧v=Value.int i t)∨(∃x t,k=Sum.inr x∧v=Value.str x t)
 | .inl i,v,h=>by
  obtain⟨t,e⟩:=Value.isInt_shape (k:=i) (v:=v) h
  exact .inl ⟨i,t,rfl,e⟩
 | .inr x,v,h=>by
  obtain⟨t,e⟩:=Value.isStrOf_shape (x:=x) (v:=v) h
  exact .inr ⟨x,t,rfl,e⟩
theorem zgd (i:Int)(t:Tok):zba (.inl i) (.int i t)=true:=by simp [zba,Value.isInt]
theorem zfq (x:Str)(t:Tok):zba (.inr x) (.str x t)=true:=by simp [zba,Value.isStrOf]
theorem zmt (a b:Int):decide ((Sum.inl a:Key)=Sum.inl b)=(a==b):=by
 by_cases e:a=b
 ·subst e; simp
 ·have h:¬(Sum.inl a:Key)=Sum.inl b:=fun q=>e (Sum.inl.inj q)
  rw [decide_eq_false h]
  exact(beq_eq_false_iff_ne.mpr e).symm
theorem zma (a b:Str):decide ((Sum.inr a:Key)=Sum.inr b)=decide (a=b):=by
 by_cases e:a=b
 ·subst e; simp
 ·have h:¬(Sum.inr a:Key)=Sum.inr b:=fun q=>e (Sum.inr.inj q)
  rw [decide_eq_false h,decide_eq_false e]
theorem zn3 (a:Int)(b:Str):decide ((Sum.inl a:Key)=Sum.inr b)=false:=decide_eq_false (fun q=>nomatch q)
theorem zmf (a:Str)(b:Int):decide ((Sum.inr a:Key)=Sum.inl b)=false:=decide_eq_false (fun q=>nomatch q)
def z32 (prog:Program)(w:World):PySem.KeyKind prog w Key where
 is:=zba
 hash:=zqe w
 inj:=fun v a b ha hb=>by
  rcases z1w ha with ⟨i,t,rfl,rfl⟩ | ⟨x,t,rfl,rfl⟩
  ·rcases z1w hb with ⟨j,u,rfl,e⟩ | ⟨y,u,rfl,e⟩
   ·injection e with e1 _; rw [e1]
   ·exact nomatch e
  ·rcases z1w hb with ⟨j,u,rfl,e⟩ | ⟨y,u,rfl,e⟩
   ·exact nomatch e
   ·injection e with e1 _; rw [e1]
 byValue:=fun k v h=>by
  rcases z1w h with ⟨i,t,rfl,rfl⟩ | ⟨x,t,rfl,rfl⟩<;>rfl
 pyHash:=fun hv h=>by
  rcases z1w hv with ⟨i,t,rfl,rfl⟩ | ⟨x,t,rfl,rfl⟩
  ·exact wpAny_pyHash_int h
  ·exact wpAny_pyHash_str h
 eqBool:=fun hu hv h=>by
  rcases z1w hu with ⟨i,t,rfl,rfl⟩ | ⟨x,t,rfl,rfl⟩
  ·rcases z1w hv with ⟨j,u,rfl,rfl⟩ | ⟨y,u,rfl,rfl⟩
   ·rw [zmt] at h; exact wpAny_eqBool_int h
   ·rw [zn3] at h; exact SeqAt.EqAt.int_str i t y u _ _ _ _ h
  ·rcases z1w hv with ⟨j,u,rfl,rfl⟩ | ⟨y,u,rfl,rfl⟩
   ·rw [zmf] at h; exact SeqAt.EqAt.str_int x t j u _ _ _ _ h
   ·rw [zma] at h; exact wpAny_eqBool_str h
 «strs»:=fun k x t v h=>by
  rcases z1w h with ⟨i,u,rfl,e⟩ | ⟨y,u,rfl,e⟩
  ·exact nomatch e
  ·injection e with e1 _
   subst e1
   cases v<;>rfl
theorem zby (prog:Program)(w:World)(i:Int)(t:Tok):(z32 prog w).is (.inl i) (.int i t)=true:=zgd i t
theorem zc5 (prog:Program)(w:World)(x:Str)(t:Tok):(z32 prog w).is (.inr x) (.str x t)=true:=zfq x t
end L2
namespace L2
open PySem PySem.Spec PyProof.Rows
inductive V where
 | non | bl (b:Bool) | int (i:Int) | str (x:Str) | byt (b:Array UInt8) | flt (b:UInt64) | ref (a:Addr) | ty (n:String)
 deriving DecidableEq
def RelV:V→Value→Prop
 | .non,u=>u=Value.none
 | .bl b,u=>u=Value.bool b
 | .int i,u=>∃t,u=Value.int i t
 | .str x,u=>∃t,u=Value.str x t
 | .byt b,u=>∃t,u=Value.bytes b t
 | .flt b,u=>∃t,u=Value.float b t
 | .ref a,u=>u=Value.ref a
 | .ty n,u=>u=Value.type n
abbrev Vals:List V→List Value→Prop:=Paired RelV
theorem Vals.length {xs:List V}{us:List Value}(r:Vals xs us):xs.length=us.length:=Paired.length r
theorem Vals.get:∀{xs:List V} {us:List Value} {i:Nat} {x:V},Vals xs us→xs[i]?=some x→∃u,us[i]?=some u∧RelV x u
 | _,_,_,_,.nil,e=>by simp at e
 | _,_,0,_,.cons r _,e=>by simp at e; subst e; exact⟨_,rfl,r⟩
 | _,_,i+1,x,.cons _ t,e=>by
  obtain⟨u,h1,h2⟩:=Vals.get (i:=i) (x:=x) t (by simpa using e)
  exact⟨u,by simpa using h1,h2⟩
theorem Vals.set {x:V}{u:Value}(r:RelV x u):∀{xs:List V} {us:List Value} (i:Nat),Vals xs us→Vals (xs.set i x) (us.set i u)
 | _,_,_,.nil=>.nil
 | _,_,0,.cons _ t=>.cons r t
 | _,_,i+1,.cons q t=>.cons q (Vals.set r i t)
theorem Vals.append:∀{xs ys:List V} {us ws:List Value},Vals xs us→Vals ys ws→Vals (xs++ys) (us++ws)
 | _,_,_,_,.nil,s=>s
 | _,_,_,_,.cons r t,s=>.cons r (Vals.append t s)
theorem Vals.take:∀{xs:List V} {us:List Value} (n:Nat),Vals xs us→Vals (xs.take n) (us.take n)
 | _,_,0,_=>.nil
 | _,_,_+1,.nil=>.nil
 | _,_,n+1,.cons r t=>.cons r (Vals.take n t)
theorem Vals.drop:∀{xs:List V} {us:List Value} (n:Nat),Vals xs us→Vals (xs.drop n) (us.drop n)
 | _,_,0,r=>r
 | _,_,_+1,.nil=>.nil
 | _,_,n+1,.cons _ t=>Vals.drop n t
theorem Vals.none_of:∀{xs:List V} {us:List Value} {i:Nat},Vals xs us→xs[i]?=none→us[i]?=none:=fun {xs us i} r e=>by
 have h1:=r.length
 have h2:xs.length≤i:=y3n.mp e
 exact y3n.mpr (by omega)
def RelO:Option V→Option Value→Prop
 | some v,some u=>RelV v u
 | none,none=>True
 | _,_=>False
def KV {κ:Type}:List (κ×V)→List (κ×Value)→Prop:=Paired fun (p:κ×V) (q:κ×Value)=>p.1=q.1∧RelV p.2 q.2
def kV:Key→V
 | .inl i=>.int i
 | .inr x=>.str x
inductive HO where
 /-- a list -/
 | lst (xs:List V)
 /-- a tuple (never changes) -/
 | tup (xs:List V)
 /-- a dict whose keys are ints and texts; one whose keys are tuples of ints and texts (the empty one is both) -/
 | dK (kvs:List (Key×V)) | dT (kvs:List (List Key×V))
 /-- a set of ints: its members,its size -/
 | set (S:Int→Bool) (n:Nat)
 /-- an instance of the class at C,its dict at dx,its attributes -/
 | ins (C dx:Addr) (fs:List (Str×V))
 /-- the dict of the instance at x -/
 | own (x:Addr)
 /-- the dict of an exception -/
 | xd (fs:List (Str×V))
 /-- a bound method,f of x -/
 | met (f x:Addr)
 /-- a range object lo,lo+1,.. below hi -/
 | rng (lo hi:Int)
 /-- a thing that is known to the object (the script; a dict while a loop walks it): read,never written while it is so -/
 | frz (o:Obj) (u:HO)
 /-- a code object's table -/
 | tbl (ps:Array Value)
 /-- any other thing,by what is true of its one object (a def of one's own: SetO a S n:=HO.ext fun h=>..) -/
 | ext (φ:Heap→Prop)
abbrev Hp:=Addr→Option HO
def upd (H:Hp)(a:Addr)(o:HO):Hp:=fun b=>if b=a then some o else H b
theorem z01 {H:Hp}{a:Addr}{o:HO}:upd H a o a=some o:=by unfold upd; rw [if_pos rfl]
theorem z0a {H:Hp}{a b:Addr}{o:HO}(h:b≠a):upd H a o b=H b:=by unfold upd; rw [if_neg h]
theorem z66 {H:Hp}{a b:Addr}{o u:HO}(h:H a=some o)(h':H b=some u)(d:o≠u):a≠b:=by
 intro e; subst e; rw [h] at h'; exact d (y14 h')
theorem z08 {H:Hp}{a b:Addr}{o:HO}(h:H a=some o)(h':H b=none):a≠b:=by
 intro e; subst e; rw [h] at h'; cases h'
section
variable (P:Program)(w:World)
def ObjOk (H:Hp)(h:Heap)(a:Addr):HO→Prop
 | .lst xs=>xs.length≤sizeLine∧∃(its:List Value) (n:Nat),Vals xs its∧h.get? a=some { cls:=.type "list",data:=.seq its.toArray n }
 | .tup xs=>xs.length≤sizeLine∧∃its:List Value,Vals xs its∧IsTup h a its.toArray
 | .dK kvs=>kvs.length≤sizeLine∧(a==sysModules)=false∧∃vs,KV kvs vs∧h.DictOf (z32 P w) a vs
 | .dT kvs=>kvs.length≤sizeLine∧(a==sysModules)=false∧∃xs:List (List Key×Addr×Value),
   Paired (fun (p:List Key×V) (q:List Key×Addr×Value)=>p.1=q.1∧H q.2.1=some (.tup (p.1.map kV))∧RelV p.2 q.2.2) kvs xs ∧
   ∃o es ep,h.get? a=some o∧o.ExactDict∧o.data = .dict es ep∧es.toList=xs.map (entryOfKey (tupleKind (z32 P w)))∧(xs.map (·.1)).Nodup
 | .set S n=>h.SetOf (intKind P w) a S n
 | .ins C dx fs=>H dx=some (.own a)∧fs.length≤1000∧dx≠a∧h.get? a=some (y2v C dx) ∧
   ∃mA,h.Ns1 dx mA∧(∀f,RelO (fs.lookup f) (mA f))∧y6g mA (fs.map (·.1))
 | .own _=>∃o,h.get? a=some o
 | .xd fs=>∃mA,h.Ns1 a mA∧∀f,RelO (fs.lookup f) (mA f)
 | .rng lo hi=>∃t u v,h.get? a=some { cls:=.type "range",data:=.fields #[.int lo t,.int hi u,.int 1 v] }
 | .frz o u=>h.get? a=some o∧ObjOk H h a u
 | .tbl ps=>h.get? a=some { cls:=.none,data:=.fields ps }
 | .met f x=>h.get? a=some (y4x (.ref f) (.ref x))
 | .ext φ=>φ h∧(∃o,h.get? a=some o)∧∀h1 h2:Heap,φ h1→(∀o,h1.get? a=some o→h2.get? a=some o)→φ h2
def HOk (H:Hp)(h:Heap):Prop:=∀a o,H a=some o→ObjOk P w H h a o
end
section
variable {P:Program}{w:World}{H H':Hp}{h h':Heap}{a:Addr}{o:HO}
theorem ObjOk.lt (x:ObjOk P w H h a o):a<h.objs.size:=by
 cases o with
 | lst xs=>obtain⟨_,_,_,_,e⟩:=x; exact Heap.lt_size e
 | tup xs=>obtain⟨_,_,_,p⟩:=x; exact p.lt
 | dK kvs=>obtain⟨_,_,_,_,o,_,_,e,_⟩:=x; exact Heap.lt_size e
 | dT kvs=>obtain⟨_,_,_,_,o,_,_,e,_⟩:=x; exact Heap.lt_size e
 | set S n=>obtain⟨o,_,_,_,e,_⟩:=x; exact Heap.lt_size e
 | ins C dx fs=>obtain⟨_,_,_,e,_⟩:=x; exact Heap.lt_size e
 | own y=>obtain⟨_,e⟩:=x; exact Heap.lt_size e
 | xd fs=>obtain⟨_,⟨_,_,_,e,_⟩,_⟩:=x; exact Heap.lt_size e
 | rng lo hi=>obtain⟨_,_,_,e⟩:=x; exact Heap.lt_size e
 | frz ob u=>obtain⟨e,_⟩:=x; exact Heap.lt_size e
 | tbl ps=>exact Heap.lt_size (show h.get? a=some _ from x)
 | met f y=>exact Heap.lt_size (show h.get? a=some _ from x)
 | ext φ=>obtain⟨_,⟨_,e⟩,_⟩:=x; exact Heap.lt_size e
theorem Paired.mapP {α β:Type}{F G:α→β→Prop}:∀{l₁:List α} {l₂:List β},Paired F l₁ l₂→(∀a b,F a b→G a b)→Paired G l₁ l₂
 | _,_,.nil,_=>.nil
 | _,_,.cons r t,f=>.cons (f _ _ r) (Paired.mapP t f)
theorem ObjOk.stay (x:ObjOk P w H h a o)(k:∀b u,(b=a∨H b=some (.own a))→h.get? b=some u→h'.get? b=some u)
  (ho:∀b,H b=some (.own a)→H' b=some (.own a)) (ht:∀b xs,H b=some (.tup xs)→H' b=some (.tup xs)):ObjOk P w H' h' a o:=by
 induction o with
 | lst xs=>obtain⟨z,its,n,r,e⟩:=x; exact⟨z,its,n,r,k _ _ (.inl rfl) e⟩
 | tup xs=>obtain⟨z,its,r,ob,e,c⟩:=x; exact⟨z,its,r,ob,k _ _ (.inl rfl) e,c⟩
 | dK kvs=>obtain⟨z,y,vs,r,ob,es,ep,e,c⟩:=x; exact⟨z,y,vs,r,ob,es,ep,k _ _ (.inl rfl) e,c⟩
 | dT kvs =>
  obtain⟨z,y,xs,r,ob,es,ep,e,c⟩:=x
  exact⟨z,y,xs,Paired.mapP r fun p q z=>⟨z.1,ht _ _ z.2.1,z.2.2⟩,ob,es,ep,k _ _ (.inl rfl) e,c⟩
 | set S n=>obtain⟨ob,es,ep,t,e,c⟩:=x; exact⟨ob,es,ep,t,k _ _ (.inl rfl) e,c⟩
 | ins C dx fs =>
  obtain⟨d,z,ne,e,mA,⟨od,es,ep,e2,c⟩,r⟩:=x
  exact⟨ho _ d,z,ne,k _ _ (.inl rfl) e,mA,⟨od,es,ep,k _ _ (.inr d) e2,c⟩,r⟩
 | own y=>obtain⟨ob,e⟩:=x; exact⟨ob,k _ _ (.inl rfl) e⟩
 | xd fs=>obtain⟨mA,⟨od,es,ep,e,c⟩,r⟩:=x; exact⟨mA,⟨od,es,ep,k _ _ (.inl rfl) e,c⟩,r⟩
 | rng lo hi=>obtain⟨t,u,v,e⟩:=x; exact⟨t,u,v,k _ _ (.inl rfl) e⟩
 | frz ob u ih=>obtain⟨e,q⟩:=x; exact⟨k _ _ (.inl rfl) e,ih q⟩
 | tbl ps =>
  have e:h.get? a=some { cls:=.none,data:=.fields ps }:=x
  show h'.get? a=some { cls:=.none,data:=.fields ps }
  exact k a _ (.inl rfl) e
 | met f y =>
  have e:h.get? a=some (y4x (.ref f) (.ref y)):=x
  show h'.get? a=some (y4x (.ref f) (.ref y))
  exact k a _ (.inl rfl) e
 | ext φ=>obtain⟨p,⟨o,e⟩,st⟩:=x; exact⟨st _ _ p fun o q=>k _ _ (.inl rfl) q,⟨o,k _ _ (.inl rfl) e⟩,st⟩
theorem HOk.lt (x:HOk P w H h)(e:H a=some o):a<h.objs.size:=(x a o e).lt
theorem HOk.fresh (x:HOk P w H h)(e:h.objs.size≤a):H a=none:=by
 cases q:H a with
 | none=>rfl
 | some u=>exact absurd (y0p (x.lt q) e) (y2k _)
theorem HOk.kept (x:HOk P w H h)(k:∀b u,h.get? b=some u→h'.get? b=some u):HOk P w H h':=fun a o e =>
 (x a o e).stay (fun b u _ q=>k b u q) (fun _ q=>q) fun _ _ q=>q
theorem HOk.laid (x:HOk P w H h)(k:∀b u,h.get? b=some u→h'.get? b=some u)(hp:h.objs.size≤a)(new:ObjOk P w (upd H a o) h' a o):HOk P w (upd H a o) h':=fun b u e=>by
 have hn:=x.fresh hp
 by_cases hb:b=a
 ·subst hb; rw [z01] at e; cases e; exact new
 ·rw [z0a hb] at e
  exact(x b u e).stay (fun c v _ q=>k c v q) (fun c q=>by rw [z0a (z08 q hn)]; exact q) fun c xs q=>by rw [z0a (z08 q hn)]; exact q
end
def Rd (H:Hp)(a:Addr)(u:HO):Prop:=H a=some u∨∃o,H a=some (.frz o u)
theorem Rd.ok {P:Program}{w:World}{H:Hp}{h:Heap}{a:Addr}{u:HO}(r:Rd H a u)(x:HOk P w H h):ObjOk P w H h a u:=by
 rcases r with r | ⟨o,r⟩
 ·exact x a u r
 ·obtain⟨_,q⟩:=x a _ r
  exact q
def Mut:Option HO→Prop
 | some (.lst _)=>True
 | some (.dK _)=>True
 | some (.dT _)=>True
 | some (.set _ _)=>True
 | some (.ins _ _ _)=>True
 | some (.ext _)=>True
 | _=>False
section
variable {P:Program}{w:World}{H:Hp}{h h':Heap}{x e:Addr}{o':HO}
theorem HOk.write (ok:HOk P w H h)(mu:Mut (H x))(he:e=x∨H e=some (.own x))(k:∀b u,b≠e→h.get? b=some u→h'.get? b=some u)(heo:∃u,h'.get? e=some u)
  (new:ObjOk P w (upd H x o') h' x o'):HOk P w (upd H x o') h':=fun b u q=>by
 have nown:∀c y,H c=some (.own y)→c≠x:=fun c y r z=>by subst z; rw [r] at mu; exact mu
 have ntup:∀c xs,H c=some (.tup xs)→c≠x:=fun c xs r z=>by subst z; rw [r] at mu; exact mu
 by_cases hb:b=x
 ·subst hb; rw [z01] at q; cases q; exact new
 ·rw [z0a hb] at q
  by_cases hbe:b=e
  ·have q':H b=some (.own x):=by
    rcases he with z | z
    ·exact absurd (hbe.trans z) hb
    ·rw [hbe]; exact z
   rw [q] at q'; cases q'
   obtain⟨v,hv⟩:=heo
   exact⟨v,by rw [hbe]; exact hv⟩
  ·refine(ok b u q).stay (fun c v hc r=>k c v ?_ r) (fun c r=>by rw [z0a (nown c b r)]; exact r) fun c xs r=>by rw [z0a (ntup c xs r)]; exact r
   rcases hc with rfl | hc
   ·exact hbe
   ·rintro rfl
    rcases he with z | z
    ·exact nown c b hc z
    ·rw [hc] at z; cases z; exact hb rfl
end
structure Un (fs ex:List Addr)(H H':Hp)(h h':Heap):Prop where
 keep:∀b o,h.get? b=some o→H b=none→b ∉ fs→b ∉ ex→h'.get? b=some o
 slot:∀b o,h.get? b=some o→H b=none→b∈fs→b ∉ ex→∃sl,h'.get? b=some { o with slots:=sl }
 free:∀b o,h.get? b=some o→H b=none→b ∉ ex→H' b=none
 there:∀b o,h.get? b=some o→b ∉ ex→∃o',h'.get? b=some o'
 tups:∀b xs,H b=some (.tup xs)→H' b=some (.tup xs)
 frzs:∀b o u,H b=some (.frz o u)→H' b=some (.frz o u)
 tbls:∀b ps,H b=some (.tbl ps)→∃more,H' b=some (.tbl (ps++more))
section
variable {fs fs' ex ex':List Addr}{H H1 H2:Hp}{h h1 h2 h':Heap}{a x e:Addr}{o:HO}
theorem Un.any (u:Un fs ex H H1 h h1){b:Addr}{ob:Obj}(q:h.get? b=some ob)(n:H b=none)(hx:b ∉ ex):∃sl,h1.get? b=some { ob with slots:=sl }:=by
 by_cases hb:b∈fs
 ·exact u.slot b ob q n hb hx
 ·exact⟨ob.slots,u.keep b ob q n hb hx⟩
theorem Un.kept (k:∀b u,h.get? b=some u→h'.get? b=some u):Un fs ex H H h h' :=
 ⟨fun b ob q _ _ _=>k b ob q,fun b ob q _ _ _=>⟨ob.slots,k b ob q⟩,fun _ _ _ n _=>n,fun b ob q _=>⟨ob,k b ob q⟩,fun _ _ q=>q,fun _ _ _ q=>q,fun _ ps q=>⟨#[],by rw [q]; simp⟩⟩
theorem Un.refl:Un fs ex H H h h:=Un.kept fun _ _ q=>q
theorem Un.laid (k:∀b u,h.get? b=some u→h'.get? b=some u)(hp:h.objs.size≤a)(hn:H a=none):Un fs ex H (upd H a o) h h' where
 keep:=fun b u q _ _ _=>k b u q
 slot:=fun b u q _ _ _=>⟨u.slots,k b u q⟩
 free:=fun b u q n _=>by rw [z0a (y0x (y0p (Heap.lt_size q) hp))]; exact n
 there:=fun b u q _=>⟨u,k b u q⟩
 tups:=fun b xs q=>by rw [z0a (z08 q hn)]; exact q
 frzs:=fun b u xs q=>by rw [z0a (z08 q hn)]; exact q
 tbls:=fun b ps q=>⟨#[],by rw [z0a (z08 q hn),q]; simp⟩
theorem Un.write (mu:Mut (H x))(he:e=x∨H e=some (.own x))(k:∀b u,b≠e→h.get? b=some u→h'.get? b=some u)(heo:∃u,h'.get? e=some u):Un fs ex H (upd H x o) h h':=by
 have hx:∀b,H b=none→b≠x:=fun b n z=>by subst z; rw [n] at mu; exact mu
 have hb:∀b,H b=none→b≠e:=fun b n z=>by
  subst z
  rcases he with r | r
  ·exact hx b n r
  ·rw [n] at r; cases r
 have hm:∀b u,H b=some u→¬Mut (some u)→b≠x:=fun b u q nm z=>by subst z; rw [q] at mu; exact nm mu
 refine⟨fun b u q n _ _=>k b u (hb b n) q,fun b u q n _ _=>⟨u.slots,k b u (hb b n) q⟩,fun b u q n _=>by rw [z0a (hx b n)]; exact n,fun b u q _=>?_,
  fun b xs q=>by rw [z0a (hm b _ q fun z=>z)]; exact q,fun b u xs q=>by rw [z0a (hm b _ q fun z=>z)]; exact q,fun b ps q=>⟨#[],by rw [z0a (hm b _ q fun z=>z),q]; simp⟩⟩
 by_cases hbe:b=e
 ·subst hbe; exact heo
 ·exact⟨u,k b u hbe q⟩
end
def trk (h:Heap)(H:Hp):List Addr:=(y0c h.objs.size).filter fun a=>(H a).isSome
def zig (h:Heap)(H:Hp):Heap:=PySem.W.hideAll h (trk h H)
theorem zfa (h:Heap)(H:Hp):(zig h H).objs.size=h.objs.size:=PySem.W.hideAll_size _ _
theorem zi8 {h:Heap}{H:Hp}{b:Addr}{o:Obj}(e:h.get? b=some o)(n:H b=none):(zig h H).get? b=some o :=
 PySem.W.hideAll_get _ e fun hm=>by
  have q:(H b).isSome=true:=(y15.mp hm).2
  rw [n] at q; simp at q
theorem zlh {h:Heap}{H:Hp}{b:Addr}{o:Obj}(e:(zig h H).get? b=some o):h.get? b=some o∧H b=none:=by
 have e':h.get? b=some o:=PySem.W.of_hideAll (trk h H) e
 refine⟨e',?_⟩
 cases q:H b with
 | none=>rfl
 | some x =>
  have hm:b∈trk h H:=y15.mpr ⟨y1n.mpr (Heap.lt_size e'),by simp [q]⟩
  have z:(zig h H).get? b=none:=PySem.W.hideAll_none (trk h H) hm
  rw [z] at e; cases e
def zkh (g h:Heap)(L:Addr):List (Addr×Obj):=(y0c h.objs.size).filterMap fun a=>if a=L∨(g.get? a).isSome=true then none else (h.get? a).map fun o=>(a,o)
def rest (g h:Heap)(L d:Addr):List (Addr×Obj):=(zkh g h L).filter fun p=>decide (p.1≠d)
end L2
namespace L2
open PySem PySem.Spec PyProof.Rows
structure Mod (K:y02)(mg:Str→Option Value)(base:Heap):Prop where
 kin:K.In base
 glob:base.Ns mainGlobals mg
 blt:∃mb,base.Ns builtinsNs mb∧∀x:Str,x ≠ "__name__"→mb x=bootBuiltins x
 nolimit:base.NoLimit
structure Cx where
 prog:Program
 w:World
 K:y02
 mg:Str→Option Value
 base:Heap
 A:Around
 N:List Str
 s₀:Shared
 H₀:Hp
 env:Env
 outer:List Env
 stack:List Env
 ex:List Addr
 fn:Str→Bool
 calm:Bool
 pn:List (Addr×Obj)
 xe:Value→Shared→Prop
def frs (l:List Env):List Addr:=l.filterMap (·.frame)
abbrev Cx.fs (X:Cx):List Addr:=frs X.outer
def Vis (sc:Scope)(x:Str):Prop:=sc.names.lookup x=some .local∨sc.names.lookup x=some .cell∨sc.names.lookup x=some .free
def Loc (sc:Scope)(x:Str):Prop:=sc.names.lookup x=some .local∨sc.names.lookup x=some .cell
def zqb (env:Env)(h:Heap)(m:Str→Option Value)(x:Str)(u:Value):Prop :=
 (env.kindOf x=some .local∧m x=some u)∨((env.kindOf x=some .cell∨env.kindOf x=some .free)∧∃c,env.cells.lookup x=some c∧h.IsCell c (some u))
structure Cx.Ok (X:Cx):Prop where
 mod:Mod X.K X.mg X.base
 kind:X.env.scope.kind = .function
 glob:X.env.globals=mainGlobals
 blt:X.env.builtins=builtinsNs
 above:X.s₀.heap.objs.size≤X.env.locals
 inj:∀x y c,X.env.cells.lookup x=some c→X.env.cells.lookup y=some c→x=y
 has:∀x,(X.env.kindOf x=some .cell∨X.env.kindOf x=some .free)→∃c,X.env.cells.lookup x=some c
 cab:∀x c,X.fn x=true→X.env.cells.lookup x=some c→X.s₀.heap.objs.size≤c
 hd:X.calm=true→X.A.handled=none
 frames:X.A.frames=some X.stack
 stk:X.stack=X.outer∨(X.stack=X.env::X.outer∧X.env.frame=some X.env.locals)
 exf:∀b∈X.ex,b≠X.env.locals∧∀x c,X.env.cells.lookup x=some c→c≠b
 bs:∀b o,X.base.get? b=some o→X.s₀.heap.get? b=some o∧X.H₀ b=none
 bsz:X.base.objs.size≤X.s₀.heap.objs.size
 noex:∀b o,X.base.get? b=some o→b ∉ X.ex
 exfs:∀b∈X.ex,b ∉ X.fs
 funs:X.s₀.heap.FunFrames X.base X.outer
 frf:∀b∈X.fs,X.H₀ b=none
structure Inv (X:Cx)(pins:List (Addr×Obj))(σ:List (Option V))(H:Hp)(s:Shared):Prop where
 ok:X.Ok
 os:s.os=X.s₀.os
 bare:AllBare s.gens
 base:Un X.fs X.ex X.H₀ H X.s₀.heap s.heap
 loc:∃m,s.heap.Ns X.env.locals m∧∀(i:Nat) (x:Str) (v:V),X.N[i]?=some x→σ[i]?=some (some v)→Vis X.env.scope x→∃u,RelV v u∧zqb X.env s.heap m x u
 cell:∀x c,X.env.cells.lookup x=some c→∃v,s.heap.IsCell c v
 free:H X.env.locals=none
 freeC:∀x c,X.env.cells.lookup x=some c→H c=none
 pin:∀p∈X.pn++pins,s.heap.get? p.1=some p.2∧H p.1=none∧p.1≠X.env.locals∧p.1 ∉ X.fs∧∀v,p.2.data ≠ .cell v
 hok:HOk X.prog X.w H s.heap
 len:σ.length=X.N.length
section
variable {X:Cx}{pins:List (Addr×Obj)}{σ:List (Option V)}{H H':Hp}{s:Shared}{h':Heap}
theorem Cx.Ok.nofr (ok:X.Ok){b:Addr}{o:Obj}(e:X.base.get? b=some o):b ∉ X.fs:=fun hb=>by
 have:=(ok.funs.mem hb).1
 rw [e] at this; cases this
theorem Inv.bs (I:Inv X pins σ H s):∀b o,X.base.get? b=some o→s.heap.get? b=some o∧H b=none:=fun b o e =>
 ⟨I.base.keep b o (I.ok.bs b o e).1 (I.ok.bs b o e).2 (I.ok.nofr e) (I.ok.noex b o e),I.base.free b o (I.ok.bs b o e).1 (I.ok.bs b o e).2 (I.ok.noex b o e)⟩
theorem Inv.bk (I:Inv X pins σ H s):∀b o,X.base.get? b=some o→s.heap.get? b=some o:=fun b o e=>(I.bs b o e).1
theorem Inv.mod (I:Inv X pins σ H s):Mod X.K X.mg X.base:=I.ok.mod
theorem Inv.kIn (I:Inv X pins σ H s):X.K.In s.heap:=I.ok.mod.kin.keeps I.bk
theorem Inv.lt (I:Inv X pins σ H s):X.env.locals<s.heap.objs.size:=let ⟨_,hn,_⟩:=I.loc; hn.lt
theorem Inv.sz (I:Inv X pins σ H s):X.s₀.heap.objs.size≤s.heap.objs.size:=y19 I.ok.above (y4p I.lt)
theorem Inv.nofs (I:Inv X pins σ H s){a:Addr}(h:s.heap.objs.size≤a):a ∉ X.fs:=fun hb=>by
 obtain⟨_,o,ho,_⟩:=I.ok.funs.mem hb
 exact absurd (y0p (Heap.lt_size ho) (y19 I.sz h)) (y2k _)
theorem Inv.cne (I:Inv X pins σ H s):∀x c,X.env.cells.lookup x=some c→c≠X.env.locals:=fun x c e z=>by
 obtain⟨v,o,ho,hd⟩:=I.cell x c e
 obtain⟨m,⟨o',es,ep,ho',hd',_⟩,_⟩:=I.loc
 rw [z,ho'] at ho; cases ho; rw [hd'] at hd; cases hd
theorem Inv.funs (I:Inv X pins σ H s):s.heap.FunFrames X.base X.outer:=by
 have all:∀(l:List Env),(∀b∈frs l,b∈X.fs)→X.s₀.heap.FunFrames X.base l→s.heap.FunFrames X.base l:=by
  intro l
  induction l with
  | nil=>intro _ _; trivial
  | cons env r ih =>
   intro hs hl
   obtain⟨hk,⟨L,o,hf,hn,ho,hd⟩,hr⟩:=hl
   have hL:L∈X.fs:=hs L (by unfold frs; rw [y2i,hf]; exact y0d)
   obtain⟨sl,e⟩:=I.base.slot L o ho (I.ok.frf L hL) hL fun z=>I.ok.exfs L z hL
   exact⟨hk,⟨L,_,hf,hn,e,hd⟩,ih (fun b hb=>hs b (by unfold frs; rw [y2i,hf]; exact y08 _ hb)) hr⟩
 exact all X.outer (fun _ hb=>hb) I.ok.funs
theorem Inv.stack (I:Inv X pins σ H s):s.heap.FunFrames X.base X.stack:=by
 rcases I.ok.stk with e | ⟨e,hf⟩
 ·rw [e]; exact I.funs
 ·rw [e]
  obtain⟨m,hn,_⟩:=I.loc
  refine .cons (by rw [I.ok.kind]; decide) hf hn ?_ I.funs
  exact Heap.get?_none_of_le (y19 I.ok.bsz I.ok.above)
theorem Inv.stkSub (I:Inv X pins σ H s):∀b∈frs X.stack,b∈X.env.locals::X.fs:=fun b hb=>by
 rcases I.ok.stk with e | ⟨e,hf⟩
 ·rw [e] at hb; exact y08 _ hb
 ·rw [e] at hb
  unfold frs at hb
  rw [y2i,hf] at hb
  exact hb
theorem Inv.stkFree (I:Inv X pins σ H s):∀b∈frs X.stack,H b=none:=fun b hb=>by
 rcases y0k.mp (I.stkSub b hb) with e | hb
 ·rw [e]; exact I.free
 ·obtain⟨_,o,ho,_⟩:=I.ok.funs.mem hb
  exact I.base.free b o ho (I.ok.frf b hb) fun z=>I.ok.exfs b z hb
theorem Inv.step {g':Array GenState}{t':Nat}{d':Drawn}{ch:List Addr}(I:Inv X pins σ H s)
  (hch:∀b∈ch,(b∈X.ex∨X.s₀.heap.objs.size≤b)∧b≠X.env.locals∧(∀x c,X.env.cells.lookup x=some c→c≠b)∧∀p∈X.pn++pins,p.1≠b)
  (keep:∀b o,b≠X.env.locals→b ∉ X.fs→b ∉ ch→s.heap.get? b=some o→H b=none→h'.get? b=some o)
  (slot:∀b o,b≠X.env.locals→b∈X.fs→b ∉ ch→s.heap.get? b=some o→H b=none→∃sl,h'.get? b=some { o with slots:=sl }) (free:∀b o,b ∉ ch→s.heap.get? b=some o→H b=none→H' b=none)
  (there:∀b o,b ∉ ch→s.heap.get? b=some o→∃o',h'.get? b=some o')
  (tups:∀b xs,H b=some (.tup xs)→H' b=some (.tup xs)) (frzs:∀b o u,H b=some (.frz o u)→H' b=some (.frz o u)) (tbls:∀b ps,H b=some (.tbl ps)→∃more,H' b=some (.tbl (ps++more)))
  (ns:∀m,s.heap.Ns X.env.locals m→h'.Ns X.env.locals m) (hok:HOk X.prog X.w H' h') (hg:AllBare g') :
  Inv X pins σ H' { s with heap:=h',gens:=g',drawn:=d',toks:=t' }:=by
 have neL:∀b o,X.s₀.heap.get? b=some o→b≠X.env.locals:=fun b o e=>y0x (y0p (Heap.lt_size e) I.ok.above)
 have neC:∀b o,X.s₀.heap.get? b=some o→b ∉ X.ex→b ∉ ch:=fun b o e hx hb=>by
  rcases (hch b hb).1 with z | z
  ·exact hx z
  ·exact absurd (y0p (Heap.lt_size e) z) (y2k _)
 have cellK:∀x c,X.env.cells.lookup x=some c→∀v,s.heap.IsCell c v→h'.IsCell c v:=fun x c e v ⟨o,ho,hd⟩=>by
  have nch:c ∉ ch:=fun z=>(hch c z).2.2.1 x c e rfl
  by_cases hc:c∈X.fs
  ·obtain⟨sl,q⟩:=slot c o (I.cne x c e) hc nch ho (I.freeC x c e)
   exact⟨_,q,hd⟩
  ·exact⟨o,keep c o (I.cne x c e) hc nch ho (I.freeC x c e),hd⟩
 refine⟨I.ok,I.os,hg,⟨fun b o e n hb hx=>?_,fun b o e n hb hx=>?_,fun b o e n hx=>?_,fun b o e hx=>?_,fun b xs e=>tups b xs (I.base.tups b xs e),fun b o xs e=>frzs b o xs (I.base.frzs b o xs e),fun b ps e=>?_⟩,?_,fun x c e=>?_,?_,fun x c e=>?_,fun p hp=>?_,hok,I.len⟩
 ·exact keep b o (neL b o e) hb (neC b o e hx) (I.base.keep b o e n hb hx) (I.base.free b o e n hx)
 ·obtain⟨sl,e1⟩:=I.base.slot b o e n hb hx
  obtain⟨sl',e2⟩:=slot b _ (neL b o e) hb (neC b o e hx) e1 (I.base.free b o e n hx)
  exact⟨sl',e2⟩
 ·obtain⟨o',e1⟩:=I.base.there b o e hx
  exact free b o' (neC b o e hx) e1 (I.base.free b o e n hx)
 ·obtain⟨o',e1⟩:=I.base.there b o e hx
  exact there b o' (neC b o e hx) e1
 ·obtain⟨m1,e1⟩:=I.base.tbls b ps e
  obtain⟨m2,e2⟩:=tbls b _ e1
  exact⟨m1++m2,by rw [e2,Array.append_assoc]⟩
 ·obtain⟨m,hn,hl⟩:=I.loc
  refine⟨m,ns m hn,fun i x v e1 e2 e3=>?_⟩
  obtain⟨u,r,l⟩:=hl i x v e1 e2 e3
  refine⟨u,r,?_⟩
  rcases l with l | ⟨k,c,e,z⟩
  ·exact .inl l
  ·exact .inr ⟨k,c,e,cellK x c e _ z⟩
 ·obtain⟨v,z⟩:=I.cell x c e
  exact⟨v,cellK x c e v z⟩
 ·obtain⟨m,⟨o,_,_,ho,_⟩,_⟩:=I.loc
  exact free _ o (fun z=>(hch _ z).2.1 rfl) ho I.free
 ·obtain⟨v,o,ho,hd⟩:=I.cell x c e
  exact free c o (fun z=>(hch c z).2.2.1 x c e rfl) ho (I.freeC x c e)
 ·obtain⟨e,n,ne,nf,d⟩:=I.pin p hp
  have nch:p.1 ∉ ch:=fun z=>(hch p.1 z).2.2.2 p hp rfl
  exact⟨keep p.1 p.2 ne nf nch e n,free p.1 p.2 nch e n,ne,nf,d⟩
theorem Inv.un {t':Nat}(I:Inv X pins σ H s)(u:Un X.fs [] H H' s.heap h')(hok:HOk X.prog X.w H' h'):Inv X pins σ H' { s with heap:=h',toks:=t' }:=by
 obtain⟨m,⟨o,es,ep,ho,r⟩,_⟩:=id I.loc
 obtain⟨sl,hL⟩:=u.any ho I.free (by simp)
 exact I.step (g':=s.gens) (d':=s.drawn) (ch:=[]) (fun _ z=>nomatch z) (fun b o _ hb _ e n=>u.keep b o e n hb (by simp)) (fun b o _ hb _ e n=>u.slot b o e n hb (by simp)) (fun b o _ e n=>u.free b o e n (by simp)) (fun b o _ e=>u.there b o e (by simp)) u.tups u.frzs u.tbls (fun m' hm=>by
  obtain⟨o',es',ep',ho',r'⟩:=hm
  rw [ho] at ho'; cases ho'
  exact⟨_,es',ep',hL,r'⟩) hok I.bare
theorem Inv.call {g':Array GenState}{t':Nat}{d':Drawn}{ch:List Addr}(I:Inv X pins σ H s)(u:Un (frs X.stack) ch H H' s.heap h')(hok:HOk X.prog X.w H' h')(hg:AllBare g')
  (hch:∀b∈ch,(b∈X.ex∨X.s₀.heap.objs.size≤b)∧b≠X.env.locals∧(∀x c,X.env.cells.lookup x=some c→c≠b)∧∀p∈X.pn++pins,p.1≠b) :
  Inv X pins σ H' { s with heap:=h',gens:=g',drawn:=d',toks:=t' }:=by
 obtain⟨m,⟨o,es,ep,ho,r⟩,_⟩:=id I.loc
 obtain⟨sl,hL⟩:=u.any ho I.free fun z=>(hch _ z).2.1 rfl
 exact I.step (ch:=ch) hch (fun b o hL hb hc e n=>u.keep b o e n (fun z=>(y0k.mp (I.stkSub b z)).elim hL hb) hc) (fun b o _ _ hc e n=>u.any e n hc) (fun b o hc e n=>u.free b o e n hc) (fun b o hc e=>u.there b o e hc) u.tups u.frzs u.tbls (fun m' hm=>by
  obtain⟨o',es',ep',ho',r'⟩:=hm
  rw [ho] at ho'; cases ho'
  exact⟨_,es',ep',hL,r'⟩) hok hg
theorem Inv.turned {t':Nat}{it:Addr}(I:Inv X pins σ H s)(k:∀b o,b≠it→s.heap.get? b=some o→h'.get? b=some o)(hn:H it=none)(hL:it≠X.env.locals)
  (h1:it∈X.ex∨X.s₀.heap.objs.size≤it) (h2:∀x c,X.env.cells.lookup x=some c→c≠it) (h3:∀p∈X.pn++pins,p.1≠it):Inv X pins σ H { s with heap:=h',toks:=t' }:=by
 have nit:∀b u,H b=some u→b≠it:=fun b u e z=>by rw [z,hn] at e; cases e
 refine I.step (g':=s.gens) (d':=s.drawn) (ch:=[it]) (fun b hb=>?_) (fun b o _ _ hc e _=>k b o (fun z=>hc (by simp [z])) e) (fun b o _ _ hc e _=>⟨o.slots,k b o (fun z=>hc (by simp [z])) e⟩) (fun _ _ _ _ n=>n)
  (fun b o hc e=>⟨o,k b o (fun z=>hc (by simp [z])) e⟩) (fun _ _ e=>e) (fun _ _ _ e=>e) (fun b ps e=>⟨#[],by rw [e]; simp⟩) (fun m hm=>?_) (fun b u e=>?_) I.bare
 ·have e:b=it:=by simpa using hb
  subst e
  exact⟨h1,hL,h2,h3⟩
 ·obtain⟨o,es,ep,ho,r⟩:=hm
  exact⟨o,es,ep,k _ o (Ne.symm hL) ho,r⟩
 ·refine(I.hok b u e).stay (fun c v hc q=>k c v ?_ q) (fun _ q=>q) fun _ _ q=>q
  rcases hc with z | z
  ·rw [z]; exact nit b u e
  ·exact nit c _ z
theorem Inv.tok (I:Inv X pins σ H s)(t:Nat):Inv X pins σ H { s with toks:=t }:=I.un (h':=s.heap) (t':=t) Un.refl I.hok
theorem Inv.kept {t':Nat}(I:Inv X pins σ H s)(k:∀b u,s.heap.get? b=some u→h'.get? b=some u):Inv X pins σ H { s with heap:=h',toks:=t' }:=I.un (Un.kept k) (I.hok.kept k)
theorem Inv.laid {a:Addr}{o:HO}{t':Nat}(I:Inv X pins σ H s)(k:∀b u,s.heap.get? b=some u→h'.get? b=some u)(hp:s.heap.objs.size≤a)(new:ObjOk X.prog X.w (upd H a o) h' a o) :
  Inv X pins σ (upd H a o) { s with heap:=h',toks:=t' }:=I.un (Un.laid k hp (I.hok.fresh hp)) (I.hok.laid k hp new)
theorem Inv.write {x e:Addr}{o:HO}{t':Nat}(I:Inv X pins σ H s)(mu:Mut (H x))(he:e=x∨H e=some (.own x))(k:∀b u,b≠e→s.heap.get? b=some u→h'.get? b=some u)(heo:∃u,h'.get? e=some u)
  (new:ObjOk X.prog X.w (upd H x o) h' x o):Inv X pins σ (upd H x o) { s with heap:=h',toks:=t' }:=I.un (Un.write mu he k heo) (I.hok.write mu he k heo new)
theorem Inv.weak {σ':List (Option V)}(I:Inv X pins σ H s)(hl:σ'.length = σ.length)(w:∀(i:Nat) v,σ'[i]?=some (some v)→σ[i]?=some (some v)):Inv X pins σ' H s :=
 ⟨I.ok,I.os,I.bare,I.base,let ⟨m,hn,hl'⟩:=I.loc; ⟨m,hn,fun i x v e1 e2 e3=>hl' i x v e1 (w i v e2) e3⟩,I.cell,I.free,I.freeC,I.pin,I.hok,hl.trans I.len⟩
theorem Inv.pins_of {pins':List (Addr×Obj)}(I:Inv X pins σ H s)(h:∀p∈pins',s.heap.get? p.1=some p.2∧H p.1=none∧p.1≠X.env.locals∧p.1 ∉ X.fs∧∀v,p.2.data ≠ .cell v):Inv X pins' σ H s :=
 ⟨I.ok,I.os,I.bare,I.base,I.loc,I.cell,I.free,I.freeC,fun p hp=>(y0u.mp hp).elim (fun z=>I.pin p (y3m _ z)) (h p),I.hok,I.len⟩
theorem zdb {N:List Str}(hN:N.Nodup){i j:Nat}{x:Str}(a:N[i]?=some x)(b:N[j]?=some x):i=j:=by
 obtain⟨h1,e1⟩:=y00.mp a
 obtain⟨h2,e2⟩:=y00.mp b
 exact(List.getElem_inj hN).mp (e1.trans e2.symm)
theorem zf7 {M:Model}{A:Around}{E:Value→Shared→Prop}{i:Nat}{x:Str}{v:V}{u:Value}{Q:Unit→Shared→Prop}(I:Inv X pins σ H s)(hN:X.N.Nodup)(hi:X.N[i]?=some x)(hx:Loc X.env.scope x)(r:RelV v u)
  (h:∀s',Inv X pins (σ.set i (some v)) H s'→(∃a,Heap.SameBut a s.heap s'.heap∧(a=X.env.locals∨X.env.cells.lookup x=some a))→Q () s') (hf:X.fn x=true∨X.env.scope.names.lookup x=some .local:=by first | exact .inl rfl | exact .inr rfl | assumption):wpAny M A (storeName X.env x u) Q E s:=by
 obtain⟨m,hn,hl⟩:=id I.loc
 have hcls:(X.env.scope.kind == .class||(X.env.scope.kind == .module&&X.env.locals != X.env.globals))=false:=by rw [I.ok.kind]; rfl
 have hiσ:i < σ.length:=by rw [I.len]; exact(y00.mp hi).1
 have cne:=I.cne
 have tracked:∀{a:Addr} {h':Heap},(∃o,s.heap.get? a=some o∧H a=none)→Heap.SameBut a s.heap h'→HOk X.prog X.w H h':=fun {a h'} ha hs b ob e=>by
  obtain⟨_,_,hfree⟩:=ha
  refine(I.hok b ob e).stay (fun c w' hc q=>(hs.2 c ?_).trans q) (fun _ q=>q) fun _ _ q=>q
  rintro rfl
  rcases hc with rfl | hc
  ·rw [hfree] at e; cases e
  ·rw [hfree] at hc; cases hc
 rcases hx with hk | hk
 ·refine wpAny_storeName_local hk hn (fun h' hn' hs=>?_) hcls
  obtain⟨oL,_,_,hoL,_⟩:=id hn
  refine h _ ⟨I.ok,I.os,I.bare,⟨fun b o e n hb hx=>?_,fun b o e n hb hx=>?_,I.base.free,fun b o e hx=>?_,I.base.tups,I.base.frzs,I.base.tbls⟩,⟨_,hn',fun j y v' e1 e2 e3=>?_⟩,fun y c e=>?_,I.free,I.freeC,fun p hp=>?_,tracked ⟨oL,hoL,I.free⟩ hs,by simpa using I.len⟩ ⟨_,hs,.inl rfl⟩
  ·exact(hs.2 b (y0x (y0p (Heap.lt_size e) I.ok.above))).trans (I.base.keep b o e n hb hx)
  ·obtain⟨sl,e1⟩:=I.base.slot b o e n hb hx
   exact⟨sl,(hs.2 b (y0x (y0p (Heap.lt_size e) I.ok.above))).trans e1⟩
  ·obtain⟨o',e1⟩:=I.base.there b o e hx
   exact⟨o',(hs.2 b (y0x (y0p (Heap.lt_size e) I.ok.above))).trans e1⟩
  ·by_cases hj:j=i
   ·subst hj
    rw [hi] at e1; cases e1
    rw [y0y hiσ] at e2
    cases e2
    exact⟨u,r,.inl ⟨hk,by simp⟩⟩
   ·rw [y16 (Ne.symm hj)] at e2
    obtain⟨u',r',q⟩:=hl j y v' e1 e2 e3
    refine⟨u',r',?_⟩
    rcases q with ⟨k,e⟩ | ⟨k,c,e,z⟩
    ·refine .inl ⟨k,?_⟩
     have:y≠x:=fun e=>hj (zdb hN e1 (e▸hi))
     simp [this,e]
    ·exact .inr ⟨k,c,e,z.sameBut hs (cne y c e)⟩
  ·obtain⟨w',z⟩:=I.cell y c e
   exact⟨w',z.sameBut hs (cne y c e)⟩
  ·obtain⟨e,n,ne,nf,d⟩:=I.pin p hp
   exact⟨(hs.2 p.1 ne).trans e,n,ne,nf,d⟩
 ·have hfn:X.fn x=true:=by
   rcases hf with z | z
   ·exact z
   ·rw [z] at hk; cases hk
  obtain⟨c,hc⟩:=I.ok.has x (.inl hk)
  obtain⟨w',z⟩:=I.cell x c hc
  refine wpAny_storeName_cell I.ok.kind hk hc z (fun h' hc' hs=>?_)
  obtain⟨oc,hoc,hocd⟩:=id z
  refine h { s with heap:=h' } ⟨I.ok,I.os,I.bare,⟨fun b o e n hb hx=>?_,fun b o e n hb hx=>?_,I.base.free,fun b o e hx=>?_,I.base.tups,I.base.frzs,I.base.tbls⟩,⟨m,hn.sameBut hs (Ne.symm (cne x c hc)),fun j y v' e1 e2 e3=>?_⟩,fun y c' e=>?_,I.free,I.freeC,fun p hp=>?_,tracked ⟨oc,hoc,I.freeC x c hc⟩ hs,by simpa using I.len⟩ ⟨c,hs,.inr hc⟩
  ·exact(hs.2 b (y0x (y0p (Heap.lt_size e) (I.ok.cab x c hfn hc)))).trans (I.base.keep b o e n hb hx)
  ·obtain⟨sl,e1⟩:=I.base.slot b o e n hb hx
   exact⟨sl,(hs.2 b (y0x (y0p (Heap.lt_size e) (I.ok.cab x c hfn hc)))).trans e1⟩
  ·obtain⟨o',e1⟩:=I.base.there b o e hx
   exact⟨o',(hs.2 b (y0x (y0p (Heap.lt_size e) (I.ok.cab x c hfn hc)))).trans e1⟩
  ·by_cases hj:j=i
   ·subst hj
    rw [hi] at e1; cases e1
    rw [y0y hiσ] at e2
    cases e2
    exact⟨u,r,.inr ⟨.inl hk,c,hc,hc'⟩⟩
   ·rw [y16 (Ne.symm hj)] at e2
    obtain⟨u',r',q⟩:=hl j y v' e1 e2 e3
    refine⟨u',r',?_⟩
    rcases q with q | ⟨k,c',e,z'⟩
    ·exact .inl q
    ·refine .inr ⟨k,c',e,z'.sameBut hs ?_⟩
     rintro rfl
     exact hj (zdb hN e1 (I.ok.inj _ _ _ e hc▸hi))
  ·by_cases hcc:c'=c
   ·subst hcc; exact⟨_,hc'⟩
   ·obtain⟨w2,z2⟩:=I.cell y c' e
    exact⟨w2,z2.sameBut hs hcc⟩
  ·obtain⟨e,n,ne,nf,d⟩:=I.pin p hp
   refine⟨(hs.2 p.1 ?_).trans e,n,ne,nf,d⟩
   intro q
   rw [q,hoc] at e
   have q':oc=p.2:=y14 e
   exact d w' (by rw [←q']; exact hocd)
theorem z5g {M:Model}{A:Around}{E:Value→Shared→Prop}{i:Nat}{x:Str}{v:V}{u:Value}{Q:Unit→Shared→Prop}(I:Inv X pins σ H s)(hN:X.N.Nodup)(hi:X.N[i]?=some x)(hx:Loc X.env.scope x)(r:RelV v u)
  (h:∀s',Inv X pins (σ.set i (some v)) H s'→Q () s') (hf:X.fn x=true∨X.env.scope.names.lookup x=some .local:=by first | exact .inl rfl | exact .inr rfl | assumption):wpAny M A (storeName X.env x u) Q E s :=
 zf7 I hN hi hx r (fun s' I' _=>h s' I') hf
theorem Inv.call' {s':Shared}{ch:List Addr}(I:Inv X pins σ H s)(ho:s'.os=s.os)(u:Un (frs X.stack) ch H H' s.heap s'.heap)(hok:HOk X.prog X.w H' s'.heap)(hg:AllBare s'.gens)
  (hch:∀b∈ch,(b∈X.ex∨X.s₀.heap.objs.size≤b)∧b≠X.env.locals∧(∀x c,X.env.cells.lookup x=some c→c≠b)∧∀p∈X.pn++pins,p.1≠b):Inv X pins σ H' s':=by
 obtain⟨h',g',d',t',o'⟩:=s'
 have e:o'=s.os:=ho
 subst e
 exact I.call (g':=g') (t':=t') (d':=d') u hok hg hch
end
abbrev XK:=Value→Option Addr→Hp→Prop
abbrev St:=List (Option V)
abbrev VK:=V→Hp→Prop
abbrev TE:=St→Hp→VK→Prop
abbrev TT:=St→Hp→(Bool→Hp→Prop)→Prop
abbrev TA:=St→Hp→(List V→Hp→Prop)→Prop
structure Ends where
 nx:St→Hp→Prop
 rt:VK
 bk:St→Hp→Prop:=fun _ _=>False
 ct:St→Hp→Prop:=fun _ _=>False
abbrev TS:=Ends→St→Hp→Prop
def EP (X:Cx)(pins:List (Addr×Obj))(σ:St)(Q:VK)(u:Value)(s':Shared):Prop:=∃v H',Inv X pins σ H' s'∧RelV v u∧Q v H'
def TP (X:Cx)(pins:List (Addr×Obj))(σ:St)(Q:Bool→Hp→Prop)(b:Bool)(s':Shared):Prop:=∃H',Inv X pins σ H' s'∧Q b H'
def AP (X:Cx)(pins:List (Addr×Obj))(σ:St)(Q:List V→Hp→Prop)(us:List Value)(s':Shared):Prop:=∃vs H',Inv X pins σ H' s'∧Vals vs us∧Q vs H'
def SP (X:Cx)(pins:List (Addr×Obj))(D:Ends)(f:Flow)(s':Shared):Prop :=
 match f with
 | .next=>∃ σ' H',Inv X pins σ' H' s'∧D.nx σ' H'
 | .brk=>∃ σ' H',Inv X pins σ' H' s'∧D.bk σ' H'
 | .cont=>∃ σ' H',Inv X pins σ' H' s'∧D.ct σ' H'
 | .ret u=>∃v σ' H',Inv X pins σ' H' s'∧RelV v u∧D.rt v H'
def PE (X:Cx)(e:Expr)(t:TE):Prop :=
 ∀(pins:List (Addr×Obj)) (s:Shared) (σ:St) (H:Hp) (Q:VK),Inv X pins σ H s→t σ H Q→wpAny (model X.prog X.w) X.A (eval e X.env) (EP X pins σ Q) X.xe s
def PT (X:Cx)(e:Expr)(t:TT):Prop :=
 ∀(pins:List (Addr×Obj)) (s:Shared) (σ:St) (H:Hp) (Q:Bool→Hp→Prop),Inv X pins σ H s→t σ H Q→wpAny (model X.prog X.w) X.A (isTrue e X.env (eval e X.env)) (TP X pins σ Q) X.xe s
def PW (X:Cx)(e:Expr)(t:TT):Prop :=
 ∀(whole:Sem Value) (pins:List (Addr×Obj)) (s:Shared) (σ:St) (H:Hp) (Q:Bool→Hp→Prop),Inv X pins σ H s→t σ H Q→wpAny (model X.prog X.w) X.A (isTrue e X.env whole) (TP X pins σ Q) X.xe s
theorem PW.pt {X:Cx}{e:Expr}{t:TT}(h:PW X e t):PT X e t:=h _
def PA (X:Cx)(es:List Expr)(t:TA):Prop :=
 ∀(pos:Pos) (pins:List (Addr×Obj)) (s:Shared) (σ:St) (H:Hp) (Q:List V→Hp→Prop),Inv X pins σ H s→t σ H Q→wpAny (model X.prog X.w) X.A (spliced (backTo pos (starEach es X.env))) (AP X pins σ Q) X.xe s
def PS (X:Cx)(st:Stmt)(t:TS):Prop :=
 ∀(pins:List (Addr×Obj)) (s:Shared) (σ:St) (H:Hp) (D:Ends),Inv X pins σ H s→t D σ H→wpAny (model X.prog X.w) X.A (exec st X.env) (SP X pins D) X.xe s
def PSs (X:Cx)(st:List Stmt)(t:TS):Prop :=
 ∀(pins:List (Addr×Obj)) (s:Shared) (σ:St) (H:Hp) (D:Ends),Inv X pins σ H s→t D σ H→wpAny (model X.prog X.w) X.A (execs st X.env) (SP X pins D) X.xe s
theorem thn {α:Type}{t:Sem α}{Q Q':α→Shared→Prop}{M:Model}{A:Around}{E:Value→Shared→Prop}{s:Shared}(h:wpAny M A t Q E s)(hQ:∀a s,Q a s→Q' a s):wpAny M A t Q' E s:=wpAny_mono h hQ fun _ _ x=>x
end L2
namespace L2
open PySem PySem.Spec PyProof.Rows
section
variable {X:Cx}
def zqf (i:Nat):TE:=fun σ H Q=>∃v,σ[i]?=some (some v)∧Q v H
def tC (v:V):TE:=fun _ H Q=>Q v H
theorem zm3 {i:Nat}{x:Str}{pos:Pos}(hN:X.N[i]?=some x)(hv:Vis X.env.scope x)(hd:(x==("__debug__":Str))=false:=by decide)(hcd:(x==("__classdict__":Str))=false:=by decide):PE X (.Name x pos) (zqf i):=by
 intro pins s σ H Q I h
 obtain⟨v,e,h⟩:=h
 obtain⟨m,hn,hl⟩:=I.loc
 obtain⟨u,r,l⟩:=hl i x v hN e hv
 have fin:EP X pins σ Q u s:=⟨v,H,I,r,h⟩
 rcases l with ⟨hk,hm⟩ | ⟨hk,c,hc,hcell⟩
 ·exact wpAny_Name (wpAny_loadName_local I.ok.kind hk hn hm fin) hd
 ·rcases hk with hk | hk
  ·exact wpAny_Name (wpAny_loadName_cell I.ok.kind hk hc hcell fin) hd
  ·exact wpAny_Name (wpAny_loadName_free I.ok.kind hk hc hcell fin hcd) hd
theorem z04 {i j pos}:PE X (.Constant (.int i) j pos) (tC (.int i)):=fun _ _ _ H _ I h=>wpAny_Constant_int ⟨.int i,H,I.tok _,⟨_,rfl⟩,h⟩
theorem z9w {b j pos}:PE X (.Constant (.bool b) j pos) (tC (.bl b)):=fun _ _ _ H _ I h=>Constant_bool ⟨.bl b,H,I,rfl,h⟩
def Gl (X:Cx)(x:Str):Prop:=X.env.kindOf x=some .globalImplicit
theorem zh7 {E:Value→Shared→Prop}{pins:List (Addr×Obj)}{s:Shared}{σ:St}{H:Hp}{x:Str}{u:Value}{pos:Pos}{Q:Value→Shared→Prop}(I:Inv X pins σ H s)(hg:Gl X x)(hm:X.mg x=some u)(h:Q u s)
  (hd:(x==("__debug__":Str))=false:=by decide):wpAny (model X.prog X.w) X.A (eval (.Name x pos) X.env) Q E s :=
 Calls.Name_function_global I.ok.kind hg (Calls.loadGlobal_global (by rw [I.ok.glob]; exact I.mod.glob.keeps I.bk) hm h) hd
theorem z6m {E:Value→Shared→Prop}{pins:List (Addr×Obj)}{s:Shared}{σ:St}{H:Hp}{x:Str}{u:Value}{pos:Pos}{Q:Value→Shared→Prop}(I:Inv X pins σ H s)(hg:Gl X x)(hm:X.mg x=none)(hv:bootBuiltins x=some u)(h:Q u s)
  (hn:x ≠ "__name__":=by decide) (hd:(x==("__debug__":Str))=false:=by decide):wpAny (model X.prog X.w) X.A (eval (.Name x pos) X.env) Q E s:=by
 obtain⟨mb,h1,h2⟩:=I.mod.blt
 exact Calls.Name_function_global I.ok.kind hg (Calls.loadGlobal_builtin (by rw [I.ok.glob]; exact I.mod.glob.keeps I.bk) hm (by rw [I.ok.blt]; exact h1.keeps I.bk) ((h2 x hn).trans hv) h) hd
theorem zko {x:Str}{v:V}{u:Value}{pos:Pos}(hg:Gl X x)(hm:X.mg x=none)(hv:bootBuiltins x=some u)(r:RelV v u)(hn:x ≠ "__name__":=by decide)(hd:(x==("__debug__":Str))=false:=by decide):PE X (.Name x pos) (tC v) :=
 fun _ _ _ H _ I h=>z6m I hg hm hv ⟨v,H,I,r,h⟩ hn hd
variable {a b:Expr}{ta tb:TE}{pos:Pos}
variable {tA tB':TT}{rest:List Expr}
def zo9 (t u:TT):TT:=fun σ H Q=>t σ H fun c H1=>if c=true then u σ H1 Q else Q false H1
def tOr (t u:TT):TT:=fun σ H Q=>t σ H fun c H1=>if c=true then Q true H1 else u σ H1 Q
def zp6 (t:TT):TT:=fun σ H Q=>t σ H fun c H1=>Q (!c) H1
theorem z77 (ha:PT X a tA):PW X (.BoolOp .And [a] pos) tA:=by
 intro wh pins s σ H Q I h
 refine isTrue_and (thn (ha pins s σ H Q I h) fun c s1 e=>?_)
 cases c with
 | true=>exact isTrue_and_nil e
 | false=>exact e
theorem z7f (ha:PT X a tA):PW X (.BoolOp .Or [a] pos) tA:=by
 intro wh pins s σ H Q I h
 refine isTrue_or (thn (ha pins s σ H Q I h) fun c s1 e=>?_)
 cases c with
 | false=>exact isTrue_or_nil e
 | true=>exact e
theorem zau (ha:PT X a tA)(hb:PW X (.BoolOp .And (b::rest) pos) tB'):PW X (.BoolOp .And (a::b::rest) pos) (zo9 tA tB'):=by
 intro wh pins s σ H Q I h
 refine isTrue_and (thn (ha pins s σ H _ I h) fun c s1 ⟨H1,I1,q1⟩=>?_)
 cases c with
 | true=>exact hb wh pins s1 σ H1 Q I1 q1
 | false=>exact⟨H1,I1,q1⟩
theorem z8f (ha:PT X a tA)(hb:PW X (.BoolOp .Or (b::rest) pos) tB'):PW X (.BoolOp .Or (a::b::rest) pos) (tOr tA tB'):=by
 intro wh pins s σ H Q I h
 refine isTrue_or (thn (ha pins s σ H _ I h) fun c s1 ⟨H1,I1,q1⟩=>?_)
 cases c with
 | true=>exact⟨H1,I1,q1⟩
 | false=>exact hb wh pins s1 σ H1 Q I1 q1
theorem z4m (ha:PT X a tA):PT X (.UnaryOp .Not a pos) (zp6 tA):=by
 intro pins s σ H Q I h
 exact isTrue_not (ha pins s σ H (fun c H1=>Q (!c) H1) I h)
theorem z7g {op}{t:TE}(h:PE X a t):PE X (.BoolOp op [a] pos) t:=fun pins s σ H Q I hw=>BoolOp_one (h pins s σ H Q I hw)
def tIf (t:TT)(ta tb:TE):TE:=fun σ H Q=>t σ H fun c H1=>if c=true then ta σ H1 Q else tb σ H1 Q
theorem z9f {c:Expr}(hc:PT X c tA)(ha:PE X a ta)(hb:PE X b tb):PE X (.IfExp c a b pos) (tIf tA ta tb):=by
 intro pins s σ H Q I h
 refine wpAny_IfExp (thn (hc pins s σ H _ I h) fun d s1 ⟨H1,I1,q1⟩=>?_)
 cases d with
 | true=>exact ha pins s1 σ H1 Q I1 q1
 | false=>exact hb pins s1 σ H1 Q I1 q1
end
end L2
namespace L2
open PySem PySem.Spec PyProof.Rows
def SqL (K:y02)(H:Hp)(a:Addr)(xs:List V):Prop :=
 Rd H a (.lst xs) ∨
  ∃(o:Obj) (its:Array Value) (n:Nat),K.lookup a=some o∧o.cls = .type "list"∧o.dict=none∧o.data = .seq its n∧its.size≤sizeLine∧Vals xs its.toList
def SqT (K:y02)(H:Hp)(a:Addr)(xs:List V):Prop :=
 Rd H a (.tup xs) ∨
  ∃(o:Obj) (its:Array Value) (n:Nat),K.lookup a=some o∧o.cls = .type "tuple"∧o.data = .seq its n∧its.size≤sizeLine∧Vals xs its.toList
def zq9:Value→Option V
 | .none=>some .non
 | .bool b=>some (.bl b)
 | .int i _=>some (.int i)
 | .str x _=>some (.str x)
 | .bytes b _=>some (.byt b)
 | .float b _=>some (.flt b)
 | .ref a=>some (.ref a)
 | .type n=>some (.ty n)
 | _=>none
theorem RelV.abs {x:V}{u:Value}(r:RelV x u):zq9 u=some x:=by
 cases x with
 | non=>cases r; rfl
 | bl _=>cases r; rfl
 | int _=>obtain⟨t,rfl⟩:=r; rfl
 | str _=>obtain⟨t,rfl⟩:=r; rfl
 | byt _=>obtain⟨t,rfl⟩:=r; rfl
 | flt _=>obtain⟨t,rfl⟩:=r; rfl
 | ref _=>cases r; rfl
 | ty _=>cases r; rfl
theorem RelV.inj {x y:V}{u:Value}(r:RelV x u)(q:RelV y u):x=y:=y14 (r.abs.symm.trans q.abs)
theorem Vals.inj:∀{xs ys:List V} {us:List Value},Vals xs us→Vals ys us→xs=ys
 | _,_,_,.nil,.nil=>rfl
 | _,_,_,.cons r t,.cons r' t'=>by rw [r.inj r',Vals.inj t t']
section
variable {X:Cx}{pins:List (Addr×Obj)}{σ:St}{H:Hp}{s:Shared}{a:Addr}{xs ys:List V}
theorem SqL.of {K:y02}(h:H a=some (.lst xs)):SqL K H a xs:=.inl (.inl h)
theorem SqT.of {K:y02}(h:H a=some (.tup xs)):SqT K H a xs:=.inl (.inl h)
theorem Inv.list (I:Inv X pins σ H s)(h:SqL X.K H a xs):∃its:List Value,Vals xs its∧PlainL s.heap a its.toArray∧xs.length≤sizeLine:=by
 rcases h with h | ⟨o,its,n,hk,hc,hd,hs,hz,r⟩
 ·obtain⟨z,its,n,r,e⟩:=h.ok I.hok
  exact⟨its,r,⟨_,n,e,rfl,rfl,rfl⟩,z⟩
 ·refine⟨its.toList,r,⟨o,n,I.kIn a o hk,hc,hd,by simpa using hs⟩,?_⟩
  have e:=r.length
  simp only [y5x] at e
  omega
theorem Inv.tuple (I:Inv X pins σ H s)(h:SqT X.K H a xs):∃its:List Value,Vals xs its∧IsTup s.heap a its.toArray∧xs.length≤sizeLine:=by
 rcases h with h | ⟨o,its,n,hk,hc,hs,hz,r⟩
 ·obtain⟨z,its,r,p⟩:=h.ok I.hok
  exact⟨its,r,p,z⟩
 ·refine⟨its.toList,r,⟨o,I.kIn a o hk,hc,n,by simpa using hs⟩,?_⟩
  have e:=r.length
  simp only [y5x] at e
  omega
theorem Inv.list_inj (I:Inv X pins σ H s)(h:SqL X.K H a xs)(h':SqL X.K H a ys):xs=ys:=by
 obtain⟨its,r,⟨o,n,e,_,_,d⟩,_⟩:=I.list h
 obtain⟨its',r',⟨o',n',e',_,_,d'⟩,_⟩:=I.list h'
 rw [e] at e'; cases e'
 rw [d] at d'
 injection d' with d1 _
 have:its=its':=by simpa using congrArg Array.toList d1
 subst this
 exact r.inj r'
theorem Inv.tuple_inj (I:Inv X pins σ H s)(h:SqT X.K H a xs)(h':SqT X.K H a ys):xs=ys:=by
 obtain⟨its,r,⟨o,e,_,n,d⟩,_⟩:=I.tuple h
 obtain⟨its',r',⟨o',e',_,n',d'⟩,_⟩:=I.tuple h'
 rw [e] at e'; cases e'
 rw [d] at d'
 injection d' with d1 _
 have:its=its':=by simpa using congrArg Array.toList d1
 subst this
 exact r.inj r'
end
abbrev Cx.wish (X:Cx)(E:Value→Shared→Prop):Cx:={ X with xe:=E }
abbrev Cx.nox (X:Cx):Cx:=X.wish fun _ _=>False
theorem Cx.Ok.wish {X:Cx}(ok:X.Ok)(E:Value→Shared→Prop):(X.wish E).Ok :=
 ⟨ok.mod,ok.kind,ok.glob,ok.blt,ok.above,ok.inj,ok.has,ok.cab,ok.hd,ok.frames,ok.stk,ok.exf,ok.bs,ok.bsz,ok.noex,ok.exfs,ok.funs,ok.frf⟩
theorem Cx.Ok.unwish {X:Cx}{E:Value→Shared→Prop}(ok:(X.wish E).Ok):X.Ok :=
 ⟨ok.mod,ok.kind,ok.glob,ok.blt,ok.above,ok.inj,ok.has,ok.cab,ok.hd,ok.frames,ok.stk,ok.exf,ok.bs,ok.bsz,ok.noex,ok.exfs,ok.funs,ok.frf⟩
section
variable {X:Cx}{pins:List (Addr×Obj)}{σ:St}{H:Hp}{s:Shared}{E:Value→Shared→Prop}
theorem Inv.wish (I:Inv X pins σ H s)(E:Value→Shared→Prop):Inv (X.wish E) pins σ H s:=⟨I.ok.wish E,I.os,I.bare,I.base,I.loc,I.cell,I.free,I.freeC,I.pin,I.hok,I.len⟩
theorem Inv.unwish (I:Inv (X.wish E) pins σ H s):Inv X pins σ H s:=⟨I.ok.unwish,I.os,I.bare,I.base,I.loc,I.cell,I.free,I.freeC,I.pin,I.hok,I.len⟩
theorem SP.unwish {D:Ends}{f:Flow}{s':Shared}(h:SP (X.wish E) pins D f s'):SP X pins D f s':=by
 cases f with
 | next=>obtain⟨σ',H',I,q⟩:=h; exact⟨σ',H',I.unwish,q⟩
 | brk=>obtain⟨σ',H',I,q⟩:=h; exact⟨σ',H',I.unwish,q⟩
 | cont=>obtain⟨σ',H',I,q⟩:=h; exact⟨σ',H',I.unwish,q⟩
 | ret u=>obtain⟨v,σ',H',I,r,q⟩:=h; exact⟨v,σ',H',I.unwish,r,q⟩
theorem PSs.nox {st:List Stmt}{t:TS}(h:PSs X.nox st t):PSs X st t:=fun pins s σ H D I hw =>
 wpAny_mono (h pins s σ H D (I.wish _) hw) (fun _ _ q=>q.unwish) fun _ _ z=>False.elim z
end
section
variable {X:Cx}{st:Stmt}{rest:List Stmt}{t u:TS}{e:Expr}{te:TE}{pos:Pos}
def zl3:TS:=fun D σ H=>D.nx σ H
def zpu (t u:TS):TS:=fun D σ H=>t { D with nx:=u D } σ H
theorem z0z:PSs X [] zl3:=fun _ _ σ H _ I h=>wpAny_execs_nil ⟨σ,H,I,h⟩
theorem z02 (h1:PS X st t)(h2:PSs X rest u):PSs X (st::rest) (zpu t u):=by
 intro pins s σ H D I h
 refine wpAny_execs_cons (thn (h1 pins s σ H { D with nx:=u D } I h) fun f s1 q=>?_)
 cases f with
 | next =>
  obtain⟨σ',H',I',q⟩:=q
  exact h2 pins s1 σ' H' D I' q
 | ret v=>exact q
 | brk=>exact q
 | cont=>exact q
theorem z07 (h1:PS X st t):PSs X [st] t:=by
 intro pins s σ H D I h
 refine wpAny_execs_cons (thn (h1 pins s σ H D I h) fun f s1 q=>?_)
 cases f with
 | next=>exact wpAny_execs_nil q
 | ret v=>exact q
 | brk=>exact q
 | cont=>exact q
theorem Inv.quiet {pins:List (Addr×Obj)}{σ:St}{H:Hp}{s:Shared}(I:Inv X pins σ H s):interactive X.env=false:=by simp [interactive,I.ok.kind]
def zk7 (te:TE):TS:=fun D σ H=>te σ H fun _ H1=>D.nx σ H1
theorem z25 (he:PE X e te)(hs:swapsWith e none pos.line X.env=pure false:=by rfl):PS X (.Expr e pos) (zk7 te):=by
 intro pins s σ H D I h
 exact wpAny_Expr_any (thn (he pins s σ H _ I h) fun v s1 ⟨x,H1,I1,r1,q1⟩=>⟨σ,H1,I1,q1⟩) I.quiet hs
def zoe (te:TE):TS:=fun D σ H=>te σ H D.rt
theorem z0m (he:PE X e te):PS X (.Return (some e) pos) (zoe te):=by
 intro pins s σ H D I h
 exact wpAny_Return_some (thn (he pins s σ H _ I h) fun v s1 ⟨x,H1,I1,r1,q1⟩=>⟨x,σ,H1,I1,r1,q1⟩)
def zpc (c:TT)(t u:TS):TS:=fun D σ H=>c σ H fun b H1=>if b=true then t D σ H1 else u D σ H1
theorem z2p {c:Expr}{a b:List Stmt}{tc:TT}(hc:PT X c tc)(ha:PSs X a t)(hb:PSs X b u):PS X (.If c a b pos) (zpc tc t u):=by
 intro pins s σ H D I h
 refine wpAny_If (thn (hc pins s σ H _ I h) fun d s1 ⟨H1,I1,q1⟩=>?_)
 cases d with
 | true=>exact ha pins s1 σ H1 D I1 q1
 | false=>exact hb pins s1 σ H1 D I1 q1
end
abbrev TG:=V→St→Hp→(St→Hp→Prop)→Prop
abbrev TGs:=List V→St→Hp→(St→Hp→Prop)→Prop
def PG (X:Cx)(target:Expr)(t:TG):Prop :=
 ∀(pins:List (Addr×Obj)) (s:Shared) (σ:St) (H:Hp) (v:V) (u:Value) (Q:St→Hp→Prop),Inv X pins σ H s→RelV v u→t v σ H Q →
  wpAny (model X.prog X.w) X.A (assign target X.env u) (fun _ s'=>∃ σ' H',Inv X pins σ' H' s'∧Q σ' H') X.xe s
def PGs (X:Cx)(ts:List Expr)(t:TGs):Prop :=
 ∀(pins:List (Addr×Obj)) (s:Shared) (σ:St) (H:Hp) (vs:List V) (us:List Value) (Q:St→Hp→Prop),Inv X pins σ H s→Vals vs us→t vs σ H Q →
  wpAny (model X.prog X.w) X.A (assignInOrder ((assignEach ts X.env).map (·.2)) us) (fun _ s'=>∃ σ' H',Inv X pins σ' H' s'∧Q σ' H') X.xe s
abbrev zn2:=V→V→V→Hp→(Hp→Prop)→Prop
def zo1 (X:Cx)(t:zn2):Prop :=
 ∀(pins:List (Addr×Obj)) (s:Shared) (σ:St) (H:Hp) (o i v:V) (ov iv u:Value) (Q:Hp→Prop),Inv X pins σ H s→RelV o ov→RelV i iv→RelV v u→t o i v H Q →
  wpAny (model X.prog X.w) X.A (setItem ov iv u) (fun _ s'=>∃H',Inv X pins σ H' s'∧Q H') X.xe s
abbrev TIp:=V→V→Hp→VK→Prop
def PIp (X:Cx)(op:Operator)(t:TIp):Prop :=
 ∀(pins:List (Addr×Obj)) (s:Shared) (σ:St) (H:Hp) (x y:V) (v u:Value) (Q:VK),Inv X pins σ H s→RelV x v→RelV y u→t x y H Q →
  wpAny (model X.prog X.w) X.A (inplaceOp op v u) (EP X pins σ Q) X.xe s
section
variable {X:Cx}{pos:Pos}
def z4f (i:Nat):TG:=fun v σ H Q=>Q (σ.set i (some v)) H
theorem zlt {i:Nat}{x:Str}(hN:X.N.Nodup)(hi:X.N[i]?=some x)(hx:Loc X.env.scope x)(hf:X.fn x=true∨X.env.scope.names.lookup x=some .local:=by first | exact .inl rfl | exact .inr rfl | assumption):PG X (.Name x pos) (z4f i):=by
 intro pins s σ H v u Q I r h
 exact wpAny_assign_Name (z5g I hN hi hx r (fun s' I'=>⟨_,H,I',h⟩) hf)
def zqi:TGs:=fun vs σ H Q=>vs = []∧Q σ H
def zp1 (t:TG)(u:TGs):TGs:=fun vs σ H Q=>∃v r,vs=v::r∧t v σ H fun σ' H'=>u r σ' H' Q
theorem zho:PGs X [] zqi:=by
 intro pins s σ H vs us Q I r h
 obtain⟨e,h⟩:=h
 subst e
 cases r
 exact assignInOrder_nil ⟨σ,H,I,h⟩
theorem z5v {e:Expr}{es:List Expr}{t:TG}{u:TGs}(h1:PG X e t)(h2:PGs X es u)
  (hs:(assignEach (e::es) X.env).map (·.2)=assign e X.env::(assignEach es X.env).map (·.2):=by rfl):PGs X (e::es) (zp1 t u):=by
 intro pins s σ H vs us Q I r h
 obtain⟨v,vr,e1,h⟩:=h
 subst e1
 cases r with
 | cons r rr =>
  rw [hs]
  refine assignInOrder_cons (thn (h1 pins s σ H _ _ _ I r h) fun _ s1 ⟨σ1,H1,I1,q1⟩=>?_)
  exact h2 pins s1 σ1 H1 _ _ Q I1 rr q1
def zq5 (K:y02)(n:Nat)(t:TGs):TG:=fun v σ H Q=>∃a xs,v = .ref a∧SqT K H a xs∧xs.length=n∧t xs σ H Q
theorem zk5 {es:List Expr}{k:Nat}{t:TGs}{n:Nat}(hc:X.calm=true)(h:PGs X es t)
  (hn:(assignEach es X.env).length=n:=by rfl) (hst:(assignEach es X.env).findIdx? (·.1)=none:=by rfl):PG X (.Tuple es k pos) (zq5 X.K n t):=by
 intro pins s σ H v u Q I r hw
 obtain⟨a,xs,e1,hq,hl,hw⟩:=hw
 subst e1
 cases r
 obtain⟨its,rv,ht,hz⟩:=I.tuple hq
 refine assign_Tuple_tuple (I.ok.hd hc) ht (by simp [hn,←hl,rv.length]) hst fun h' hx=>?_
 have I1:Inv X pins σ H { s with heap:=h' }:=I.kept (t':=s.toks) fun b o e=>hx b o (y0x (Heap.lt_size e)) e
 exact h pins _ σ H xs _ Q I1 (by simpa using rv) hw
def zoi (to ti:TE)(t:zn2):TG:=fun v σ H Q=>to σ H fun o H1=>ti σ H1 fun i H2=>t o i v H2 fun H3=>Q σ H3
theorem zag {o i:Expr}{to ti:TE}{t:zn2}(ho:PE X o to)(hi:PE X i ti)(hs:zo1 X t)
  (ha:∀v,assign (.Subscript o i pos) X.env v=(do
   let ov ←holding [v] (eval o X.env)
   let iv ←holding [v,ov] (eval i X.env)
   standAt pos
   holding [v,ov,iv] (setItem ov iv v)
   release [v,ov,iv] []):=by intro _; rfl):PG X (.Subscript o i pos) (zoi to ti t):=by
 intro pins s σ H v u Q I r h
 rw [ha]
 refine wpAny_bind (wpAny_holding (thn (ho pins s σ H _ I h) fun ov s1 ⟨x,H1,I1,r1,q1⟩=>?_))
 refine wpAny_bind (wpAny_holding (thn (hi pins s1 σ H1 _ I1 q1) fun iv s2 ⟨y,H2,I2,r2,q2⟩=>?_))
 refine wpAny_bind (wpAny_standAt (wpAny_bind (wpAny_holding (thn (hs pins s2 σ H2 x y v ov iv u _ I2 r1 r2 r q2) fun _ s3 ⟨H3,I3,q3⟩=>?_))))
 exact wpAny_release ⟨σ,H3,I3,q3⟩
def zjj (te:TE)(g:TG):TS:=fun D σ H=>te σ H fun x H1=>g x σ H1 D.nx
theorem z8x {tg e:Expr}{te:TE}{g:TG}(he:PE X e te)(hg:PG X tg g)(hs:swapsWithSole [tg] e pos.line X.env=pure false:=by rfl)(hw:swappedStores [tg] e X.env=pure none:=by rfl)
  (h1:(assignEach [tg] X.env).map (·.2) = [assign tg X.env]:=by rfl):PS X (.Assign [tg] e pos) (zjj te g):=by
 intro pins s σ H D I h
 refine wpAny_Assign_stores (thn (he pins s σ H _ I h) fun v s1 ⟨x,H1,I1,r1,q1⟩=>?_) hs hw
 rw [h1]
 exact thn (hg pins s1 σ H1 x v _ I1 r1 q1) fun _ s2 q=>q
theorem znq {i:Nat}{x:Str}{e:Expr}{te:TE}{pos':Pos}(hN:X.N.Nodup)(hi:X.N[i]?=some x)(hx:Loc X.env.scope x)(he:PE X e te)(hs:swapsWith e (some (.Name x pos')) pos.line X.env=pure false:=by rfl)(hf:X.fn x=true∨X.env.scope.names.lookup x=some .local:=by first | exact .inl rfl | exact .inr rfl | assumption) :
  PS X (.Assign [.Name x pos'] e pos) (zjj te (z4f i)):=by
 intro pins s σ H D I h
 refine wpAny_Assign_Name (thn (he pins s σ H _ I h) fun v s1 ⟨y,H1,I1,r1,q1⟩=>?_) hs
 exact z5g I1 hN hi hx r1 (fun s2 I2=>⟨_,H1,I2,q1⟩) hf
def zq0 (i j:Nat)(ta:TA):TS:=fun D σ H=>ta σ H fun vs H1=>∃v w,vs = [v,w]∧D.nx ((σ.set i (some v)).set j (some w)) H1
theorem znf {i j:Nat}{x y:Str}{a b:Expr}{ta:TA}{px py pt:Pos}{kt k2 pt2}(hc:X.calm=true)(hN:X.N.Nodup)(hi:X.N[i]?=some x)(hj:X.N[j]?=some y)(hij:i≠j)
  (hx:X.env.scope.names.lookup x=some .local) (hy:X.env.scope.names.lookup y=some .local) (ha:PA X [a,b] ta)
  (hw:swappedStores [.Tuple [.Name x px,.Name y py] kt pt] (.Tuple [a,b] k2 pt2) X.env=pure (some [x,y]))
  (hs:swapsWithSole [.Tuple [.Name x px,.Name y py] kt pt] (.Tuple [a,b] k2 pt2) pos.line X.env=pure false:=by rfl) :
  PS X (.Assign [.Tuple [.Name x px,.Name y py] kt pt] (.Tuple [a,b] k2 pt2) pos) (zq0 i j ta):=by
 intro pins s σ H D I h
 rw [exec_Assign_arm]
 refine wpAny_bind (wpAny_standAt ?_)
 rw [hs]
 refine wpAny_bind (wpAny_pure ?_)
 rw [if_neg (by decide)]
 refine wpAny_bind (Tuple_ (thn (ha _ pins s σ H _ I h) fun us s1 ⟨vs,H1,I1,r1,q1⟩=>?_))
 obtain⟨v,w,e1,q1⟩:=q1
 subst e1
 obtain⟨u1,u2,rfl,rv,rw'⟩:∃u1 u2,us = [u1,u2]∧RelV v u1∧RelV w u2:=by
  cases r1 with
  | cons p q =>
   cases q with
   | cons p' q' =>
    cases q'
    exact⟨_,_,rfl,p,p'⟩
 refine wpAny_newObj_type ?_ (by show 2≤sizeLine; decide)
 have I2:Inv X pins σ H1 { s1 with heap:=s1.heap.push { cls:=.type "tuple",data:=.seq [u1,u2].toArray } }:=I1.kept (t':=s1.toks) fun b o e=>Heap.get?_push_of_some _ e
 rw [hw]
 refine wpAny_bind (wpAny_pure ?_)
 show wpAny (model X.prog X.w) X.A (do rule "assign.swapped-stores"; let items ←unpackItems (.ref s1.heap.objs.size) 2 none; assignInOrder [fun v=>bindName X.env y v,fun v=>bindName X.env x v] items.reverse; pure Flow.next) _ _ _
 refine wpAny_bind (wpAny_rule (wpAny_bind (unpackItems_tuple (items:=#[u1,u2]) (I.ok.hd hc) (IsTup.new s1.heap _) fun h' hx'=>?_)))
 have I3:=I2.kept (h':=h') (t':=s1.toks) fun b o e=>hx' b o (y0x (Heap.lt_size e)) e
 show wpAny _ _ (assignInOrder [fun v=>bindName X.env y v,fun v=>bindName X.env x v] [u2,u1] >>= fun _=>pure Flow.next) _ _ _
 refine wpAny_bind (assignInOrder_cons (wpAny_bindName (z5g I3 hN hj (.inl hy) rw' (fun s2 I4=>?_) (.inr hy))))
 refine assignInOrder_cons (wpAny_bindName (z5g I4 hN hi (.inl hx) rv (fun s3 I5=>assignInOrder_nil (wpAny_pure ?_)) (.inr hx)))
 rw [List.set_comm _ _ (Ne.symm hij)] at I5
 exact⟨_,H1,I5,q1⟩
def zkm (to ti te:TE)(tget:V→V→Hp→VK→Prop)(tip:TIp)(tset:zn2):TS:=fun D σ H=>to σ H fun o H1=>ti σ H1 fun i H2=>tget o i H2 fun x H3=>te σ H3 fun y H4=>tip x y H4 fun z H5=>tset o i z H5 fun H6=>D.nx σ H6
def zpj (X:Cx)(t:V→V→Hp→VK→Prop):Prop :=
 ∀(pins:List (Addr×Obj)) (s:Shared) (σ:St) (H:Hp) (o i:V) (ov iv:Value) (Q:VK),Inv X pins σ H s→RelV o ov→RelV i iv→t o i H Q →
  wpAny (model X.prog X.w) X.A (getItem ov iv) (EP X pins σ Q) X.xe s
theorem z59 {o i e:Expr}{to ti te:TE}{tget:V→V→Hp→VK→Prop}{tip:TIp}{tset:zn2}{op:Operator}{tpos:Pos}(ho:PE X o to)(hi:PE X i ti)(hg:zpj X tget)(he:PE X e te)(hp:PIp X op tip)(hs:zo1 X tset)
  (ha:∀ov iv new,augStore i ov iv new=(do holding [new,ov,iv] (setItem ov iv new); release [new,ov,iv] []; pure .next):=by intros; rfl):PS X (.AugAssign (.Subscript o i tpos) op e pos) (zkm to ti te tget tip tset):=by
 intro pins s σ H D I h
 refine wpAny_AugAssign_SubscriptAny (thn (ho pins s σ H _ I h) fun ov s1 ⟨x1,H1,I1,r1,q1⟩=>?_) ha
 refine thn (hi pins s1 σ H1 _ I1 q1) fun iv s2 ⟨x2,H2,I2,r2,q2⟩=>?_
 refine thn (hg pins s2 σ H2 x1 x2 ov iv _ I2 r1 r2 q2) fun old s3 ⟨x3,H3,I3,r3,q3⟩=>?_
 refine thn (he pins s3 σ H3 _ I3 q3) fun v s4 ⟨x4,H4,I4,r4,q4⟩=>?_
 refine thn (hp pins s4 σ H4 x3 x4 old v _ I4 r3 r4 q4) fun new s5 ⟨x5,H5,I5,r5,q5⟩=>?_
 exact thn (hs pins s5 σ H5 x1 x2 x5 ov iv new _ I5 r1 r2 r5 q5) fun _ s6 ⟨H6,I6,q6⟩=>⟨σ,H6,I6,q6⟩
def ipI (f:Int→Int→Int):TIp:=fun x y H Q=>∃i j,x = .int i∧y = .int j∧Q (.int (f i j)) H
theorem zn5:PIp X .Add (ipI fun i j=>i+j):=by
 intro pins s σ H x y v u Q I r1 r2 h
 obtain⟨i,j,e1,e2,q⟩:=h
 subst e1; subst e2
 obtain⟨t,rfl⟩:=r1
 obtain⟨t',rfl⟩:=r2
 exact iadd_int ⟨.int _,H,I.tok _,⟨_,rfl⟩,q⟩
theorem zmq:PIp X .Sub (ipI fun i j=>i - j):=by
 intro pins s σ H x y v u Q I r1 r2 h
 obtain⟨i,j,e1,e2,q⟩:=h
 subst e1; subst e2
 obtain⟨t,rfl⟩:=r1
 obtain⟨t',rfl⟩:=r2
 exact isub_int ⟨.int _,H,I.tok _,⟨_,rfl⟩,q⟩
end
section
variable {X:Cx}{pos:Pos}
end
structure It where
 go:Nat→Hp→Prop
 yld:Nat→Hp→V→Hp→Prop
 stop:Nat→Hp→Prop
def zhe (X:Cx)(pins:List (Addr×Obj))(H:Hp)(b:Addr):Prop :=
 H b=none∧b≠X.env.locals∧b ∉ X.fs∧(b∈X.ex∨X.s₀.heap.objs.size≤b)∧(∀x c,X.env.cells.lookup x=some c→c≠b)∧∀p∈X.pn++pins,p.1≠b
theorem Inv.fpOk {X:Cx}{pins:List (Addr×Obj)}{σ:St}{H H':Hp}{s:Shared}{b:Addr}(I:Inv X pins σ H s)(hb:s.heap.objs.size≤b)(hn:H' b=none):zhe X pins H' b:=by
 refine⟨hn,y39 (y0p I.lt hb),I.nofs hb,.inr (y19 I.sz hb),fun x c e z=>?_,fun p hp z=>?_⟩
 ·obtain⟨v,q⟩:=I.cell x c e
  exact absurd (y0p q.lt (by rw [z]; exact hb)) (y2k _)
 ·exact absurd (y0p (Heap.lt_size (I.pin p hp).1) (by rw [z]; exact hb)) (y2k _)
structure Turn (P:Program)(w:World)(K:y02)(tg:Expr)(J:It)(fp:List Addr)(it:Addr)(tn:Nat→Heap→Prop):Prop where
 mem:it∈fp
 obj:∀i h,tn i h→∀b∈fp,∃o,h.get? b=some o∧∀v,o.data ≠ .cell v
 keep:∀i h h',tn i h→(∀b∈fp,∀o,h.get? b=some o→h'.get? b=some o)→tn i h'
 item:∀(X:Cx),X.prog=P→X.w=w→X.K=K→X.calm=true→∀(i:Nat) (pins:List (Addr×Obj)) (s:Shared) (σ:St) (H:Hp) (E:Value→Shared→Prop),Inv X pins σ H s→(∀b∈fp,zhe X pins H b)→tn i s.heap→J.go i H →
  wpAny (model P w) X.A (pyNext (.ref it)) (fun r s1=>∃u,r=some u ∧
   wpAny (model P w) X.A (letOwnedTupleGo tg (.ref it) u) (fun _ s2=>∃x H',Inv X pins σ H' s2∧RelV x u∧J.yld i H x H'∧tn (i+1) s2.heap∧∀b∈fp,H' b=none) E s1) E s
 done:∀(X:Cx),X.prog=P→X.w=w→X.K=K→X.calm=true→∀(i:Nat) (pins:List (Addr×Obj)) (s:Shared) (σ:St) (H:Hp) (E:Value→Shared→Prop),Inv X pins σ H s→(∀b∈fp,zhe X pins H b)→tn i s.heap→J.stop i H →
  wpAny (model P w) X.A (pyNext (.ref it)) (fun r s1=>r=none∧Inv X pins σ H s1) E s
 self:∀(A:Around) (i:Nat) (s:Shared) (Q:Value→Shared→Prop) (E:Value→Shared→Prop),tn i s.heap→Q (.ref it) s→wpAny (model P w) A (pyIter (.ref it)) Q E s
abbrev TI:=St→Hp→(It→Hp→Prop)→Prop
def PIE (X:Cx)(pins:List (Addr×Obj))(σ:St)(tg:Expr)(R:It→Hp→Prop)(itv:Value)(s2:Shared):Prop :=
 ∃(it:Addr) (fp:List Addr) (tn:Nat→Heap→Prop) (J:It) (H':Hp),itv = .ref it∧Inv X pins σ H' s2∧Turn X.prog X.w X.K tg J fp it tn∧tn 0 s2.heap∧(∀b∈fp,zhe X pins H' b)∧R J H'
def PI (X:Cx)(tg iter:Expr)(wi:TI):Prop :=
 ∀(pins:List (Addr×Obj)) (s:Shared) (σ:St) (H:Hp) (R:It→Hp→Prop),Inv X pins σ H s→wi σ H R →
  wpAny (model X.prog X.w) X.A (eval iter X.env) (fun v s1=>wpAny (model X.prog X.w) X.A (pyIter v) (PIE X pins σ tg R) X.xe s1) X.xe s
theorem zkf {M:Model}{A:Around}{E:Value→Shared→Prop}{s:Shared}{tg:Expr}{it:Addr}{u:Value}{o:Obj}{n:String}{vs:Array Value}{Q:Unit→Shared→Prop}(ho:s.heap.get? it=some o)(hc:o.cls = .type n)(hd:o.data = .fields vs)
  (hn:["enumerate","zip","dict_itemiterator","dict_reverseitemiterator","odict_iterator","itertools.zip_longest","itertools.pairwise"].contains n=false) (hQ:Q () s):wpAny M A (letOwnedTupleGo tg (.ref it) u) Q E s:=by
 unfold letOwnedTupleGo
 cases tg<;>first
  | exact wpAny_pure hQ
  | (cases u<;>first
    | exact wpAny_pure hQ
    | (refine wpAny_bind (wpAny_load ho ?_)
       rw [hc,hd]
       show wpAny M A (if (["enumerate","zip","dict_itemiterator","dict_reverseitemiterator","odict_iterator","itertools.zip_longest","itertools.pairwise"].contains n&&vs[0]?==some (rawInt _))=true then _ else _) Q E s
       rw [if_neg (by intro h; rw [hn,y71] at h; cases h)]
       exact wpAny_pure hQ))
def Itl (K:y02)(a:Addr):It :=
 ⟨fun i H=>∃xs x,SqL K H a xs∧xs[i]?=some x,fun i H x H'=>H'=H∧∀xs,SqL K H a xs→xs[i]?=some x,fun i H=>∃xs,SqL K H a xs∧xs.length≤i⟩
def Itt (K:y02)(a:Addr):It :=
 ⟨fun i H=>∃xs x,SqT K H a xs∧xs[i]?=some x,fun i H x H'=>H'=H∧∀xs,SqT K H a xs→xs[i]?=some x,fun i H=>∃xs,SqT K H a xs∧xs.length≤i⟩
def Itr (lo:Int)(n:Nat):It:=⟨fun i _=>i<n,fun i H x H'=>H'=H∧x = .int (lo+i),fun i _=>n≤i⟩
theorem zes {P:Program}{w:World}{K:y02}{tg:Expr}(a it:Addr):Turn P w K tg (Itl K a) [it] it (fun i h=>h.IsListIter it a i) where
 mem:=by simp
 obj:=fun i h st b hb=>by
  have e:b=it:=by simpa using hb
  subst e
  obtain⟨o,e,c,d⟩:=st
  exact⟨o,e,fun v z=>by rw [d] at z; cases z⟩
 keep:=fun i h h' st k=>st.at fun o e=>k it (by simp) o e
 item:=by
  intro X hP hw hK hc i pins s σ H E I hf st hg
  subst hP hw hK
  obtain⟨xs,x,hq,hx⟩:=hg
  obtain⟨its,rv,p,hz⟩:=I.list hq
  obtain⟨u,hu,ru⟩:=rv.get hx
  obtain⟨f0,f1,f2,f3,f4,f5⟩:=hf it (by simp)
  refine wpAny_pyNext_list_item st p.isList (x:=u) (by simpa using hu) fun h' st' sb=>?_
  have I1:Inv X pins σ H { s with heap:=h' }:=I.turned (t':=s.toks) (fun b o hb e=>(sb.2 b hb).trans e) f0 f1 f3 f4 f5
  obtain⟨o,e,c,d⟩:=id st'
  exact⟨u,rfl,zkf (s:={ s with heap:=h' }) e c d (by decide) ⟨x,H,I1,ru,⟨rfl,fun ys hy=>by rw [I.list_inj hy hq]; exact hx⟩,st',fun b hb=>(hf b hb).1⟩⟩
 done:=by
  intro X hP hw hK hc i pins s σ H E I hf st hg
  subst hP hw hK
  obtain⟨xs,hq,hx⟩:=hg
  obtain⟨its,rv,p,hz⟩:=I.list hq
  obtain⟨f0,f1,f2,f3,f4,f5⟩:=hf it (by simp)
  have hl:=rv.length
  exact wpAny_pyNext_list_end (I.ok.hd hc) st p.isList (by simp; omega) fun h' eb=>⟨rfl,I.turned (t':=s.toks) (fun b o hb e=>eb b o hb e) f0 f1 f3 f4 f5⟩
 self:=fun _ _ _ _ _ st h=>wpAny_pyIter_listiter st h
theorem ze9 {P:Program}{w:World}{K:y02}{tg:Expr}(a it:Addr):Turn P w K tg (Itt K a) [it] it (fun i h=>h.IsTupleIter it a i) where
 mem:=by simp
 obj:=fun i h st b hb=>by
  have e:b=it:=by simpa using hb
  subst e
  obtain⟨o,e,c,d⟩:=st
  exact⟨o,e,fun v z=>by rw [d] at z; cases z⟩
 keep:=fun i h h' st k=>st.at fun o e=>k it (by simp) o e
 item:=by
  intro X hP hw hK hc i pins s σ H E I hf st hg
  subst hP hw hK
  obtain⟨xs,x,hq,hx⟩:=hg
  obtain⟨its,rv,p,hz⟩:=I.tuple hq
  obtain⟨u,hu,ru⟩:=rv.get hx
  obtain⟨f0,f1,f2,f3,f4,f5⟩:=hf it (by simp)
  refine wpAny_pyNext_tuple_item st (show s.heap.IsTuple a its.toArray from p) (x:=u) (by simpa using hu) fun h' st' sb=>?_
  have I1:Inv X pins σ H { s with heap:=h' }:=I.turned (t':=s.toks) (fun b o hb e=>(sb.2 b hb).trans e) f0 f1 f3 f4 f5
  obtain⟨o,e,c,d⟩:=id st'
  exact⟨u,rfl,zkf (s:={ s with heap:=h' }) e c d (by decide) ⟨x,H,I1,ru,⟨rfl,fun ys hy=>by rw [I.tuple_inj hy hq]; exact hx⟩,st',fun b hb=>(hf b hb).1⟩⟩
 done:=by
  intro X hP hw hK hc i pins s σ H E I hf st hg
  subst hP hw hK
  obtain⟨xs,hq,hx⟩:=hg
  obtain⟨its,rv,p,hz⟩:=I.tuple hq
  obtain⟨f0,f1,f2,f3,f4,f5⟩:=hf it (by simp)
  have hl:=rv.length
  exact wpAny_pyNext_tuple_end (I.ok.hd hc) st (show s.heap.IsTuple a its.toArray from p) (by simp; omega) fun h' eb=>⟨rfl,I.turned (t':=s.toks) (fun b o hb e=>eb b o hb e) f0 f1 f3 f4 f5⟩
 self:=fun _ _ _ _ _ st h=>wpAny_pyIter_tupleiter st h
theorem zdz {P:Program}{w:World}{K:y02}{tg:Expr}(it:Addr)(lo:Int)(n:Nat):Turn P w K tg (Itr lo n) [it] it (fun i h=>IsRangeIter h it (lo+(i:Nat)*1) ((n:Int) - (i:Nat)) 1) where
 mem:=by simp
 obj:=fun i h st b hb=>by
  have e:b=it:=by simpa using hb
  subst e
  exact⟨_,st,fun v z=>by
   have z':Data.fields _=Data.cell v:=z
   cases z'⟩
 keep:=fun i h h' st k=>k it (by simp) _ st
 item:=by
  intro X hP hw hK hc i pins s σ H E I hf st hg
  subst hP hw hK
  obtain⟨f0,f1,f2,f3,f4,f5⟩:=hf it (by simp)
  have W:=Walks.range (prog:=X.prog) (w:=X.w) (I.ok.hd hc) it lo 1 n
  refine W.item i s _ _ hg st fun v h' tk hv st' kk=>?_
  obtain⟨t,rfl⟩:=hv
  have I1:Inv X pins σ H { s with heap:=h',toks:=tk }:=I.turned (fun b o hb e=>kk b o (by simpa using hb) e) f0 f1 f3 f4 f5
  refine⟨_,rfl,zkf (s:={ s with heap:=h',toks:=tk }) (n:="range_iterator") st' rfl rfl (by decide) ⟨.int (lo+i),H,I1,⟨t,?_⟩,⟨rfl,rfl⟩,st',fun b hb=>(hf b hb).1⟩⟩
  rw [y57]
 done:=by
  intro X hP hw hK hc i pins s σ H E I hf st hg
  subst hP hw hK
  obtain⟨f0,f1,f2,f3,f4,f5⟩:=hf it (by simp)
  exact wpAny_pyNext_range_end (I.ok.hd hc) st (by have:n≤i:=hg; omega) fun h' eb=>⟨rfl,I.turned (t':=s.toks) (fun b o hb e=>eb b o hb e) f0 f1 f3 f4 f5⟩
 self:=fun _ _ _ _ _ st h=>wpAny_pyIter_rangeiter st h
end L2
namespace L2
open PySem PySem.Spec PyProof.Rows
section
variable {X:Cx}{tg:Expr}
theorem zis {pins:List (Addr×Obj)}{σ:St}{H:Hp}{s:Shared}{R:It→Hp→Prop}{E:Value→Shared→Prop}{lo hi:Int}{t u v:Tok}{tk:Nat}(I:Inv X pins σ H s)(h1:-(2^62)≤lo)(h2:lo<2^62)(h3:-(2^62)≤hi)(h4:hi<2^62)
  (q:R (Itr lo (hi - lo).toNat) H):wpAny (model X.prog X.w) X.A (pyIter (.ref s.heap.objs.size)) (PIE X pins σ tg R) E { s with heap:=s.heap.push { cls:=.type "range",data:=.fields #[.int lo t,.int hi u,.int 1 v] },toks:=tk }:=by
 refine wpAny_pyIter_range (IsRange.new ..) (small_one h1 h2 h3 h4) ?_
 have I1:Inv X pins σ H { s with heap:=s.heap.push { cls:=.type "range",data:=.fields #[.int lo t,.int hi u,.int 1 v] },toks:=tk }:=I.kept fun b o e=>Heap.get?_push_of_some _ e
 refine⟨(s.heap.push { cls:=.type "range",data:=.fields #[.int lo t,.int hi u,.int 1 v] }).objs.size,[(s.heap.push { cls:=.type "range",data:=.fields #[.int lo t,.int hi u,.int 1 v] }).objs.size],_,_,H,rfl,
  I1.kept (t':=tk) fun b o e=>Heap.get?_push_of_some _ e,zdz _ lo (hi - lo).toNat,?_,fun b hb=>?_,q⟩
 ·have e1:lo+((0:Nat):Int)*1=lo:=by simp
  have e2:(((hi - lo).toNat:Nat):Int) - ((0:Nat):Int)=Builtin.Range.rangeSize lo hi 1:=by rw [rangeSize_one]; split<;>omega
  show IsRangeIter _ _ (lo+((0:Nat):Int)*1) ((((hi - lo).toNat:Nat):Int) - ((0:Nat):Int)) 1
  rw [e1,e2]
  exact Heap.get?_push_size _ rfl
 ·have e:b=(s.heap.push { cls:=.type "range",data:=.fields #[.int lo t,.int hi u,.int 1 v] }).objs.size:=by simpa using hb
  subst e
  exact I1.fpOk (y07 _) (I1.hok.fresh (y07 _))
def zqm (wi:TI)(g:TG)(tb:TS):TS:=fun D σ H=>wi σ H fun J H1=>∃W:Nat→Nat→St→Hp→Prop,(∃m,W 0 m σ H1)∧∀i m σ H,W i m σ H →
 (J.stop i H∧D.nx σ H)∨(J.go i H∧∃N:St→Hp→Prop,(∀ σ' H',N σ' H'→∃m',m'<m∧W (i+1) m' σ' H')∧∀x H',J.yld i H x H'→g x σ H' fun σ2 H2=>tb { D with nx:=N,ct:=N,bk:=D.nx } σ2 H2)
def za8 (fp:List Addr)(h:Heap):List (Addr×Obj):=fp.filterMap fun b=>(h.get? b).map fun o=>(b,o)
theorem z69 {fp:List Addr}{h:Heap}{b:Addr}{o:Obj}(hb:b∈fp)(e:h.get? b=some o):(b,o)∈za8 fp h:=y4q.mpr ⟨b,hb,by rw [e]; rfl⟩
theorem zgz {fp:List Addr}{h:Heap}{p:Addr×Obj}(hp:p∈za8 fp h):p.1∈fp∧h.get? p.1=some p.2:=by
 obtain⟨b,hb,e⟩:=y4q.mp hp
 cases q:h.get? b with
 | none=>rw [q] at e; cases e
 | some o =>
  rw [q] at e
  have e':(b,o)=p:=y14 e
  subst e'
  exact⟨hb,q⟩
theorem Inv.pinned {pins:List (Addr×Obj)}{σ:St}{H:Hp}{s:Shared}{fp:List Addr}(I:Inv X pins σ H s)(hf:∀b∈fp,zhe X pins H b)(ho:∀b∈fp,∃o,s.heap.get? b=some o∧∀v,o.data ≠ .cell v):Inv X (pins++za8 fp s.heap) σ H s :=
 I.pins_of fun p hp=>(y0u.mp hp).elim (fun z=>I.pin p (y0z _ z)) fun z=>by
  obtain⟨hb,e⟩:=zgz z
  obtain⟨f0,f1,f2,_⟩:=hf p.1 hb
  obtain⟨o,e',d⟩:=ho p.1 hb
  rw [e] at e'; cases e'
  exact⟨e,f0,f1,f2,d⟩
theorem Inv.unpinned {pins pl:List (Addr×Obj)}{σ:St}{H:Hp}{s:Shared}(I:Inv X (pins++pl) σ H s):Inv X pins σ H s:=I.pins_of fun p hp=>I.pin p (y0z _ (y3m _ hp))
theorem znl {iter:Expr}{body:List Stmt}{wi:TI}{g:TG}{tb:TS}{pos:Pos}(hp:PassesOwn (model X.prog X.w) X.A X.env X.xe)(hc:X.calm=true)(hi:PI X tg iter wi)(hg:PG X tg g)(hb:PSs X body tb)
  (hs:∀x,foldedSetIterable iter X.env x=pure x:=by intro _; rfl):PS X (.For tg iter body [] pos) (zqm wi g tb):=by
 intro pins s σ H D I h
 refine wpAny_For (thn (hi pins s σ H _ I h) fun v s1 h1=>thn h1 fun itv s2 h2=>?_) hs
 obtain⟨it,fp,tn,J,H2,e,I2,T,st2,f2,W,⟨m0,w0⟩,turn⟩:=h2
 subst e
 have stat:∀{H':Hp},(∀b∈fp,H' b=none)→∀b∈fp,zhe X pins H' b:=fun hn b hb=>⟨hn b hb,(f2 b hb).2⟩
 refine codeAny_forLoop_any (fun n s'=>∃i σ' H',Inv X pins σ' H' s'∧tn i s'.heap∧(∀b∈fp,H' b=none)∧W i n σ' H') ?_ m0 ⟨0,σ,H2,I2,st2,fun b hb=>(f2 b hb).1,w0⟩
 rintro n s3 ⟨i,σ3,H3,I3,st3,fr3,w3⟩
 rcases turn i n σ3 H3 w3 with ⟨stop,qn⟩ | ⟨go,N,hN,step⟩
 ·refine wpAny_passesOwn hp (thn (T.done X rfl rfl rfl hc i pins s3 σ3 H3 X.xe I3 (stat fr3) st3 stop) fun r s4 ⟨hr,I4⟩=>?_)
  subst hr
  exact wpAny_execs_nil ⟨σ3,H3,I4,qn⟩
 ·refine wpAny_passesOwn hp (thn (T.item X rfl rfl rfl hc i pins s3 σ3 H3 X.xe I3 (stat fr3) st3 go) fun r s4 ⟨u,hr,h4⟩=>?_)
  subst hr
  refine wpAny_passesOwn hp (thn h4 fun _ s5 ⟨x,H5,I5,r5,y5,st5,fr5⟩=>?_)
  have I5':=I5.pinned (stat fr5) (T.obj _ _ st5)
  refine wpAny_passesOwn hp (thn (hg _ s5 σ3 H5 x u _ I5' r5 (step x H5 y5)) fun _ s6 ⟨σ6,H6,I6,q6⟩=>?_)
  refine wpAny_passesOwn hp (thn (hb _ s6 σ6 H6 _ I6 q6) fun f s7 q7=>?_)
  have again:∀{σ7:St} {H7:Hp},Inv X (pins++za8 fp s5.heap) σ7 H7 s7→N σ7 H7→∃m,m<n∧∃i σ' H',Inv X pins σ' H' s7∧tn i s7.heap∧(∀b∈fp,H' b=none)∧W i m σ' H':=fun {σ7 H7} I7 n7=>by
   obtain⟨m',hm,w7⟩:=hN σ7 H7 n7
   refine⟨m',hm,i+1,σ7,H7,I7.unpinned,T.keep _ _ _ st5 fun b hb o e=>(I7.pin (b,o) (y0z _ (y0z _ (z69 hb e)))).1,fun b hb=>?_,w7⟩
   obtain⟨o,e,d⟩:=T.obj _ _ st5 b hb
   exact(I7.pin (b,o) (y0z _ (y0z _ (z69 hb e)))).2.1
  cases f with
  | next=>obtain⟨σ7,H7,I7,n7⟩:=q7; exact again I7 n7
  | cont=>obtain⟨σ7,H7,I7,n7⟩:=q7; exact again I7 n7
  | brk=>obtain⟨σ7,H7,I7,q7⟩:=q7; exact⟨σ7,H7,I7.unpinned,q7⟩
  | ret v=>obtain⟨x7,σ7,H7,I7,r7,q7⟩:=q7; exact⟨x7,σ7,H7,I7.unpinned,r7,q7⟩
end
theorem zj0 {K:y02}{a:Addr}{xs:List V}{g:TG}{tb:TS}{D:Ends}{σ:St}{H:Hp}(Pv:Nat→St→Hp→Prop)(h0:Pv 0 σ H)(hl:∀i σ H,i≤xs.length→Pv i σ H→SqL K H a xs)
  (hs:∀i x σ H,xs[i]?=some x→Pv i σ H→g x σ H fun σ2 H2=>tb { D with nx:=Pv (i+1),ct:=Pv (i+1),bk:=D.nx } σ2 H2) (hd:∀ σ H,Pv xs.length σ H→D.nx σ H) :
  ∃W:Nat→Nat→St→Hp→Prop,(∃m,W 0 m σ H)∧∀i m σ H,W i m σ H →
   ((Itl K a).stop i H∧D.nx σ H)∨((Itl K a).go i H∧∃N:St→Hp→Prop,(∀ σ' H',N σ' H'→∃m',m'<m∧W (i+1) m' σ' H')∧∀x H',(Itl K a).yld i H x H'→g x σ H' fun σ2 H2=>tb { D with nx:=N,ct:=N,bk:=D.nx } σ2 H2):=by
 refine⟨fun i m σ H=>m=xs.length - i∧i≤xs.length∧Pv i σ H,⟨xs.length,by simp,y2j _,h0⟩,?_⟩
 rintro i m σ H ⟨rfl,hi,p⟩
 have q:=hl i σ H hi p
 by_cases hlt:i<xs.length
 ·refine .inr ⟨⟨xs,xs[i],q,by simp [hlt]⟩,Pv (i+1),fun σ' H' p'=>⟨xs.length - (i+1),by omega,rfl,hlt,p'⟩,fun x H' y=>?_⟩
  obtain⟨e,y⟩:=y
  subst e
  exact hs i x σ _ (y xs q) p
 ·have e:i=xs.length:=by omega
  subst e
  exact .inl ⟨⟨xs,q,y07 _⟩,hd σ H p⟩
theorem zlw {K:y02}{a:Addr}{xs:List V}{g:TG}{tb:TS}{D:Ends}{σ:St}{H:Hp}(Pv:Nat→St→Hp→Prop)(h0:Pv 0 σ H)(hl:∀i σ H,i≤xs.length→Pv i σ H→SqT K H a xs)
  (hs:∀i x σ H,xs[i]?=some x→Pv i σ H→g x σ H fun σ2 H2=>tb { D with nx:=Pv (i+1),ct:=Pv (i+1),bk:=D.nx } σ2 H2) (hd:∀ σ H,Pv xs.length σ H→D.nx σ H) :
  ∃W:Nat→Nat→St→Hp→Prop,(∃m,W 0 m σ H)∧∀i m σ H,W i m σ H →
   ((Itt K a).stop i H∧D.nx σ H)∨((Itt K a).go i H∧∃N:St→Hp→Prop,(∀ σ' H',N σ' H'→∃m',m'<m∧W (i+1) m' σ' H')∧∀x H',(Itt K a).yld i H x H'→g x σ H' fun σ2 H2=>tb { D with nx:=N,ct:=N,bk:=D.nx } σ2 H2):=by
 refine⟨fun i m σ H=>m=xs.length - i∧i≤xs.length∧Pv i σ H,⟨xs.length,by simp,y2j _,h0⟩,?_⟩
 rintro i m σ H ⟨rfl,hi,p⟩
 have q:=hl i σ H hi p
 by_cases hlt:i<xs.length
 ·refine .inr ⟨⟨xs,xs[i],q,by simp [hlt]⟩,Pv (i+1),fun σ' H' p'=>⟨xs.length - (i+1),by omega,rfl,hlt,p'⟩,fun x H' y=>?_⟩
  obtain⟨e,y⟩:=y
  subst e
  exact hs i x σ _ (y xs q) p
 ·have e:i=xs.length:=by omega
  subst e
  exact .inl ⟨⟨xs,q,y07 _⟩,hd σ H p⟩
theorem zeq {lo:Int}{n:Nat}{g:TG}{tb:TS}{D:Ends}{σ:St}{H:Hp}(Pv:Nat→St→Hp→Prop)(h0:Pv 0 σ H)
  (hs:∀i σ H,i<n→Pv i σ H→g (.int (lo+i)) σ H fun σ2 H2=>tb { D with nx:=Pv (i+1),ct:=Pv (i+1),bk:=D.nx } σ2 H2) (hd:∀ σ H,Pv n σ H→D.nx σ H) :
  ∃W:Nat→Nat→St→Hp→Prop,(∃m,W 0 m σ H)∧∀i m σ H,W i m σ H →
   ((Itr lo n).stop i H∧D.nx σ H)∨((Itr lo n).go i H∧∃N:St→Hp→Prop,(∀ σ' H',N σ' H'→∃m',m'<m∧W (i+1) m' σ' H')∧∀x H',(Itr lo n).yld i H x H'→g x σ H' fun σ2 H2=>tb { D with nx:=N,ct:=N,bk:=D.nx } σ2 H2):=by
 refine⟨fun i m σ H=>m=n - i∧i≤n∧Pv i σ H,⟨n,by simp,y2j _,h0⟩,?_⟩
 rintro i m σ H ⟨rfl,hi,p⟩
 by_cases hlt:i<n
 ·refine .inr ⟨hlt,Pv (i+1),fun σ' H' p'=>⟨n - (i+1),by omega,rfl,hlt,p'⟩,fun x H' y=>?_⟩
  obtain⟨e,y⟩:=y
  subst e y
  exact hs i σ _ hlt p
 ·have e:i=n:=by omega
  subst e
  exact .inl ⟨y07 _,hd σ H p⟩
end L2
namespace L2
open PySem PySem.Spec PyProof.Rows
abbrev R2:=V→V→Hp→VK→Prop
def OpR (X:Cx)(f:Value→Value→Sem Value)(r:R2):Prop :=
 ∀(pins:List (Addr×Obj)) (s:Shared) (σ:St) (H:Hp) (x y:V) (v u:Value) (Q:VK),Inv X pins σ H s→RelV x v→RelV y u→r x y H Q →
  wpAny (model X.prog X.w) X.A (f v u) (EP X pins σ Q) X.xe s
def UnR (X:Cx)(f:Value→Sem Value)(r:V→Hp→VK→Prop):Prop :=
 ∀(pins:List (Addr×Obj)) (s:Shared) (σ:St) (H:Hp) (x:V) (v:Value) (Q:VK),Inv X pins σ H s→RelV x v→r x H Q →
  wpAny (model X.prog X.w) X.A (f v) (EP X pins σ Q) X.xe s
def z43 (X:Cx)(f:Value)(r:List V→Hp→VK→Prop):Prop :=
 ∀(pins:List (Addr×Obj)) (s:Shared) (σ:St) (H:Hp) (xs:List V) (us:List Value) (Q:VK),Inv X pins σ H s→Vals xs us→r xs H Q →
  wpAny (model X.prog X.w) X.A (call f us) (EP X pins σ Q) X.xe s
def tOp (r:R2)(ta tb:TE):TE:=fun σ H Q=>ta σ H fun x H1=>tb σ H1 fun y H2=>r x y H2 Q
def tUn (r:V→Hp→VK→Prop)(ta:TE):TE:=fun σ H Q=>ta σ H fun x H1=>r x H1 Q
def rI (C:Int→Int→Prop)(g:Int→Int→V):R2:=fun x y H Q=>∃i j,x = .int i∧y = .int j∧C i j∧Q (g i j) H
def rI0 (g:Int→Int→V):R2:=fun x y H Q=>∃i j,x = .int i∧y = .int j∧Q (g i j) H
def rU (g:Int→V):V→Hp→VK→Prop:=fun x H Q=>∃i,x = .int i∧Q (g i) H
section
variable {X:Cx}{a b c:Expr}{ta tb tc:TE}{pos:Pos}
theorem zoj (ha:PE X a ta)(hb:PE X b tb){pins:List (Addr×Obj)}{s:Shared}{σ:St}{H:Hp}{R:V→V→Hp→Prop}(I:Inv X pins σ H s)
  (h:ta σ H fun x H1=>tb σ H1 fun y H2=>R x y H2) {Q:Value→Shared→Prop} {f:Value→Value→Sem Value}
  (hf:∀v u s2 x y H2,Inv X pins σ H2 s2→RelV x v→RelV y u→R x y H2→wpAny (model X.prog X.w) X.A (f v u) Q X.xe s2) :
  wpAny (model X.prog X.w) X.A (eval a X.env) (fun v s₁=>wpAny (model X.prog X.w) X.A (eval b X.env) (fun u s₂=>wpAny (model X.prog X.w) X.A (f v u) Q X.xe s₂) X.xe s₁) X.xe s:=by
 refine thn (ha pins s σ H _ I h) fun v s1 ⟨x,H1,I1,r1,q1⟩=>?_
 refine thn (hb pins s1 σ H1 _ I1 q1) fun u s2 ⟨y,H2,I2,r2,q2⟩=>?_
 exact hf v u s2 x y H2 I2 r1 r2 q2
theorem z0j {op:Operator}{r:R2}(ho:OpR X (binaryOp op) r)(ha:PE X a ta)(hb:PE X b tb):PE X (.BinOp a op b pos) (tOp r ta tb):=by
 intro pins s σ H Q I h
 exact wpAny_BinOp (zoj ha hb I h fun v u s2 x y H2 I2 rx ry q=>ho pins s2 σ H2 x y v u Q I2 rx ry q)
theorem z9k {op:UnaryOp}{r:V→Hp→VK→Prop}(ho:UnR X (unaryOp op) r)(ha:PE X a ta):PE X (.UnaryOp op a pos) (tUn r ta):=by
 intro pins s σ H Q I h
 exact UnaryOp_ (thn (ha pins s σ H _ I h) fun v s1 ⟨x,H1,I1,r1,q1⟩=>ho pins s1 σ H1 x v Q I1 r1 q1)
theorem opI {f:Value→Value→Sem Value}{C:Int→Int→Prop}{g:Int→Int→Int}
  (rule:∀(i j:Int) (t u:Tok) (s:Shared) (Q:Value→Shared→Prop) (E:Value→Shared→Prop),C i j→Q (.int (g i j) s.toks) { s with toks:=s.toks+1 }→wpAny (model X.prog X.w) X.A (f (.int i t) (.int j u)) Q E s) :
  OpR X f (rI C fun i j=>.int (g i j)):=by
 intro pins s σ H x y v u Q I rx ry h
 obtain⟨i,j,rfl,rfl,hc,q⟩:=h
 obtain⟨t,rfl⟩:=rx
 obtain⟨t',rfl⟩:=ry
 exact rule i j t t' s _ _ hc ⟨.int (g i j),H,I.tok _,⟨_,rfl⟩,q⟩
theorem zpo {f:Value→Value→Sem Value}{g:Int→Int→Int}
  (rule:∀(i j:Int) (t u:Tok) (s:Shared) (Q:Value→Shared→Prop) (E:Value→Shared→Prop),Q (.int (g i j) s.toks) { s with toks:=s.toks+1 }→wpAny (model X.prog X.w) X.A (f (.int i t) (.int j u)) Q E s) :
  OpR X f (rI0 fun i j=>.int (g i j)):=by
 intro pins s σ H x y v u Q I rx ry h
 obtain⟨i,j,rfl,rfl,q⟩:=h
 obtain⟨t,rfl⟩:=rx
 obtain⟨t',rfl⟩:=ry
 exact rule i j t t' s _ _ ⟨.int (g i j),H,I.tok _,⟨_,rfl⟩,q⟩
theorem zov {f:Value→Value→Sem Value}{g:Int→Int→Bool}
  (rule:∀(i j:Int) (t u:Tok) (s:Shared) (Q:Value→Shared→Prop) (E:Value→Shared→Prop),Q (.bool (g i j)) s→wpAny (model X.prog X.w) X.A (f (.int i t) (.int j u)) Q E s) :
  OpR X f (rI0 fun i j=>.bl (g i j)):=by
 intro pins s σ H x y v u Q I rx ry h
 obtain⟨i,j,rfl,rfl,q⟩:=h
 obtain⟨t,rfl⟩:=rx
 obtain⟨t',rfl⟩:=ry
 exact rule i j t t' s _ _ ⟨.bl (g i j),H,I,rfl,q⟩
theorem znm:OpR X (binaryOp .Add) (rI0 fun i j=>.int (i+j)):=zpo fun _ _ _ _ _ _ _ q=>add_int q
theorem zmp:OpR X (binaryOp .Sub) (rI0 fun i j=>.int (i - j)):=zpo fun _ _ _ _ _ _ _ q=>sub_int q
theorem zn6:OpR X (binaryOp .Mod) (rI (fun _ j=>0<j) fun i j=>.int (i % j)):=opI fun i j _ _ _ _ _ hc q=>by
 have h1:(0:Int)<j:=hc
 exact mod_int' (by omega) (by rw [Int.fmod_eq_emod_of_nonneg i (by omega)]; exact q)
theorem unI {f:Value→Sem Value}{g:Int→Int}
  (rule:∀(i:Int) (t:Tok) (s:Shared) (Q:Value→Shared→Prop) (E:Value→Shared→Prop),Q (.int (g i) s.toks) { s with toks:=s.toks+1 }→wpAny (model X.prog X.w) X.A (f (.int i t)) Q E s) :
  UnR X f (rU fun i=>.int (g i)):=by
 intro pins s σ H x v Q I rx h
 obtain⟨i,rfl,q⟩:=h
 obtain⟨t,rfl⟩:=rx
 exact rule i t s _ _ ⟨.int (g i),H,I.tok _,⟨_,rfl⟩,q⟩
theorem zml:UnR X (unaryOp .USub) (rU fun i=>.int (-i)):=unI fun _ _ _ _ _ q=>neg_int q
end
def zo4:V→V→Bool
 | .non,.non=>true | .non,.int _=>true | .int _,.non=>true | .non,.bl _=>true | .bl _,.non=>true | .non,.str _=>true | .str _,.non=>true
 | .int _,.int _=>true | .bl _,.bl _=>true | .str _,.str _=>true | .byt _,.byt _=>true
 | .int _,.str _=>true | .str _,.int _=>true | .bl _,.str _=>true | .str _,.bl _=>true
 | _,_=>false
def rEq:R2:=fun x y H Q=>zo4 x y=true∧Q (.bl (decide (x=y))) H
def rNe:R2:=fun x y H Q=>zo4 x y=true∧Q (.bl (!decide (x=y))) H
theorem zfy {i j:Int}:decide (V.int i=V.int j)=(i==j):=by
 rw [y2m]
 simp
theorem zk2 {i j:Bool}:decide (V.bl i=V.bl j)=(i==j):=by
 rw [y2m]
 simp
theorem zhc {i j:Str}:decide (V.str i=V.str j)=(i==j):=by
 rw [y2m]
 simp
theorem zgb {i j:Array UInt8}:decide (V.byt i=V.byt j)=(i.toList==j.toList):=by
 rw [y2m]
 cases i
 cases j
 simp
section
variable {X:Cx}{a b c:Expr}{ta tb tc:TE}{pos:Pos}
theorem z1e {pins:List (Addr×Obj)}{σ:St}{H:Hp}{s:Shared}{Q:VK}{k k':Bool}(I:Inv X pins σ H s)(q:Q (.bl k) H)(e:k=k'):EP X pins σ Q (.bool k') s:=by
 subst e
 exact⟨.bl k,H,I,rfl,q⟩
theorem zhr:OpR X (compareOp .Eq) rEq:=by
 intro pins s σ H x y v u Q I rx ry h
 obtain⟨hs,q⟩:=h
 cases x with
 | non =>
  cases rx
  cases y with
  | non=>cases ry; exact PySem.EqNone.eq_none_none (z1e I q (by simp))
  | bl j=>cases ry; exact PySem.EqNone.eq_none_bool (z1e I q (by simp))
  | int j=>obtain⟨t',rfl⟩:=ry; exact PySem.EqNone.eq_none_int (z1e I q (by simp))
  | str j=>obtain⟨t',rfl⟩:=ry; exact PySem.EqNone.eq_none_str (z1e I q (by simp))
  | _=>exact absurd (show false=true from hs) y10
 | bl i =>
  cases rx
  cases y with
  | non=>cases ry; exact PySem.EqNone.eq_bool_none (z1e I q (by simp))
  | bl j=>cases ry; exact eq_bool (z1e I q zk2)
  | str j=>obtain⟨t',rfl⟩:=ry; exact PySem.EqMixed.eq_bool_str (z1e I q (by simp))
  | _=>exact absurd (show false=true from hs) y10
 | int i =>
  obtain⟨t,rfl⟩:=rx
  cases y with
  | non=>cases ry; exact PySem.EqNone.eq_int_none (z1e I q (by simp))
  | int j=>obtain⟨t',rfl⟩:=ry; exact eq_int (z1e I q zfy)
  | str j=>obtain⟨t',rfl⟩:=ry; exact PySem.EqMixed.eq_int_str (z1e I q (by simp))
  | _=>exact absurd (show false=true from hs) y10
 | str i =>
  obtain⟨t,rfl⟩:=rx
  cases y with
  | non=>cases ry; exact PySem.EqNone.eq_str_none (z1e I q (by simp))
  | bl j=>cases ry; exact PySem.EqMixed.eq_str_bool (z1e I q (by simp))
  | int j=>obtain⟨t',rfl⟩:=ry; exact PySem.EqMixed.eq_str_int (z1e I q (by simp))
  | str j=>obtain⟨t',rfl⟩:=ry; exact eq_str (z1e I q zhc)
  | _=>exact absurd (show false=true from hs) y10
 | byt i =>
  obtain⟨t,rfl⟩:=rx
  cases y with
  | byt j=>obtain⟨t',rfl⟩:=ry; exact PySem.W.eq_bytes (z1e I q zgb)
  | _=>exact absurd (show false=true from hs) y10
 | _=>cases y<;>exact absurd (show false=true from hs) y10
theorem zjb:OpR X (compareOp .NotEq) rNe:=by
 intro pins s σ H x y v u Q I rx ry h
 obtain⟨hs,q⟩:=h
 cases x with
 | non =>
  cases rx
  cases y with
  | non=>cases ry; exact PySem.EqNone.ne_none_none (z1e I q (by simp))
  | bl j=>cases ry; exact PySem.EqNone.ne_none_bool (z1e I q (by simp))
  | int j=>obtain⟨t',rfl⟩:=ry; exact PySem.EqNone.ne_none_int (z1e I q (by simp))
  | str j=>obtain⟨t',rfl⟩:=ry; exact PySem.EqNone.ne_none_str (z1e I q (by simp))
  | _=>exact absurd (show false=true from hs) y10
 | bl i =>
  cases rx
  cases y with
  | non=>cases ry; exact PySem.EqNone.ne_bool_none (z1e I q (by simp))
  | bl j=>cases ry; exact ne_bool (z1e I q (congrArg not zk2))
  | str j=>obtain⟨t',rfl⟩:=ry; exact PySem.EqMixed.ne_bool_str (z1e I q (by simp))
  | _=>exact absurd (show false=true from hs) y10
 | int i =>
  obtain⟨t,rfl⟩:=rx
  cases y with
  | non=>cases ry; exact PySem.EqNone.ne_int_none (z1e I q (by simp))
  | int j=>obtain⟨t',rfl⟩:=ry; exact ne_int (z1e I q (congrArg not zfy))
  | str j=>obtain⟨t',rfl⟩:=ry; exact PySem.EqMixed.ne_int_str (z1e I q (by simp))
  | _=>exact absurd (show false=true from hs) y10
 | str i =>
  obtain⟨t,rfl⟩:=rx
  cases y with
  | non=>cases ry; exact PySem.EqNone.ne_str_none (z1e I q (by simp))
  | bl j=>cases ry; exact PySem.EqMixed.ne_str_bool (z1e I q (by simp))
  | int j=>obtain⟨t',rfl⟩:=ry; exact PySem.EqMixed.ne_str_int (z1e I q (by simp))
  | str j=>obtain⟨t',rfl⟩:=ry; exact ne_str (z1e I q (congrArg not zhc))
  | _=>exact absurd (show false=true from hs) y10
 | byt i =>
  obtain⟨t,rfl⟩:=rx
  cases y with
  | byt j=>obtain⟨t',rfl⟩:=ry; exact PySem.W.ne_bytes (z1e I q (congrArg not zgb))
  | _=>exact absurd (show false=true from hs) y10
 | _=>cases y<;>exact absurd (show false=true from hs) y10
theorem zpe:OpR X (compareOp .Lt) (rI0 fun i j=>.bl (decide (i<j))):=zov fun _ _ _ _ _ _ _ q=>lt_int q
theorem zpb:OpR X (compareOp .Gt) (rI0 fun i j=>.bl (decide (j<i))):=zov fun _ _ _ _ _ _ _ q=>gt_int q
theorem zp4:OpR X (compareOp .GtE) (rI0 fun i j=>.bl (decide (j≤i))):=zov fun _ _ _ _ _ _ _ q=>ge_int q
theorem z0o (b:Expr){op:CmpOp}(h:op ≠ .In:=by decide)(h2:op ≠ .NotIn:=by decide):behindInMarks op b=false:=by
 have e1:(op==CmpOp.In)=false:=by cases op<;>first | rfl | exact absurd rfl h
 have e2:(op==CmpOp.NotIn)=false:=by cases op<;>first | rfl | exact absurd rfl h2
 cases b<;>simp [behindInMarks,e1,e2]
theorem z3e {op:CmpOp}{r:R2}(ho:OpR X (compareOp op) r)(ha:PE X a ta)(hb:PE X b tb)(hm:behindInMarks op b=false):PE X (.Compare a [op] [b] pos) (tOp r ta tb):=by
 intro pins s σ H Q I h
 exact wpAny_Compare1 (zoj ha hb I h fun v u s2 x y H2 I2 rx ry q=>ho pins s2 σ H2 x y v u Q I2 rx ry q) hm
theorem zad:(sizeLine:Nat)<2^63:=by rw [sizeLine_eq]; decide
theorem zee:OpR X (binaryOp .Add) (fun x y H Q=>∃i j,x = .str i∧y = .str j∧i.length+j.length≤sizeLine∧Q (.str (i++j)) H):=by
 intro pins s σ H x y v u Q I rx ry h
 obtain⟨i,j,rfl,rfl,hz,q⟩:=h
 obtain⟨t,rfl⟩:=rx
 obtain⟨t',rfl⟩:=ry
 exact add_str (fun t' tk=>⟨.str (i++j),H,I.tok _,⟨_,rfl⟩,q⟩) hz
theorem z7r {x:V}{us:List Value}(r:Vals [x] us):∃u,us = [u]∧RelV x u:=by
 cases r with
 | cons r1 r2=>cases r2; exact⟨_,rfl,r1⟩
theorem zkw {x y:V}{us:List Value}(r:Vals [x,y] us):∃u w',us = [u,w']∧RelV x u∧RelV y w':=by
 cases r with
 | cons r1 r2 =>
  cases r2 with
  | cons r3 r4=>cases r4; exact⟨_,_,rfl,r1,r3⟩
theorem zir:z43 X (.builtin "abs") (fun xs H Q=>∃i,xs = [.int i]∧Q (.int (if i<0 then -i else i)) H):=by
 intro pins s σ H xs us Q I r h
 obtain⟨i,rfl,q⟩:=h
 obtain⟨u,rfl,t,rfl⟩:=z7r r
 exact call_abs_int fun u tk=>⟨.int (if i<0 then -i else i),H,I.tok _,⟨_,rfl⟩,q⟩
theorem zgu (hc:X.calm=true):z43 X (.builtin "min") (fun xs H Q=>∃i j,xs = [.int i,.int j]∧Q (.int (if j<i then j else i)) H):=by
 intro pins s σ H xs us Q I r h
 obtain⟨i,j,rfl,q⟩:=h
 obtain⟨u,w',rfl,⟨t,rfl⟩,⟨t',rfl⟩⟩:=zkw r
 refine min_two_ints (I.ok.hd hc) fun h' tk k=>⟨_,H,I.kept k,?_,q⟩
 by_cases hj:j<i
 ·rw [if_pos hj,if_pos hj]; exact⟨_,rfl⟩
 ·rw [if_neg hj,if_neg hj]; exact⟨_,rfl⟩
end
end L2
namespace L2
open PySem PySem.Spec PyProof.Rows
structure ObjM (h:Heap)(x dx C:Addr)(mA:Str→Option Value):Prop where
 obj:h.get? x=some (y2v C dx)
 ns:h.Ns1 dx mA
 ne:dx≠x
theorem zgi {h:Heap}{dx:Addr}{mA:Str→Option Value}(n:h.Ns1 dx mA):∃od,h.get? dx=some od∧∀name,y4w name od=some (mA name):=by
 obtain⟨o,es,ep,ho,hd,hk,_,hm⟩:=n
 refine⟨o,ho,fun name=>?_⟩
 have e:=hm name
 unfold nsFind findBy at e
 rw [←Array.find?_toList] at e
 unfold y4w
 rw [hd]
 dsimp only
 split
 ·rename_i y q
  rw [q] at e
  exact congrArg some e
 ·rename_i q
  rw [q] at e
  have a:es.toList.any (·.refKey)=false:=by
   rw [y6a]
   intro y hy
   obtain⟨z,t,hkey⟩:=hk y (Array.mem_toList_iff.mp hy)
   simp [DictEntry.refKey,hkey]
  have a':¬es.toList.any (·.refKey)=true:=by rw [a]; exact y10
  rw [if_neg a']
  exact congrArg some e
theorem ObjM.look {h:Heap}{x dx C:Addr}{mA:Str→Option Value}(I:ObjM h x dx C mA):∃od,PySem.W.InstAt h x (y2v C dx) C (some od)∧∀name,y4w name od=some (mA name) :=
 let ⟨od,ho,hl⟩:=zgi I.ns
 ⟨od,⟨I.obj,rfl,rfl,ho⟩,hl⟩
section
variable {prog:Program}{w:World}{A:Around}{E:Value→Shared→Prop}{s:Shared}{K:y02}{x dx C f:Addr}{mA:Str→Option Value}{name:Str}{v:Value}
theorem zk9 {expr:Bool}{Q:Value→Shared→Prop}(X:K.In s.heap)(I:ObjM s.heap x dx C mA)(hg:y3o K C name=true)(hh:y3z K C=true)
  (ha:y0w K (.ref C) name=some none) (hv:mA name=some v) (hv':y6l v=true) (h:Q v { s with toks:=s.toks+1 }) :
  wpAny (model prog w) A (getAttr (.ref x) name expr) Q E s:=by
 obtain⟨od,J,hl⟩:=I.look
 exact PySem.W.get_value X J (y4f hg).1 (PySem.W.findObj_own hh ha rfl (by rw [hl,hv])) hv' h
theorem zhy {pl:Sem Bool}{Q:Value×List Value→Shared→Prop}(X:K.In s.heap)(I:ObjM s.heap x dx C mA)(hg:y3o K C name=true)
  (hf:y0w K (.ref C) name=some (some (.ref f))) (ht:y1w K (.ref f)=true) (hv:mA name=none) (h:Q (.ref f,[.ref x]) s) :
  wpAny (model prog w) A (getMethod (.ref x) name pl) Q E s:=by
 obtain⟨od,J,hl⟩:=I.look
 exact PySem.W.method_fn X J (y4f hg).1 (y4f hg).2 hf (beq_iff_eq.mp ht) (by show(y4w name od).map (·.isSome)=some false; rw [hl,hv]; rfl) h
theorem zl5 {ns:List Str}{Q:Unit→Shared→Prop}(X:K.In s.heap)(I:ObjM s.heap x dx C mA)
  (hs:y0w K (.ref C) "__setattr__"=some (some (.builtin "object.__setattr__"))) (hp:y4y K C=true) (ht:y5i K C name=some none) (hh:y3z K C=true)
  (hw:y6g mA ns) (hsz:ns.length≤sizeLine)
  (h:∀h',ObjM h' x dx C (fun y=>if y=name then some v else mA y)→Heap.SameBut dx s.heap h'→Q () { s with heap:=h',toks:=s.toks+2 }) :
  wpAny (model prog w) A (setAttr (.ref x) name v) Q E s:=by
 obtain⟨od,J,hl⟩:=I.look
 refine PySem.W.set_plain X J hs (PySem.W.osa_open (s:={ s with toks:=s.toks+1 }) (r:=none) X J hp ht fun b=>?_)
 obtain⟨cd,hc,hd'⟩:=PySem.W.any_some hh
 have hx:s.heap.get? x=some ⟨.ref C,some dx,.plain,#[]⟩:=I.obj
 refine wpAny_bind (wpAny_pure (wpAny_bind (wpAny_bind (wpAny_loadPart hx (wpAny_bind (PySem.W.Looks.here (s:={ s with toks:=s.toks+1 }) (PySem.W.looks_clsIn X hc) ?_))))))
 rw [hd']
 refine wpAny_pure (a:=some dx) (wpAny_bind (wpAny_pure (wpAny_bind ?_)))
 refine wpAny_nsSet1 (s:={ s with toks:=s.toks+1 }) I.ns fun h' hn2 hs2=>?_
 obtain⟨oD,esD,epD,hoD,hdD,hcD⟩:=hn2.count (PySem.Within.cons name v hw)
 refine wpAny_bind (wpAny_lookBehind hoD (by rw [hdD]; exact pastItsLine_dict (y19 hcD (by rw [y11]; omega))) ?_)
 exact wpAny_pure (h _ ⟨(hs2.2 _ (Ne.symm I.ne)).trans I.obj,hn2,I.ne⟩ hs2)
theorem zim {R:Result→Shared→Prop}{vs:List Value}{kw:List (Str×Value)}(X:K.In s.heap)(hm:y4g K C=true)
  (hi:y0w K (.ref C) "__init__"=some (some (.ref f))) (hf:PySem.W.typeIn K (.ref f)=some (.type "function"))
  (h:codeAny (model prog w) (A.under (.builtin "type.__call__" ⟨.ref C::vs,kw⟩)) (.call (.ref f) ⟨.ref (s.heap.objs.size+1)::vs,kw⟩) (PySem.W.InitBack (s.heap.objs.size+1) R)
   { s with heap:=(s.heap.push y29).push (y2v C s.heap.objs.size) }) :
  codeAny (model prog w) A (.call (.ref C) ⟨vs,kw⟩) R s:=by
 obtain⟨hh,g,d,t,os⟩:=s
 exact PySem.W.make_core (PySem.W.makes_of X hm) (PySem.W.looks_findIn X hi) (fun self=>PySem.W.bind_fn X self hf) (.inl rfl) h
end
def z84 (f:Str)(v:V):List (Str×V)→List (Str×V)
 | []=>[(f,v)]
 | (g,x)::r=>if g=f then (g,v)::r else (g,x)::z84 f v r
theorem z57 (f g:Str)(v:V):∀fs:List (Str×V),(z84 f v fs).lookup g=if g=f then some v else fs.lookup g
 | []=>by
  show y40 g [(f,v)]=_
  by_cases h:g=f
  ·have hb:(g==f)=true:=beq_iff_eq.mpr h
   simp only [y40,hb,if_pos h]
  ·have hb:(g==f)=false:=beq_eq_false_iff_ne.mpr h
   simp only [y40,hb,if_neg h]
 | (k,x)::r=>by
  have ih:=z57 f g v r
  rw [show z84 f v ((k,x)::r)=(if k=f then (k,v)::r else (k,x)::z84 f v r) from rfl]
  by_cases hk:k=f
  ·rw [if_pos hk]
   by_cases h:g=k
   ·have hb:(g==k)=true:=beq_iff_eq.mpr h
    simp only [y40,hb,if_pos (h.trans hk)]
   ·have hb:(g==k)=false:=beq_eq_false_iff_ne.mpr h
    simp only [y40,hb,if_neg (fun e:g=f=>h (e.trans hk.symm))]
  ·rw [if_neg hk]
   by_cases h:g=k
   ·have hb:(g==k)=true:=beq_iff_eq.mpr h
    simp only [y40,hb,if_neg (fun e:g=f=>hk (h.symm.trans e))]
   ·have hb:(g==k)=false:=beq_eq_false_iff_ne.mpr h
    simp only [y40,hb]
    exact ih
theorem z85 (f:Str)(v:V):∀fs:List (Str×V),f∈(z84 f v fs).map (·.1)∧∀g,g∈fs.map (·.1)→g∈(z84 f v fs).map (·.1)
 | []=>⟨by simp [z84],fun g h=>by simp at h⟩
 | (k,x)::r=>by
  obtain⟨i1,i2⟩:=z85 f v r
  rw [show z84 f v ((k,x)::r)=(if k=f then (k,v)::r else (k,x)::z84 f v r) from rfl]
  by_cases hk:k=f
  ·rw [if_pos hk]
   subst hk
   exact⟨by simp,fun g h=>by simpa using h⟩
  ·rw [if_neg hk]
   refine⟨?_,fun g h=>?_⟩
   ·rw [y0m]
    exact y08 _ i1
   ·rw [y0m] at h ⊢
    rcases y0k.mp h with e | e
    ·exact y0k.mpr (.inl e)
    ·exact y08 _ (i2 g e)
theorem z58 (f:Str)(v:V):∀fs:List (Str×V),(z84 f v fs).length≤fs.length+1
 | []=>by simp [z84]
 | (k,x)::r=>by
  have ih:=z58 f v r
  rw [show z84 f v ((k,x)::r)=(if k=f then (k,v)::r else (k,x)::z84 f v r) from rfl]
  by_cases hk:k=f
  ·rw [if_pos hk,y11,y11]; omega
  ·rw [if_neg hk,y11,y11]; omega
theorem RelO.some_of {v:V}{o:Option Value}(r:RelO (some v) o):∃u,o=some u∧RelV v u:=by
 cases o with
 | none=>exact(show False from r).elim
 | some u=>exact⟨u,rfl,r⟩
theorem RelO.none_of {o:Option Value}(r:RelO none o):o=none:=by
 cases o with
 | none=>rfl
 | some u=>exact(show False from r).elim
theorem zh0 {v:V}{u:Value}(r:RelV v u):y6l u=true:=by
 cases v with
 | non=>cases (show u=Value.none from r); rfl
 | bl b=>cases (show u=Value.bool b from r); rfl
 | int i=>obtain⟨t,e⟩:=(show ∃t,u=Value.int i t from r); cases e; rfl
 | str x=>obtain⟨t,e⟩:=(show ∃t,u=Value.str x t from r); cases e; rfl
 | byt b=>obtain⟨t,e⟩:=(show ∃t,u=Value.bytes b t from r); cases e; rfl
 | flt b=>obtain⟨t,e⟩:=(show ∃t,u=Value.float b t from r); cases e; rfl
 | ref a=>cases (show u=Value.ref a from r); rfl
 | ty n=>cases (show u=Value.type n from r); rfl
section
variable {P:Program}{w:World}{H H':Hp}{h h':Heap}{a C dx:Addr}{fs fs':List (Str×V)}
theorem z9b (hok:HOk P w H h)(e:H a=some (.ins C dx fs)):∃mA,ObjM h a dx C mA∧(∀f,RelO (fs.lookup f) (mA f))∧y6g mA (fs.map (·.1))∧fs.length≤1000∧H dx=some (.own a):=by
 obtain⟨d,z,ne,ob,mA,n,r,q⟩:=(show ObjOk P w H h a (.ins C dx fs) from hok a _ e)
 exact⟨mA,⟨ob,n,ne⟩,r,q,z,d⟩
end
structure Cls (K:y02)(C:Addr):Prop where
 pg:y3o K C Str.empty=true
 hd:y3z K C=true
 po:y4y K C=true
 sa:y0w K (.ref C) "__setattr__"=some (some (.builtin "object.__setattr__"))
theorem Cls.get {K:y02}{C:Addr}(c:Cls K C)(f:Str):y3o K C f=true:=c.pg
def NoAttr (K:y02)(C:Addr)(f:Str):Prop:=y0w K (.ref C) f=some none
theorem NoAttr.taker {K:y02}{C:Addr}{f:Str}(n:NoAttr K C f):y5i K C f=some none:=by
 unfold y5i
 rw [show y0w K (.ref C) f=some none from n]
 rfl
structure Con (K:y02)(C:Addr)(f:Str)(v:V)(u:Value):Prop where
 at_:y0w K (.ref C) f=some (some u)
 rel:RelV v u
 get:y6b K u "__get__"=some none
 cp:PySem.W.copiedNames.contains f=false
structure Meth (K:y02)(C:Addr)(m:Str)(f:Addr):Prop where
 at_:y0w K (.ref C) m=some (some (.ref f))
 fn:y1w K (.ref f)=true
 kp:y0e K (.ref f)=true
section
variable {X:Cx}{pins:List (Addr×Obj)}{σ:St}{H:Hp}{s:Shared}{a C dx:Addr}{fs:List (Str×V)}{f:Str}{v:V}{A:Around}{E:Value→Shared→Prop}
theorem ze3 {b:Bool}{Q:Value→Shared→Prop}(I:Inv X pins σ H s)(e:H a=some (.ins C dx fs))(c:Cls X.K C)(n:NoAttr X.K C f)(l:fs.lookup f=some v)
  (h:∀u s',Inv X pins σ H s'→RelV v u→Q u s'):wpAny (model X.prog X.w) A (getAttr (.ref a) f b) Q E s:=by
 obtain⟨mA,O,r,_,_,_⟩:=z9b I.hok e
 obtain⟨u,hu,ru⟩:=RelO.some_of (v:=v) (o:=mA f) (by rw [←l]; exact r f)
 exact zk9 I.kIn O (c.get f) c.hd n hu (zh0 ru) (h u _ (I.tok _) ru)
theorem z8t {m:Str}{g:Addr}{pl:Sem Bool}{Q:Value×List Value→Shared→Prop}(I:Inv X pins σ H s)(e:H a=some (.ins C dx fs))(c:Cls X.K C)(k:Meth X.K C m g)(l:fs.lookup m=none)
  (h:Q (.ref g,[.ref a]) s):wpAny (model X.prog X.w) A (getMethod (.ref a) m pl) Q E s:=by
 obtain⟨mA,O,r,_,_,_⟩:=z9b I.hok e
 have hn:mA m=none:=RelO.none_of (by rw [←l]; exact r m)
 exact zhy I.kIn O (c.get m) k.at_ k.fn hn h
theorem ze6 {y:V}{u:Value}{Q:Unit→Shared→Prop}(I:Inv X pins σ H s)(e:H a=some (.ins C dx fs))(c:Cls X.K C)(n:NoAttr X.K C f)(hl:fs.length<1000)(ry:RelV y u)
  (h:∀s',Inv X pins σ (upd H a (.ins C dx (z84 f y fs))) s'→Q () s'):wpAny (model X.prog X.w) A (setAttr (.ref a) f u) Q E s:=by
 obtain⟨mA,O,r,wi,_,ho⟩:=z9b I.hok e
 have hz:(fs.map (·.1)).length≤sizeLine:=by rw [y04,sizeLine_eq]; omega
 refine zl5 I.kIn O c.sa c.po n.taker c.hd wi hz fun h' O' sb=>h _ ?_
 have hd:∃o,h'.get? dx=some o:=let ⟨o,_,_,e',_⟩:=O'.ns; ⟨o,e'⟩
 refine I.write (x:=a) (e:=dx) (by rw [e]; exact True.intro) (.inr ho) (fun b q hb z=>(sb.2 b hb).trans z) hd ?_
 refine⟨by rw [z0a O.ne]; exact ho,?_,O.ne,O'.obj,_,O'.ns,fun g=>?_,fun g hg=>?_⟩
 ·have:=z58 f y fs; omega
 ·show RelO ((z84 f y fs).lookup g) (if g=f then some u else mA g)
  rw [z57]
  by_cases q:g=f
  ·rw [if_pos q,if_pos q]; exact ry
  ·rw [if_neg q,if_neg q]; exact r g
 ·by_cases q:g=f
  ·rw [q]; exact(z85 f y fs).1
  ·refine(z85 f y fs).2 g (wi g fun z=>hg ?_)
   show(if g=f then some u else mA g)=none
   rw [if_neg q]; exact z
theorem Inv.made (I:Inv X pins σ H s):Inv X pins σ (upd (upd H s.heap.objs.size (.own (s.heap.objs.size+1))) (s.heap.objs.size+1) (.ins C s.heap.objs.size []))
  { s with heap:=(s.heap.push y29).push (y2v C s.heap.objs.size) }:=by
 have e1:(s.heap.push y29).get? s.heap.objs.size=some y29:=Heap.get?_push_size s.heap rfl
 have e2:((s.heap.push y29).push (y2v C s.heap.objs.size)).get? (s.heap.objs.size+1)=some (y2v C s.heap.objs.size):=by
  have:=Heap.get?_push_size (s.heap.push y29) (o:=y2v C s.heap.objs.size) rfl
  rwa [Heap.size_push] at this
 have e3:(s.heap.push y29).Ns s.heap.objs.size (fun _=>none):=⟨y29,#[],_,e1,rfl,(fun e he=>absurd he (by simp)),fun _=>rfl⟩
 have I1:=I.laid (a:=s.heap.objs.size) (o:=.own (s.heap.objs.size+1)) (h':=s.heap.push y29) (t':=s.toks) (fun b u q=>Heap.get?_push_of_some _ q) (y07 _) ⟨_,e1⟩
 refine I1.laid (a:=s.heap.objs.size+1) (o:=.ins C s.heap.objs.size []) (t':=s.toks) (fun b u q=>Heap.get?_push_of_some _ q) (y6h (Heap.size_push _ _)) ?_
 have ne:s.heap.objs.size≠s.heap.objs.size+1:=y0x (y2z _)
 refine⟨by rw [z0a ne,z01],y2j _,ne,e2,fun _=>none,(Heap.Ns1.of_empty e3).at fun o q=>Heap.get?_push_of_some _ q,fun _=>True.intro,fun y hy=>absurd rfl hy⟩
theorem zle {prog:Program}{w:World}{env:Env}{e:Expr}{f:Str}{pos:Pos}{s:Shared}{Q:Value→Shared→Prop}(hb:attributeBase e f env (eval e env)=eval e env)
  (h:wpAny (model prog w) A (eval e env) (fun o s₁=>wpAny (model prog w) A (getAttr o f true) Q E s₁) E s):wpAny (model prog w) A (eval (.Attribute e f pos) env) Q E s :=
 Attribute_any_ h (by rw [arm_eval_Attribute,hb])
end
def zql (K:y02)(ta:TE)(f:Str):TE:=fun σ H Q=>ta σ H fun x H1=>∃a C dx fs v,x = .ref a∧H1 a=some (.ins C dx fs)∧Cls K C∧NoAttr K C f∧fs.lookup f=some v∧Q v H1
def zqk (K:y02)(ta tv:TE)(f:Str):TS:=fun D σ H=>tv σ H fun y H1=>ta σ H1 fun x H2=>∃a C dx fs,x = .ref a∧H2 a=some (.ins C dx fs)∧Cls K C∧NoAttr K C f∧fs.length<1000 ∧
 D.nx σ (upd H2 a (.ins C dx (z84 f y fs)))
section
variable {X:Cx}{o e value:Expr}{f:Str}{pos pos' tpos:Pos}{ta tv:TE}
theorem znd (he:PE X e ta)(hb:attributeBase e f X.env (eval e X.env)=eval e X.env):PE X (.Attribute e f pos) (zql X.K ta f):=by
 intro pins s σ H Q I h
 refine zle hb (thn (he pins s σ H _ I h) fun u s1 ⟨x,H1,I1,rx,a,C,dx,fs,v,ex,ea,c,n,l,q⟩=>?_)
 subst ex
 obtain rfl:u=Value.ref a:=rx
 exact ze3 I1 ea c n l fun u' s2 I2 ru=>⟨v,H1,I2,ru,q⟩
theorem znr (ha:PE X o ta)(hv:PE X value tv)(hs:swapsWith value (some (.Attribute o f pos')) pos.line X.env=pure false):PS X (.Assign [.Attribute o f pos'] value pos) (zqk X.K ta tv f):=by
 intro pins s σ H D I h
 refine plainObj_wpAny_Assign_Attribute (thn (hv pins s σ H _ I h) fun u s1 ⟨y,H1,I1,ry,q⟩=>thn (ha pins s1 σ H1 _ I1 q) fun ov s2 ⟨x,H2,I2,rx,a,C,dx,fs,ex,ea,c,n,l,q2⟩=>?_) hs
 subst ex
 obtain rfl:ov=Value.ref a:=rx
 exact ze6 I2 ea c n l ry fun s3 I3=>⟨σ,_,I3,q2⟩
end
section
variable {X:Cx}{pins:List (Addr×Obj)}{σ:St}{H:Hp}{s:Shared}{A:Around}{E:Value→Shared→Prop}{Q:Value→Shared→Prop}{c:Value}{b:Bool}
inductive TyOf (K:y02) (H:Hp):V→Value→Prop where
 | non:TyOf K H .non (.type "NoneType")
 | bl (x:Bool):TyOf K H (.bl x) (.type "bool")
 | int (i:Int):TyOf K H (.int i) (.type "int")
 | str (x:Str):TyOf K H (.str x) (.type "str")
 | flt (x:UInt64):TyOf K H (.flt x) (.type "float")
 | lst {a:Addr} {xs:List V} (e:H a=some (.lst xs)):TyOf K H (.ref a) (.type "list")
 | frz {a:Addr} {o:Obj} {xs:List V} (e:H a=some (.frz o (.lst xs))):TyOf K H (.ref a) (.type "list")
 | tup {a:Addr} {xs:List V} (e:H a=some (.tup xs)):TyOf K H (.ref a) (.type "tuple")
 | dK {a:Addr} {kvs:List (Key×V)} (e:H a=some (.dK kvs)):TyOf K H (.ref a) (.type "dict")
 | dT {a:Addr} {kvs:List (List Key×V)} (e:H a=some (.dT kvs)):TyOf K H (.ref a) (.type "dict")
 | ins {a C dx:Addr} {fs:List (Str×V)} (e:H a=some (.ins C dx fs)) (cl:Cls K C) (ha:y0w K (.ref C) "__class__"=some (some (.builtin "object.__class__")))
   (hn:y6b K (.builtin "object.__class__") "__get__"=some (some (.builtin "getset_descriptor.__get__"))) (htk:PySem.W.takesIn K (.builtin "object.__class__")=some true)
   (hm:PySem.W.mroIn K C (.type "object")=some true):TyOf K H (.ref a) (.ref C)
theorem zge {x:V}{u t:Value}(I:Inv X pins σ H s)(rx:RelV x u)(ty:TyOf X.K H x t)(e:y72 X.K t c=some b)(h:∀tk,Q (.bool b) { s with toks:=tk }) :
  wpAny (model X.prog X.w) A (call (.builtin "isinstance") [u,c]) Q E s:=by
 cases ty with
 | non=>cases (show u=Value.none from rx); exact y26 PySem.W.kitx_none I.kIn True.intro e (fun z=>nomatch z) h
 | bl y=>cases (show u=Value.bool y from rx); exact y26 PySem.W.kitx_bool I.kIn True.intro e (fun z=>nomatch z) h
 | int i=>obtain⟨t,q⟩:=(show ∃t,u=Value.int i t from rx); cases q; exact y26 PySem.W.kitx_int I.kIn True.intro e (fun z=>nomatch z) h
 | str y=>obtain⟨t,q⟩:=(show ∃t,u=Value.str y t from rx); cases q; exact y26 PySem.W.kitx_str I.kIn True.intro e (fun z=>nomatch z) h
 | flt y=>obtain⟨t,q⟩:=(show ∃t,u=Value.float y t from rx); cases q; exact y26 PySem.W.kitx_float I.kIn True.intro e (fun z=>nomatch z) h
 | @lst a xs ea =>
  cases (show u=Value.ref a from rx)
  obtain⟨_,_,n,_,h1⟩:=(show ObjOk X.prog X.w H s.heap a (.lst xs) from I.hok a _ ea)
  exact y26 y6c I.kIn ⟨_,h1,rfl⟩ e (fun z=>nomatch z) h
 | @frz a ob xs ea =>
  cases (show u=Value.ref a from rx)
  obtain⟨_,_,_,n,_,h1⟩:=(show ObjOk X.prog X.w H s.heap a (.frz ob (.lst xs)) from I.hok a _ ea)
  exact y26 y6c I.kIn ⟨_,h1,rfl⟩ e (fun z=>nomatch z) h
 | @tup a xs ea =>
  cases (show u=Value.ref a from rx)
  obtain⟨_,_,_,p⟩:=(show ObjOk X.prog X.w H s.heap a (.tup xs) from I.hok a _ ea)
  obtain⟨o,h1,h2,_⟩:=p
  exact y26 PySem.W.kitx_tuple I.kIn ⟨o,h1,h2⟩ e (fun z=>nomatch z) h
 | @dK a kvs ea =>
  cases (show u=Value.ref a from rx)
  obtain⟨_,_,vs,_,p⟩:=(show ObjOk X.prog X.w H s.heap a (.dK kvs) from I.hok a _ ea)
  obtain⟨o,es,ep,h1,h2,_⟩:=p
  exact y26 y6d I.kIn ⟨o,h1,h2.1⟩ e (fun z=>nomatch z) h
 | @dT a kvs ea =>
  cases (show u=Value.ref a from rx)
  obtain⟨_,_,xs,_,o,es,ep,h1,h2,_⟩:=(show ObjOk X.prog X.w H s.heap a (.dT kvs) from I.hok a _ ea)
  exact y26 y6d I.kIn ⟨o,h1,h2.1⟩ e (fun z=>nomatch z) h
 | @ins a C dx fs ea cl ha hn htk hm =>
  cases (show u=Value.ref a from rx)
  obtain⟨mA,O,_⟩:=z9b I.hok ea
  obtain⟨od,J,_⟩:=O.look
  exact y26 (PySem.W.kitx_own (cl.get _) cl.hd ha hn htk hm) I.kIn J e (fun z=>nomatch z) h
end
end L2
namespace L2
open PySem PySem.Spec PyProof.Rows
structure Room (k:Nat)(A:Around):Prop where
 hd:A.handled=none
 dp:A.depth+3*k+5<recursionLimit
 un:A.units+16*k+200<cLine
theorem Room.mono {j k:Nat}{A:Around}(r:Room k A)(h:j≤k):Room j A:=⟨r.hd,by have:=r.dp; omega,by have:=r.un; omega⟩
theorem Room.deeper {k:Nat}{A:Around}(r:Room (k+1) A)(env:Env):Room k (A.deeper env) :=
 ⟨r.hd,by have:=r.dp; show A.depth+1+3*k+5<_; omega,by have:=r.un; show A.units+3+16*k+200<_; omega⟩
theorem ze5 {A:Around}{C:Addr}{us:List Value}{kw:List (Str×Value)}:(A.under (.builtin "type.__call__" ⟨.ref C::us,kw⟩)).depth=A.depth+1:=by
 first | rfl | simp [Around.under,Code.weight,Code.isCreation,Code.isGuard,Code.isCaller,Code.frames,Code.isFrame,guardIds]
theorem zdm {A:Around}{C:Addr}{us:List Value}{kw:List (Str×Value)}:(A.under (.builtin "type.__call__" ⟨.ref C::us,kw⟩)).units=A.units+1:=by
 first | rfl | simp [Around.under,Code.cUnits,Code.frames,Code.isFrame]
theorem Room.make {k:Nat}{A:Around}(r:Room (k+1) A)(C:Addr)(us:List Value)(kw:List (Str×Value)):Room k (A.under (.builtin "type.__call__" ⟨.ref C::us,kw⟩)) :=
 ⟨r.hd,by have:=r.dp; rw [ze5]; omega,by have:=r.un; rw [zdm]; omega⟩
theorem Room.depth {k:Nat}{A:Around}(r:Room k A):A.depth<recursionLimit:=by have:=r.dp; omega
def zmm:TA:=fun _ H Q=>Q [] H
def zlj (ta:TE)(tr:TA):TA:=fun σ H Q=>ta σ H fun x H1=>tr σ H1 fun xs H2=>Q (x::xs) H2
section
variable {X:Cx}{e:Expr}{es:List Expr}{te:TE}{t:TA}{pos:Pos}
theorem z03:PA X [] zmm:=fun _ _ _ _ H Q I h=>Calls.spliced_nil ⟨[],H,I,.nil,h⟩
theorem z00 (ha:PE X e te)(hr:PA X es t)(hs:starEach (e::es) X.env=(false,eval e X.env)::starEach es X.env:=by rfl):PA X (e::es) (zlj te t):=by
 intro pos pins s σ H Q I h
 rw [hs]
 show wpAny _ _ (spliced ((false,eval e X.env)::backTo pos (starEach es X.env))) _ _ s
 refine Calls.spliced_cons (thn (ha pins s σ H _ I h) fun u s1 ⟨x,H1,I1,r1,q1⟩=>?_)
 exact thn (hr pos pins s1 σ H1 _ I1 q1) fun us s2 ⟨xs,H2,I2,r2,q2⟩=>⟨x::xs,H2,I2,.cons r1 r2,q2⟩
def zod (t:TA):TE:=fun σ H Q=>t σ H fun xs H1=>xs.length≤sizeLine∧∀p,H1 p=none→Q (.ref p) (upd H1 p (.tup xs))
def zol (t:TA):TE:=fun σ H Q=>t σ H fun xs H1=>xs.length≤sizeLine∧∀p,H1 p=none→Q (.ref p) (upd H1 p (.lst xs))
theorem z22 {x1}(h:PA X es t):PE X (.Tuple es x1 pos) (zod t):=by
 intro pins s σ H Q I hq
 refine wpAny_Tuple_spliced (thn (h pos pins s σ H _ I hq) fun us s1 ⟨xs,H1,I1,r,z,q⟩=>⟨by rw [←r.length]; exact z,?_⟩)
 have hf:H1 s1.heap.objs.size=none:=I1.hok.fresh (y07 _)
 refine⟨.ref s1.heap.objs.size,upd H1 s1.heap.objs.size (.tup xs),I1.laid (t':=s1.toks) (fun b u e=>Heap.get?_push_of_some _ e) (y07 _) ?_,rfl,q _ hf⟩
 exact⟨z,us,r,⟨_,Heap.get?_push_size _ rfl,rfl,_,rfl⟩⟩
theorem z1l (h:PA X es t):PE X (.List es pos) (zol t):=by
 intro pins s σ H Q I hq
 refine wpAny_List_spliced (thn (h pos pins s σ H _ I hq) fun us s1 ⟨xs,H1,I1,r,z,q⟩=>⟨by rw [←r.length]; exact z,?_⟩)
 have hf:H1 s1.heap.objs.size=none:=I1.hok.fresh (y07 _)
 refine⟨.ref s1.heap.objs.size,upd H1 s1.heap.objs.size (.lst xs),I1.laid (t':=s1.toks) (fun b u e=>Heap.get?_push_of_some _ e) (y07 _) ?_,rfl,q _ hf⟩
 exact⟨z,us,0,r,Heap.get?_push_size _ rfl⟩
end
abbrev Sp:=List V→Hp→VK→XK→Prop
abbrev CXT:=List Env→Hp→Shared→XK→Value→Shared→Prop
structure Env0 (P:Program)(w:World)(K:y02)(mg:Str→Option Value)(base:Heap)(A:Around)(outer:List Env)(s:Shared)(H:Hp):Prop where
 frames:A.frames=some outer
 mod:Mod K mg base
 bs:∀b o,base.get? b=some o→s.heap.get? b=some o∧H b=none
 bsz:base.objs.size≤s.heap.objs.size
 funs:s.heap.FunFrames base outer
 frf:∀b∈frs outer,H b=none
 hok:HOk P w H s.heap
 bare:AllBare s.gens
def CE (outer:List Env)(P:Program)(w:World)(H:Hp)(s:Shared)(Q:VK)(u:Value)(s':Shared):Prop :=
 ∃v H',s'.os=s.os∧AllBare s'.gens∧Un (frs outer) [] H H' s.heap s'.heap∧HOk P w H' s'.heap∧RelV v u∧Q v H'
def CR (CX:CXT)(outer:List Env)(P:Program)(w:World)(H:Hp)(s:Shared)(Q:VK)(E:XK)(r:Result)(s':Shared):Prop :=
 match r with
 | .ok (.ret u)=>CE outer P w H s Q u s'
 | .ok _=>False
 | .error e=>CX outer H s E e s'
structure FnOk (P:Program)(w:World)(K:y02)(mg:Str→Option Value)(base:Heap)(CX:CXT)(k:Nat)(f:Addr)(fd:FuncData)(ps:List Str)(sp:Sp):Prop where
 len:∀vs H Q E,sp vs H Q E→vs.length=ps.length
 run:∀(A:Around) (outer:List Env) (s:Shared) (H:Hp) (args:Args) (us:List Value) (vs:List V) (Q:VK) (E:XK),Room k A→Env0 P w K mg base A outer s H→BindsTo s fd args (ps.zip us)→Vals vs us→sp vs H Q E →
  codeAny (model P w) A (.call (.ref f) args) (CR CX outer P w H s Q E) s
theorem Env0.make {P:Program}{w:World}{K:y02}{mg:Str→Option Value}{base:Heap}{A:Around}{outer:List Env}{s:Shared}{H:Hp}(e:Env0 P w K mg base A outer s H)(C:Addr)(us:List Value)(kw:List (Str×Value)) :
  Env0 P w K mg base (A.under (.builtin "type.__call__" ⟨.ref C::us,kw⟩)) outer s H:=⟨by first | exact e.frames | (simpa [Around.under,Code.envs,Code.isFrame,pushEnvs] using e.frames),e.mod,e.bs,e.bsz,e.funs,e.frf,e.hok,e.bare⟩
section
variable {X:Cx}{pins:List (Addr×Obj)}{σ:St}{H:Hp}{s s':Shared}
theorem Inv.env0 (I:Inv X pins σ H s):Env0 X.prog X.w X.K X.mg X.base X.A X.stack s H :=
 ⟨I.ok.frames,I.ok.mod,I.bs,y19 I.ok.bsz I.sz,I.stack,I.stkFree,I.hok,I.bare⟩
theorem Inv.after {Q:VK}{u:Value}(I:Inv X pins σ H s)(h:CE X.stack X.prog X.w H s Q u s'):EP X pins σ Q u s':=by
 obtain⟨v,H',os,bare,un,hok,r,q⟩:=h
 obtain⟨hh,g,d,t,os'⟩:=s'
 obtain rfl:os'=s.os:=os
 exact⟨v,H',I.call (h':=hh) (g':=g) (d':=d) (t':=t) (ch:=[]) un hok bare (fun b z=>absurd z (by simp)),r,q⟩
end
def znb (C:Addr)(m:Str)(sp:Sp)(dvs:List V)(E:XK)(ta:TE)(t:TA):TE:=fun σ H Q=>ta σ H fun x H1=>∃a dx fs,x = .ref a∧H1 a=some (.ins C dx fs)∧fs.lookup m=none ∧
 t σ H1 fun vs H2=>sp (x::(vs++dvs)) H2 Q E
def zp9 (C:Addr)(sp:Sp)(dvs:List V)(E:XK)(t:TA):TE:=fun σ H Q=>t σ H fun vs H1=>∀x dx,H1 x=none→H1 dx=none→dx≠x →
 sp (.ref x::(vs++dvs)) (upd (upd H1 dx (.own x)) x (.ins C dx [])) (fun v H2=>v = .non∧Q (.ref x) H2) E
def Binds (K:y02)(fd:FuncData)(ps:List Str)(ds:List Value):Prop :=
 ∀(s:Shared) (us:List Value),K.In s.heap→(us++ds).length=ps.length→BindsTo s fd ⟨us,[]⟩ (ps.zip (us++ds))
theorem Binds.all {K:y02}{fd:FuncData}{ps:List Str}(h:∀us:List Value,us.length=ps.length→bindArgs fd ⟨us,[]⟩=pure (ps.zip us)):Binds K fd ps []:=fun s us _ hl=>by
 rw [y2n] at hl ⊢
 exact .of_eq (h us hl)
def z8w (CX:CXT)(X:Cx)(E:XK):Prop:=∀(pins:List (Addr×Obj)) (σ:St) (H:Hp) (s:Shared) (e:Value) (s':Shared),Inv X pins σ H s→CX X.stack H s E e s'→X.xe e s'
section
variable {X:Cx}{CX:CXT}{k:Nat}{f C:Addr}{fd:FuncData}{ps:List Str}{sp:Sp}{dvs:List V}{ds:List Value}{E:XK}{x m:Str}{p pos apos:Pos}{e o:Expr}{es:List Expr}{ta:TE}{t:TA}
theorem zgc {pins:List (Addr×Obj)}{σ:St}{H:Hp}{s:Shared}{Q:VK}{us:List Value}{vs:List V}(F:FnOk X.prog X.w X.K X.mg X.base CX k f fd ps sp)(hr:Room k X.A)(hb:Binds X.K fd ps ds)(hd:Vals dvs ds)(hx:z8w CX X E)
  (I:Inv X pins σ H s) (r:Vals vs us) (h:sp (vs++dvs) H Q E):wpAny (model X.prog X.w) X.A (call (.ref f) us) (EP X pins σ Q) X.xe s:=by
 have r2:Vals (vs++dvs) (us++ds):=r.append hd
 have hl:(us++ds).length=ps.length:=by rw [←r2.length]; exact F.len _ _ _ _ h
 refine wpAny_call (codeAny_mono (F.run X.A X.stack s H ⟨us,[]⟩ (us++ds) (vs++dvs) Q E hr I.env0 (hb s us I.kIn hl) r2 h) fun r s' hq=>?_)
 cases r with
 | error e=>exact hx pins σ H s e s' I hq
 | ok fl =>
  cases fl with
  | ret u=>exact I.after hq
  | next=>exact False.elim hq
  | brk=>exact False.elim hq
  | cont=>exact False.elim hq
theorem zkq {pl:Sem Bool}(he:PE X o ta)(c:Cls X.K C)(hm:Meth X.K C m f)(F:FnOk X.prog X.w X.K X.mg X.base CX k f fd ps sp)(hr:Room k X.A)(hb:Binds X.K fd ps ds)(hd:Vals dvs ds)(hx:z8w CX X E)(ha:PA X (e::es) t)
  (hst:starEach (e::es) X.env=(false,eval e X.env)::starEach es X.env:=by rfl) (hpl:(backTo pos (starEach es X.env)).any (·.1)=false:=by rfl)
  (ht:eval (.Call (.Attribute o m apos) (e::es) [] pos) X.env=(do
   let ov ←eval o X.env
   standAt apos.atName
   let (f,first) ←holding [ov] (getMethod ov m pl)
   callWith pos f first (backTo pos (starEach (e::es) X.env)) (backToKw pos (keywordEach [] X.env))):=by rfl) :
  PE X (.Call (.Attribute o m apos) (e::es) [] pos) (znb C m sp dvs E ta t):=by
 intro pins s σ H Q I h
 refine y5j (pl:=pl) (thn (he pins s σ H _ I h) fun u s1 ⟨x,H1,I1,rx,a,dx,fs,ex,ea,l,q⟩=>?_) ht
 subst ex
 obtain rfl:u=Value.ref a:=rx
 refine z8t I1 ea c hm l ?_
 refine y4r (first:=[.ref a]) (h₀:=X.base) I.ok.mod.kin hm.kp (thn (ha pos pins s1 σ H1 _ I1 q) fun us s2 ⟨vs,H2,I2,r,q2⟩=>⟨I2.kIn,?_⟩) hst hpl
 exact zgc (us:=.ref a::us) (vs:=.ref a::vs) F hr hb hd hx I2 (.cons rfl r) q2
theorem zj3 {pl:Sem Bool}(he:PE X o ta)(c:Cls X.K C)(hm:Meth X.K C m f)(F:FnOk X.prog X.w X.K X.mg X.base CX k f fd ps sp)(hr:Room k X.A)(hb:Binds X.K fd ps ds)(hd:Vals dvs ds)(hx:z8w CX X E)
  (ht:eval (.Call (.Attribute o m apos) [] [] pos) X.env=(do
   let ov ←eval o X.env
   standAt apos.atName
   let (f,first) ←holding [ov] (getMethod ov m pl)
   callWith pos f first (backTo pos (starEach [] X.env)) (backToKw pos (keywordEach [] X.env))):=by rfl) :
  PE X (.Call (.Attribute o m apos) [] [] pos) (znb C m sp dvs E ta zmm):=by
 intro pins s σ H Q I h
 refine y5j (pl:=pl) (thn (he pins s σ H _ I h) fun u s1 ⟨x,H1,I1,rx,a,dx,fs,ex,ea,l,q⟩=>?_) ht
 subst ex
 obtain rfl:u=Value.ref a:=rx
 refine z8t I1 ea c hm l ?_
 exact PySem.W.callWith_K0 (first:=[.ref a]) I1.kIn hm.kp (zgc (us:=[.ref a]) (vs:=[.ref a]) F hr hb hd hx I1 (.cons rfl .nil) q)
structure Mk (K:y02)(C f:Addr):Prop where
 makes:y4g K C=true
 init:y0w K (.ref C) "__init__"=some (some (.ref f))
 fn:y1w K (.ref f)=true
 kp:y0e K (.ref C)=true
theorem zi6 {pins:List (Addr×Obj)}{σ:St}{H:Hp}{s:Shared}{Q:VK}{us:List Value}{vs:List V}(M:Mk X.K C f)(F:FnOk X.prog X.w X.K X.mg X.base CX k f fd ps sp)(hr:Room (k+1) X.A)(hb:Binds X.K fd ps ds)(hd:Vals dvs ds)
  (hx:z8w CX X E) (I:Inv X pins σ H s) (r:Vals vs us)
  (h:∀x dx,H x=none→H dx=none→dx≠x→sp (.ref x::(vs++dvs)) (upd (upd H dx (.own x)) x (.ins C dx [])) (fun v H2=>v = .non∧Q (.ref x) H2) E) :
  wpAny (model X.prog X.w) X.A (call (.ref C) us) (EP X pins σ Q) X.xe s:=by
 have hq:=h (s.heap.objs.size+1) s.heap.objs.size (I.hok.fresh (y58 _)) (I.hok.fresh (y07 _)) (y0x (y2z _))
 have I2:=Inv.made (C:=C) I
 have r2:Vals (V.ref (s.heap.objs.size+1)::(vs++dvs)) (Value.ref (s.heap.objs.size+1)::(us++ds)):=.cons rfl (r.append hd)
 have hl:(Value.ref (s.heap.objs.size+1)::us++ds).length=ps.length:=by
  have e:=r2.length
  rw [F.len _ _ _ _ hq] at e
  exact e.symm
 refine wpAny_call (zim (f:=f) I.kIn M.makes M.init (beq_iff_eq.mp M.fn) (codeAny_mono (F.run _ X.stack _ _ ⟨Value.ref (s.heap.objs.size+1)::us,[]⟩ (Value.ref (s.heap.objs.size+1)::(us++ds)) _ _ E (hr.make C us [])
  (I2.env0.make C us []) (hb _ (Value.ref (s.heap.objs.size+1)::us) I2.kIn hl) r2 hq) fun r s' hq'=>?_))
 cases r with
 | error e=>exact hx pins σ _ _ e s' I2 hq'
 | ok fl =>
  cases fl with
  | ret u =>
   obtain⟨v,H',I3,rv,ev,q3⟩:=I2.after hq'
   subst ev
   exact⟨rv,⟨V.ref (s.heap.objs.size+1),H',I3,rfl,q3⟩⟩
  | next=>exact False.elim hq'
  | brk=>exact False.elim hq'
  | cont=>exact False.elim hq'
theorem zlr (M:Mk X.K C f)(F:FnOk X.prog X.w X.K X.mg X.base CX k f fd ps sp)(hr:Room (k+1) X.A)(hg:Gl X x)(hm:X.mg x=some (.ref C))(hb:Binds X.K fd ps ds)(hd:Vals dvs ds)(hx:z8w CX X E)
  (ha:PA X (e::es) t) (hdb:(x==("__debug__":Str))=false:=by decide) (he:starEach (e::es) X.env=(false,eval e X.env)::starEach es X.env:=by rfl) (hpl:(backTo pos (starEach es X.env)).any (·.1)=false:=by rfl) :
  PE X (.Call (.Name x p) (e::es) [] pos) (zp9 C sp dvs E t):=by
 intro pins s σ H Q I h
 refine wpAny_Call_Name_kw (zh7 I hg hm ?_ hdb)
 refine y4r (h₀:=X.base) I.ok.mod.kin M.kp (thn (ha pos pins s σ H _ I h) fun us s1 ⟨vs,H1,I1,r,q⟩=>⟨I1.kIn,?_⟩) he hpl
 exact zi6 M F hr hb hd hx I1 r q
end
section
variable {X:Cx}{CX:CXT}{k:Nat}{f C:Addr}{fd:FuncData}{ps ks:List Str}{sp:Sp}{E:XK}{x m:Str}{p pos apos kpos:Pos}{e o:Expr}{es:List Expr}{kws:List Keyword}{te ta:TE}{t tk:TA}{nm:Option Str}
structure KBinds (K:y02)(fd:FuncData)(ps ks:List Str)(g:List Value→List Value→List Value)(gV:List V→List V→List V):Prop where
 to:∀(s:Shared) (us ws:List Value),K.In s.heap→(g us ws).length=ps.length→BindsTo s fd ⟨us,ks.zip ws⟩ (ps.zip (g us ws))
 rel:∀{vs:List V} {us:List Value} {zs:List V} {ws:List Value},Vals vs us→Vals zs ws→Vals (gV vs zs) (g us ws)
variable {g:List Value→List Value→List Value}{gV:List V→List V→List V}
end
structure FnScope (N P:List Str)(sc:Scope):Prop where
 kind:sc.kind = .function
 co:sc.isCoroutine=false
 gen:sc.isGenerator=false
 nd:N.Nodup
 pre:N.take P.length=P
 par:∀x∈P,sc.names.lookup x=some .local∨sc.names.lookup x=some .cell
 nofree:∀y∈sc.names,y.2 ≠ .free
theorem z9t {kindOf:Str→Option NameKind}{x:Str}:∀{binds:List (Str×Value)} {m:Str→Option Value},(∀v,(x,v) ∉ binds)→bindL kindOf binds m x=m x
 | [],_,_=>rfl
 | (n,v)::r,m,h=>by
  unfold bindL
  rw [z9t fun w hw=>h w (y08 _ hw)]
  split
  ·have:x≠n:=by rintro rfl; exact h v y0d
   simp [this]
  ·rfl
theorem zav {kindOf:Str→Option NameKind}{x:Str}:∀{binds:List (Str×Value)} {m:Str→Option Value},(∀v,(x,v) ∉ binds)→bindC kindOf binds m x=m x
 | [],_,_=>rfl
 | (n,v)::r,m,h=>by
  unfold bindC
  rw [zav fun w hw=>h w (y08 _ hw)]
  split
  ·rfl
  ·have:x≠n:=by rintro rfl; exact h v y0d
   simp [this]
theorem z9x {kindOf:Str→Option NameKind}{x:Str}{v:Value}:∀{P:List Str} {vs:List Value} {i:Nat} {m:Str→Option Value},P.Nodup→P[i]?=some x→vs[i]?=some v→kindOf x=some .local →
  bindL kindOf (P.zip vs) m x=some v
 | [],_,_,_,_,h,_,_=>by simp at h
 | _::_,[],_,_,_,_,h,_=>by simp at h
 | p::P,w::vs,0,m,nd,h1,h2,hk=>by
  simp at h1 h2; subst h1; subst h2
  show bindL kindOf ((p,w)::P.zip vs) m p=_
  unfold bindL
  rw [z9t fun v hv=>(y3a.mp nd).1 (y1x hv).1,if_pos hk]
  simp
 | p::P,w::vs,i+1,m,nd,h1,h2,hk=>by
  show bindL kindOf ((p,w)::P.zip vs) m x=_
  unfold bindL
  exact z9x (i:=i) (y3a.mp nd).2 (by simpa using h1) (by simpa using h2) hk
theorem zb4 {kindOf:Str→Option NameKind}{x:Str}{v:Value}:∀{P:List Str} {vs:List Value} {i:Nat} {m:Str→Option Value},P.Nodup→P[i]?=some x→vs[i]?=some v→kindOf x≠some .local →
  bindC kindOf (P.zip vs) m x=some v
 | [],_,_,_,_,h,_,_=>by simp at h
 | _::_,[],_,_,_,_,h,_=>by simp at h
 | p::P,w::vs,0,m,nd,h1,h2,hk=>by
  simp at h1 h2; subst h1; subst h2
  show bindC kindOf ((p,w)::P.zip vs) m p=_
  unfold bindC
  rw [zav fun v hv=>(y3a.mp nd).1 (y1x hv).1,if_neg hk]
  simp
 | p::P,w::vs,i+1,m,nd,h1,h2,hk=>by
  show bindC kindOf ((p,w)::P.zip vs) m x=_
  unfold bindC
  exact zb4 (i:=i) (y3a.mp nd).2 (by simpa using h1) (by simpa using h2) hk
def start (N:List Str)(vs:List V):St:=vs.map some++y06 (N.length - vs.length) none
def zhp (CX:CXT)(P:Program)(w:World)(K:y02)(mg:Str→Option Value)(base:Heap)(N:List Str)(qual:Str)(scope:Scope)(f:Addr)(cd:Value)(A:Around)(outer:List Env)(s:Shared)(H:Hp)(E:XK):Cx where
 prog:=P
 w:=w
 K:=K
 mg:=mg
 base:=base
 A:=A.deeper (envOfC qual scope s.heap.objs.size f cd)
 N:=N
 s₀:=s
 H₀:=H
 env:=envOfC qual scope s.heap.objs.size f cd
 outer:=outer
 stack:=envOfC qual scope s.heap.objs.size f cd::outer
 ex:=[]
 calm:=true
 fn:=fun _=>true
 pn:=[]
 xe:=fun e s'=>wpAny (model P w) (A.deeper (envOfC qual scope s.heap.objs.size f cd)) (leaving (envOfC qual scope s.heap.objs.size f cd) e) (fun _ s''=>CX outer H s E e s'') (fun e' s''=>CX outer H s E e' s'') s'
theorem zcg {sc:Scope}{n:Nat}{x:Str}(h:sc.names.lookup x=some .cell):∃c,(cellsFrom n sc.names []).lookup x=some c:=by
 have q:=y5f sc.names n [] (.inl h)
 exact Option.isSome_iff_exists.mp q
theorem zfn {CX:CXT}{P:Program}{w:World}{K:y02}{mg:Str→Option Value}{base:Heap}{N ps:List Str}{qual:Str}{scope:Scope}{f:Addr}{cd:Value}{A:Around}{outer:List Env}{s s1:Shared}{H:Hp}{E:XK}{us:List Value}{vs:List V}
  (S:FnScope N ps scope) (hd:A.handled=none) (e0:Env0 P w K mg base A outer s H) (hl:vs.length=ps.length) (r:Vals vs us)
  (x:InCallC s s.heap.objs.size (bindL (envOfC qual scope s.heap.objs.size f cd).kindOf (ps.zip us) fun _=>none) (cellsFrom (s.heap.objs.size+1) scope.names []) (bindC (envOfC qual scope s.heap.objs.size f cd).kindOf (ps.zip us) fun _=>none) s1) :
  Inv (zhp CX P w K mg base N qual scope f cd A outer s H E) [] (start N vs) H s1:=by
 have hpl:ps.length≤N.length:=by have:=congrArg y5y S.pre; rw [y0r] at this; omega
 obtain⟨h1,tk,rfl,hk⟩:=x.done
 have noA:∀b:Addr,b ∉ (zhp CX P w K mg base N qual scope f cd A outer s H E).ex:=fun b z=>absurd (show b∈([]:List Addr) from z) (by simp)
 refine⟨⟨e0.mod,S.kind,rfl,rfl,y07 _,fun y z c h1 h2=>?_,fun y hy=>?_,fun y c _ h=>?_,fun _=>hd,Around.frames_deeper e0.frames,.inr ⟨rfl,rfl⟩,fun b z=>absurd z (noA b),e0.bs,e0.bsz,fun b _ _=>noA b,fun b z=>absurd z (noA b),e0.funs,e0.frf⟩,
  rfl,e0.bare,Un.kept hk,⟨_,x.toInCall.ns,fun i y v h1 h2 h3=>?_⟩,fun y c h=>⟨_,x.cell y c h⟩,e0.hok.fresh (y07 _),fun y c h=>?_,fun p hp=>absurd (show p∈([]:List (Addr×Obj)) from hp) (by simp),e0.hok.kept hk,?_⟩
 ·exact name_of_addr x.apart (y1y h1) (y1y h2)
 ·have hy:scope.names.lookup y=some .cell∨scope.names.lookup y=some .free:=hy
  rcases hy with hy | hy
  ·exact zcg hy
  ·exact absurd rfl (S.nofree _ (y1y hy))
 ·exact y4p (x.above y c (y1y h))
 ·have hi:i<vs.length:=by
   unfold start at h2
   by_cases hi:i<vs.length
   ·exact hi
   ·rw [y0s (by simpa using hi)] at h2
    rw [y1i] at h2
    split at h2<;>cases h2
  have ha:vs[i]?=some v:=by
   unfold start at h2
   rw [y0l (by simpa using hi),y0b] at h2
   cases e:vs[i]? with
   | none=>rw [e] at h2; cases h2
   | some a=>rw [e] at h2; cases h2; rfl
  obtain⟨u,hu,rv⟩:=r.get ha
  have hp:ps[i]?=some y:=by
   rw [←S.pre,y4z (by omega)]; exact h1
  have ndP:ps.Nodup:=by rw [←S.pre]; exact S.nd.sublist (List.take_sublist _ _)
  refine⟨u,rv,?_⟩
  rcases S.par y (y03 hp) with k | k
  ·exact .inl ⟨k,z9x ndP hp hu k⟩
  ·obtain⟨c,e⟩:=zcg (n:=s.heap.objs.size+1) k
   refine .inr ⟨.inl k,c,e,?_⟩
   have q:=x.cell y c e
   rw [zb4 ndP hp hu (by show scope.names.lookup y≠_; rw [k]; decide)] at q
   exact q
 ·exact e0.hok.fresh (y4p (x.above y c (y1y h)))
 ·unfold start
  show _=N.length
  rw [y09,y04,y1z]
  omega
theorem zpa {CX:CXT}{P:Program}{w:World}{K:y02}{mg:Str→Option Value}{base:Heap}{k:Nat}{f:Addr}{name qual:Str}{params:Arguments}{body:List Stmt}{scope:Scope}{dV kV doc pm cdv ct oc:Value}{an od:Option Addr}
  {osl:Array (Option Value)} {N ps:List Str} {sp:Sp} (lk:K.lookup f=some ⟨oc,od,.func (y0i name qual params body scope dV kV doc pm an cdv ct),osl⟩) (hcd:y0g K cdv qual=true) (S:FnScope N ps scope)
  (len:∀vs H Q E,sp vs H Q E→vs.length=ps.length)
  (hbody:∀(A:Around) (outer:List Env) (s:Shared) (H:Hp) (vs:List V) (Q:VK) (E:XK),Room k (A.deeper (envOfC qual scope s.heap.objs.size f cdv))→sp vs H Q E →
   ∃t,PSs (zhp CX P w K mg base N qual scope f cdv A outer s H E) body t∧t { nx:=fun _ H'=>Q .non H',rt:=Q } (start N vs) H) :
  FnOk P w K mg base CX (k+1) f (y0i name qual params body scope dV kV doc pm an cdv ct) ps sp:=by
 refine⟨len,fun A outer s H args us vs Q E hr e0 hb r hsp=>?_⟩
 have hl:=len _ _ _ _ hsp
 have KX:K.In s.heap:=e0.mod.kin.keeps fun b o e=>(e0.bs b o e).1
 have lim:s.heap.NoLimit:=e0.mod.nolimit.keeps fun b o e=>(e0.bs b o e).1
 have hkind:∀y∈ps.zip us,scope.names.lookup y.1=some .local∨(scope.names.lookup y.1=some .cell∧((cellsFrom (s.heap.objs.size+1) scope.names []).lookup y.1).isSome=true):=fun ⟨n,v⟩ hy=>by
  rcases S.par n (y1x hy).1 with q | q
  ·exact .inl q
  ·exact .inr ⟨q,y5f _ _ _ (.inl q)⟩
 refine codeAny_call_function hr.depth (KX _ _ lk) rfl S.co S.gen rfl (PySem.W.codeRec_of KX hcd) (hb _ _ _ _ ?_)
 refine wpAny_newFunctionEnv_cells S.kind hkind fun env he s1 x=>?_
 subst he
 refine⟨lim.keeps x.toInCall.keep,codeAny_func ?_⟩
 obtain⟨t,ht,hq⟩:=hbody A outer s H vs Q E (hr.deeper _) hsp
 have I:Inv (zhp CX P w K mg base N qual scope f cdv A outer s H E) [] (start N vs) H s1:=zfn S hr.hd e0 hl r x
 refine wpAny_mono (ht [] s1 (start N vs) H _ I hq) (fun fl s' hs=>?_) fun e s' hs=>hs
 have fin:∀{σ':St} {H':Hp} {v:V} {u:Value},Inv (zhp CX P w K mg base N qual scope f cdv A outer s H E) [] σ' H' s'→RelV v u→Q v H'→CE outer P w H s Q u s' :=
  fun {σ' H' v u} J rv q=>⟨v,H',J.os,J.bare,J.base,J.hok,rv,q⟩
 cases fl with
 | ret u =>
  obtain⟨v,σ',H',J,rv,q⟩:=hs
  exact fin J rv q
 | next =>
  obtain⟨σ',H',J,q⟩:=hs
  exact fin (v:=V.non) (u:=Value.none) J rfl q
 | brk =>
  obtain⟨_,_,_,q⟩:=hs
  exact False.elim q
 | cont =>
  obtain⟨_,_,_,q⟩:=hs
  exact False.elim q
end L2
namespace L2
open PySem PySem.Spec PyProof.Rows
section
variable {X:Cx}{x:Str}{p pos:Pos}{e:Expr}{es:List Expr}{t:TA}{id T:String}{r:List V→Hp→VK→Prop}
def tCB (r:List V→Hp→VK→Prop)(t:TA):TE:=fun σ H Q=>t σ H fun vs H1=>r vs H1 Q
theorem ziq (hc:z43 X (.builtin id) r)(hg:Gl X x)(hm:X.mg x=none)(hv:bootBuiltins x=some (.builtin id))(ha:PA X (e::es) t)(hn:x ≠ "__name__":=by decide)(hdb:(x==("__debug__":Str))=false:=by decide)
  (he:starEach (e::es) X.env=(false,eval e X.env)::starEach es X.env:=by rfl) (hpl:(backTo pos (starEach es X.env)).any (·.1)=false:=by rfl):PE X (.Call (.Name x p) (e::es) [] pos) (tCB r t):=by
 intro pins s σ H Q I h
 refine wpAny_Call_Name_kw (z6m I hg hm hv ?_ hn hdb)
 exact PyProof.Rows.callWith_builtin1 (thn (ha pos pins s σ H _ I h) fun us s1 ⟨vs,H1,I1,r1,q1⟩=>hc pins s1 σ H1 vs us Q I1 r1 q1) he hpl
theorem zf2 (hc:z43 X (.type T) r)(hg:Gl X x)(hm:X.mg x=none)(hv:bootBuiltins x=some (.type T))(ha:PA X (e::es) t)(hn:x ≠ "__name__":=by decide)(hdb:(x==("__debug__":Str))=false:=by decide)
  (he:starEach (e::es) X.env=(false,eval e X.env)::starEach es X.env:=by rfl) (hpl:(backTo pos (starEach es X.env)).any (·.1)=false:=by rfl):PE X (.Call (.Name x p) (e::es) [] pos) (tCB r t):=by
 intro pins s σ H Q I h
 refine wpAny_Call_Name_kw (z6m I hg hm hv ?_ hn hdb)
 exact y20 (thn (ha pos pins s σ H _ I h) fun us s1 ⟨vs,H1,I1,r1,q1⟩=>hc pins s1 σ H1 vs us Q I1 r1 q1) he hpl
end
end L2
namespace HT
open PySem PyProof.Rows
section
open PySem.SeqAt
open PySem.AutoSeq1 (wpAny_loadPart')
open PySem.MeetsSeq PySem.MeetsSeq2 PySem.MeetsSeq3
end
section
variable {prog:Program}{w:World}{A:Around}{E:Value→Shared→Prop}{s:Shared}
def sIx (n d:Nat):Option Int→Nat
 | none=>d
 | some v=>if v<0 then (v+(n:Int)).toNat else min v.toNat n
theorem sIx_none (n d:Nat):sIx n d none=d:=rfl
theorem sIx_nat (n d k:Nat):sIx n d (some (k:Int))=min k n:=by
 show(if (k:Int)<0 then ((k:Int)+(n:Int)).toNat else min (k:Int).toNat n)=min k n
 rw [if_neg (by omega),y41]
end
end HT
namespace L2
open PySem PySem.Spec PyProof.Rows
abbrev TO:=St→Hp→(Option Int→Hp→Prop)→Prop
def PO (X:Cx)(e:Option Expr)(t:TO):Prop :=
 ∀(pins:List (Addr×Obj)) (s:Shared) (σ:St) (H:Hp) (Q:Option Int→Hp→Prop),Inv X pins σ H s→t σ H Q →
  wpAny (model X.prog X.w) X.A (evalPart e X.env) (fun u s'=>∃o H',Inv X pins σ H' s'∧IsPart u o∧Q o H') X.xe s
def zb9:TO:=fun _ H Q=>Q none H
def zok (t:TE):TO:=fun σ H Q=>t σ H fun x H1=>∃i,x = .int i∧Q (some i) H1
section
variable {X:Cx}{e:Expr}{te:TE}{lo hi:Option Expr}{tl th:TO}{pos p2:Pos}
theorem z64:PO X none zb9:=by
 intro pins s σ H Q I h
 rw [evalPart_none]
 exact wpAny_pure ⟨none,H,I,.none,h⟩
theorem zlu (h:PE X e te):PO X (some e) (zok te):=by
 intro pins s σ H Q I hw
 rw [evalPart_some]
 refine thn (h pins s σ H _ I hw) fun u s1 ⟨x,H1,I1,r1,q1⟩=>?_
 obtain⟨i,rfl,q⟩:=q1
 obtain⟨t,rfl⟩:=r1
 exact⟨some i,H1,I1,.int i t,q⟩
def SlR (X:Cx)(r:V→Option Int→Option Int→Hp→VK→Prop):Prop :=
 ∀(pins:List (Addr×Obj)) (s:Shared) (σ:St) (H:Hp) (x:V) (v vl vu:Value) (lo hi:Option Int) (sl:Addr) (Q:VK),Inv X pins σ H s→RelV x v→s.heap.IsSliceOf sl vl vu .none→IsPart vl lo→IsPart vu hi→r x lo hi H Q →
  ∃T id,typeLookup (.type T) "__getitem__"=pure (some (.builtin id))∧s.TypeIs v T∧wpAny (model X.prog X.w) X.A (getItem v (.ref sl)) (EP X pins σ Q) X.xe s
def tSl (r:V→Option Int→Option Int→Hp→VK→Prop)(te:TE)(tl th:TO):TE:=fun σ H Q=>te σ H fun x H1=>tl σ H1 fun l H2=>th σ H2 fun u H3=>r x l u H3 Q
theorem zj9 {r:V→Option Int→Option Int→Hp→VK→Prop}(hr:SlR X r)(he:PE X e te)(hl:PO X lo tl)(hu:PO X hi th):PE X (.Subscript e (.Slice lo hi none p2) pos) (tSl r te tl th):=by
 intro pins s σ H Q I h
 refine Subscript_ (thn (he pins s σ H _ I h) fun v s1 ⟨x,H1,I1,r1,q1⟩=>?_)
 refine wpAny_Slice (thn (hl pins s1 σ H1 _ I1 q1) fun vl s2 ⟨l,H2,I2,pl,q2⟩=>thn (hu pins s2 σ H2 _ I2 q2) fun vu s3 ⟨u,H3,I3,pu,q3⟩=>?_)
 rw [evalPart_none]
 refine wpAny_pure ?_
 have I4:Inv X pins σ H3 { s3 with heap:=s3.heap.push { cls:=.type "slice",data:=.fields #[vl,vu,.none] } }:=I3.kept (t':=s3.toks) fun b ob q=>Heap.get?_push_of_some _ q
 obtain⟨T,id,hT,ht,hg⟩:=hr pins { s3 with heap:=s3.heap.push { cls:=.type "slice",data:=.fields #[vl,vu,.none] } } σ H3 x v vl vu l u s3.heap.objs.size Q I4 r1 (Heap.IsSliceOf.new ..) pl pu q3
 show wpAny (model X.prog X.w) X.A (subscriptTail e (.Slice lo hi none p2) v (.ref s3.heap.objs.size)) (EP X pins σ Q) X.xe { s3 with heap:=s3.heap.push { cls:=.type "slice",data:=.fields #[vl,vu,.none] } }
 exact tail_any (ops:=[.ref s3.heap.objs.size,v]) ht hT hg (by with_unfolding_all rfl)
def zel (xs:List V)(lo hi:Option Int):List V:=(xs.drop (HT.sIx xs.length 0 lo)).take (HT.sIx xs.length xs.length hi - HT.sIx xs.length 0 lo)
theorem zc3 (xs:List V)(lo hi:Option Int):(zel xs lo hi).length≤xs.length:=by
 unfold zel
 rw [y0r,y46]
 omega
end
end L2
namespace L2
open PySem PySem.Spec PyProof.Rows
def ixN (n:Nat)(i:Int):Option Nat:=if 0≤i then (if i<n then some i.toNat else none) else if -(n:Int)≤i then some (i+n).toNat else none
def atI {α:Type}(xs:List α)(i:Int):Option α:=(ixN xs.length i).bind fun j=>xs[j]?
theorem zex {n:Nat}{i:Int}{j:Nat}(h:ixN n i=some j):seqIndex? i n=some j∧j<n∧-(n:Int)≤i∧i<n:=by
 unfold ixN at h
 by_cases h0:0≤i
 ·rw [if_pos h0] at h
  by_cases h1:i<n
  ·rw [if_pos h1] at h
   have e:i.toNat=j:=y14 h
   exact⟨by rw [seqIndex_of h0 h1,e],by omega,by omega,h1⟩
  ·rw [if_neg h1] at h; cases h
 ·rw [if_neg h0] at h
  by_cases h1:-(n:Int)≤i
  ·rw [if_pos h1] at h
   have e:(i+n).toNat=j:=y14 h
   exact⟨by rw [seqIndex_neg (by omega) h1,e],by omega,h1,by omega⟩
  ·rw [if_neg h1] at h; cases h
theorem zfj {α:Type}{xs:List α}{i:Int}{v:α}(h:atI xs i=some v):∃j,seqIndex? i xs.length=some j∧xs[j]?=some v∧j<xs.length∧-(xs.length:Int)≤i∧i<xs.length:=by
 unfold atI at h
 cases e:ixN xs.length i with
 | none=>rw [e] at h; cases h
 | some j =>
  rw [e] at h
  obtain⟨h1,h2,h3,h4⟩:=zex e
  exact⟨j,h1,h,h2,h3,h4⟩
theorem z1v {α:Type}{xs:List α}{j:Nat}{v:α}(h:xs[j]?=some v):atI xs (j:Int)=some v:=by
 have hj:j<xs.length:=(y00.mp h).1
 have e:ixN xs.length (j:Int)=some j:=by
  unfold ixN
  rw [if_pos (by omega),if_pos (by omega)]; simp
 unfold atI; rw [e]; exact h
def zkd (b:Expr):Prop:=∀o i,subscripted b false o i=operate [o,i] (getItem o i)
def IxR (X:Cx)(r:R2):Prop :=
 ∀(value slice:Expr) (pins:List (Addr×Obj)) (s:Shared) (σ:St) (H:Hp) (x y:V) (v u:Value) (Q:VK),Inv X pins σ H s→RelV x v→RelV y u→r x y H Q →
  subscripted slice false v u=operate [v,u] (getItem v u)→wpAny (model X.prog X.w) X.A (subscriptTail value slice v u) (EP X pins σ Q) X.xe s
def MtR (X:Cx)(id:String)(r:V→List V→Hp→VK→Prop):Prop :=
 ∀(pins:List (Addr×Obj)) (s:Shared) (σ:St) (H:Hp) (x:V) (xs:List V) (v:Value) (us:List Value) (Q:VK),Inv X pins σ H s→RelV x v→Vals xs us→r x xs H Q →
  wpAny (model X.prog X.w) X.A (call (.builtin id) (v::us)) (EP X pins σ Q) X.xe s
section
variable {X:Cx}{a b:Expr}{ta tb:TE}{pos:Pos}
theorem z0h {r:R2}(hr:IxR X r)(ha:PE X a ta)(hb:PE X b tb)(hs:zkd b):PE X (.Subscript a b pos) (tOp r ta tb):=by
 intro pins s σ H Q I h
 exact Subscript_ (zoj ha hb I h fun v u s2 x y H2 I2 rx ry q=>hr a b pins s2 σ H2 x y v u Q I2 rx ry q (hs _ _))
def zq7 (K:y02):R2:=fun x y H Q=>∃p xs i v,x = .ref p∧y = .int i∧SqL K H p xs∧atI xs i=some v∧Q v H
def zq8 (K:y02):R2:=fun x y H Q=>∃p xs i v,x = .ref p∧y = .int i∧SqT K H p xs∧atI xs i=some v∧Q v H
theorem zli:IxR X (zq7 X.K):=by
 intro value slice pins s σ H x y v u Q I rx ry h hs
 obtain⟨p,xs,i,z,rfl,rfl,hq,he,q⟩:=h
 cases rx
 obtain⟨t,rfl⟩:=ry
 obtain⟨its,r,pl,hz⟩:=I.list hq
 obtain⟨j,h1,h2,h3,h4,h5⟩:=zfj he
 obtain⟨w,ew,rw'⟩:=r.get h2
 have hl:=r.length
 have hn:=zad
 have fin:EP X pins σ Q w s:=⟨z,H,I,rw',q⟩
 by_cases h0:0≤i
 ·have hj:i.toNat=j:=by
   rw [seqIndex_of h0 h5] at h1
   exact y14 h1
  exact item_listR pl.isList h0 (by omega) (by rw [hj]; simpa using ew) fin hs
 ·have hj:(i+(its.toArray.size:Int)).toNat=j:=by
   rw [seqIndex_neg (by omega) h4] at h1
   rw [y0q,←hl]
   exact y14 h1
  exact subscriptTail_builtinR (x:=w) pl.isList.typeIs slot_list_getitem.lookup
   (wpAny_getItem_list_neg (Q:=fun r s'=>r=w∧EP X pins σ Q r s') pl.isList (by omega) (by rw [y0q]<;>omega) (by omega) (by rw [hj]; simpa using ew) ⟨rfl,fin⟩) hs
theorem zmj:IxR X (zq8 X.K):=by
 intro value slice pins s σ H x y v u Q I rx ry h hs
 obtain⟨p,xs,i,z,rfl,rfl,hq,he,q⟩:=h
 cases rx
 obtain⟨t,rfl⟩:=ry
 obtain⟨its,r,pl,hz⟩:=I.tuple hq
 obtain⟨j,h1,h2,h3,h4,h5⟩:=zfj he
 obtain⟨w,ew,rw'⟩:=r.get h2
 have hl:=r.length
 have hn:=zad
 have fin:EP X pins σ Q w s:=⟨z,H,I,rw',q⟩
 exact subscriptTail_builtinR (x:=w) pl.typeIs slot_tuple_getitem.lookup
  (getItem_tuple (j:=j) (Q:=fun r s'=>r=w∧EP X pins σ Q r s') pl (by omega) (by omega) (by rw [y0q,←hl]; exact h1) (by simpa using ew) ⟨rfl,fin⟩) hs
theorem zef (its:List Value)(n j:Nat)(u:Value):Obj.mapSeq (·.setIfInBounds j u) { cls:=.type "list",data:=.seq its.toArray n } = { cls:=.type "list",data:=.seq (its.set j u).toArray n }:=by
 simp [Obj.mapSeq]
theorem Inv.lst {pins:List (Addr×Obj)}{σ:St}{H:Hp}{s:Shared}{p:Addr}{xs:List V}(I:Inv X pins σ H s)(h:H p=some (.lst xs)) :
  ∃(its:List Value) (n:Nat),Vals xs its∧s.heap.get? p=some { cls:=.type "list",data:=.seq its.toArray n }∧xs.length≤sizeLine:=by
 obtain⟨z,its,n,r,e⟩:=I.hok p _ h
 exact⟨its,n,r,e,z⟩
theorem Inv.lstUpd {pins:List (Addr×Obj)}{σ:St}{H:Hp}{s:Shared}{p:Addr}{xs ys:List V}{its its':List Value}{n n':Nat}{f:Obj→Obj}(I:Inv X pins σ H s)(h:H p=some (.lst xs))
  (ho:s.heap.get? p=some { cls:=.type "list",data:=.seq its.toArray n }) (hf:f { cls:=.type "list",data:=.seq its.toArray n } = { cls:=.type "list",data:=.seq its'.toArray n' }) (r:Vals ys its') (hz:ys.length≤sizeLine) (t:Nat) :
  Inv X pins σ (upd H p (.lst ys)) { s with heap:=s.heap.update p f,toks:=t }:=by
 have e:(s.heap.update p f).get? p=some { cls:=.type "list",data:=.seq its'.toArray n' }:=by
  rw [Heap.get?_update_self f ho (by rw [hf]<;>rfl),hf]
 refine I.write (x:=p) (e:=p) (by rw [h]; trivial) (.inl rfl) (fun b u hb q=>(Heap.get?_update_other _ _ (Ne.symm hb)).trans q) ⟨_,e⟩ ?_
 exact⟨hz,its',n',r,e⟩
def zoc:V→V→V→Hp→(Hp→Prop)→Prop:=fun o i v H Q=>∃p xs k j,o = .ref p∧i = .int k∧H p=some (.lst xs)∧ixN xs.length k=some j∧Q (upd H p (.lst (xs.set j v)))
theorem zj2:zo1 X zoc:=by
 intro pins s σ H o i v ov iv u Q I ro ri rv h
 obtain⟨p,xs,k,j,rfl,rfl,hp,hj,q⟩:=h
 cases ro
 obtain⟨t,rfl⟩:=ri
 obtain⟨its,n,r,ho,hz⟩:=I.lst hp
 obtain⟨h1,h2,h3,h4⟩:=zex hj
 have hl:=r.length
 have hn:=zad
 have I':Inv X pins σ (upd H p (.lst (xs.set j v))) { s with heap:=s.heap.update p (Obj.mapSeq (·.setIfInBounds j u)) } :=
  I.lstUpd hp ho (zef its n j u) (r.set rv j) (by rw [y32]; exact hz) s.toks
 by_cases h0:0≤k
 ·have hk:k.toNat=j:=by
   rw [seqIndex_of h0 h4] at h1
   exact y14 h1
  exact PySem.W.ki_setAt ho h0 (by omega) (by rw [y0q,←hl]; exact h4) (by rw [hk]; exact⟨_,I',q⟩)
 ·have hk:(k+(its.toArray.size:Int)).toNat=j:=by
   rw [seqIndex_neg (by omega) h3] at h1
   rw [y0q,←hl]
   exact y14 h1
  exact PySem.W.ki_setBack ho (by omega) (by rw [y0q,←hl]; exact h3) (by omega) (by rw [hk]; exact⟨_,I',q⟩)
theorem zar (lo hi:Option Int)(n:Nat):(sliceBounds lo hi none n).1=((HT.sIx n 0 lo:Nat):Int)∧(sliceBounds lo hi none n).2.1=((HT.sIx n n hi:Nat):Int)∧(sliceBounds lo hi none n).2.2=1:=by
 refine⟨?_,?_,rfl⟩
 ·cases lo with
  | none=>simp [sliceBounds,HT.sIx]
  | some i =>
   simp only [sliceBounds,HT.sIx,y6m,show(1:Int)>0 by decide,if_true]
   by_cases h:i<0
   ·simp only [h,if_true]<;>omega
   ·simp only [h,if_false]<;>omega
 ·cases hi with
  | none=>simp [sliceBounds,HT.sIx]
  | some i =>
   simp only [sliceBounds,HT.sIx,y6m,show(1:Int)>0 by decide,if_true]
   by_cases h:i<0
   ·simp only [h,if_true]<;>omega
   ·simp only [h,if_false]<;>omega
theorem z9g (its:List Value)(lo hi:Option Int):slicePick its.toArray lo hi none=((its.drop (HT.sIx its.length 0 lo)).take (HT.sIx its.length its.length hi - HT.sIx its.length 0 lo)).toArray:=by
 obtain⟨h1,h2,h3⟩:=zar lo hi its.toArray.size
 unfold slicePick
 rw [h1,h2,h3]
 simp only [sliceRange_one,pick_run,y0q]<;>rfl
def zqd (K:y02):V→Option Int→Option Int→Hp→VK→Prop:=fun x lo hi H Q=>∃a xs,x = .ref a∧SqL K H a xs∧∀p,H p=none→Q (.ref p) (upd H p (.lst (zel xs lo hi)))
theorem zkx:SlR X (zqd X.K):=by
 intro pins s σ H x v vl vu lo hi sl Q I rx hs pl pu h
 obtain⟨a,xs,rfl,hx,q⟩:=h
 cases rx
 obtain⟨its,r,ht,hz⟩:=I.list hx
 have hlen:=r.length
 refine⟨"list",_,slot_list_getitem.lookup,ht.isList.typeIs,?_⟩
 refine wpAny_getItem_list_slice ht.isList hs pl pu .none (by simp) ?_ (by rw [y0q]<;>omega)
 rw [z9g,←hlen]
 refine⟨.ref s.heap.objs.size,_,I.laid (t':=s.toks) (o:=.lst (zel xs lo hi)) (fun b ob q=>Heap.get?_push_of_some _ q) (y07 _) ?_,rfl,q _ (I.hok.fresh (y07 _))⟩
 exact⟨y19 (zc3 xs lo hi) hz,_,0,(r.drop (HT.sIx xs.length 0 lo)).take (HT.sIx xs.length xs.length hi - HT.sIx xs.length 0 lo),Heap.get?_push_size _ rfl⟩
theorem zax:z43 X (.builtin "len") (fun xs H Q=>∃p ys,xs = [.ref p]∧(SqL X.K H p ys∨SqT X.K H p ys)∧Q (.int ys.length) H):=by
 intro pins s σ H xs us Q I r h
 obtain⟨p,ys,rfl,hq,q⟩:=h
 obtain⟨u,rfl,rx⟩:=z7r r
 cases rx
 have hn:=zad
 rcases hq with hq | hq
 ·obtain⟨its,r',pl,hz⟩:=I.list hq
  have hlen:=r'.length
  exact Calls.call_len_list pl.isList (by simp only [y0q]<;>omega) ⟨.int ys.length,H,I.tok _,⟨s.toks+1,by rw [y0q,hlen]⟩,q⟩
 ·obtain⟨its,r',pl,hz⟩:=I.tuple hq
  have hlen:=r'.length
  exact len_tuple pl (by simp only [y0q]<;>omega) ⟨.int ys.length,H,I.tok _,⟨s.toks+1,by rw [y0q,hlen]⟩,q⟩
theorem zb3:z43 X (.type "list") (fun xs H Q=>∃p ys,xs = [.ref p]∧(SqL X.K H p ys∨SqT X.K H p ys)∧∀l,H l=none→Q (.ref l) (upd H l (.lst ys))):=by
 intro pins s σ H xs us Q I r h
 obtain⟨p,ys,rfl,hq,q⟩:=h
 obtain⟨u,rfl,rx⟩:=z7r r
 cases rx
 have fin:∀(its:List Value),Vals ys its→ys.length≤sizeLine→∀(h':Heap) (c':Nat),(∀b o',s.heap.get? b=some o'→h'.get? b=some o') →
   h'.get? s.heap.objs.size=some { cls:=.type "list",dict:=none,data:=.seq its.toArray c',slots:=#[] }→EP X pins σ Q (.ref s.heap.objs.size) { s with heap:=h' }:=fun its r' hz h' c' kp e =>
  ⟨.ref s.heap.objs.size,_,I.laid (t':=s.toks) kp (y07 _) (show ObjOk X.prog X.w _ h' _ (.lst ys) from ⟨hz,its,c',r',e⟩),rfl,q _ (I.hok.fresh (y07 _))⟩
 rcases hq with hq | hq
 ·obtain⟨its,r',pl,hz⟩:=I.list hq
  have hlen:=r'.length
  obtain⟨o,ho,hc,n,hd⟩:=pl.isList
  exact call_list_seq p (.inl rfl) ho hc hd (fun h' c' kp e=>fin its r' hz h' c' kp e) (by simp only [y0q]<;>omega)
 ·obtain⟨its,r',pl,hz⟩:=I.tuple hq
  have hlen:=r'.length
  obtain⟨o,ho,hc,n,hd⟩:=pl
  exact call_list_seq p (.inr rfl) ho hc hd (fun h' c' kp e=>fin its r' hz h' c' kp e) (by simp only [y0q]<;>omega)
def tyV (K:y02)(T:String)(x:V)(H:Hp):Prop:=match x with
 | .str _=>T = "str"
 | .int _=>T = "int"
 | .ref p=>(T = "list"∧∃xs,SqL K H p xs)∨(T = "tuple"∧∃o,K.lookup p=some o∧o.cls = .type "tuple"∧o.dict=none) ∨
   (T = "dict"∧((∃kvs,H p=some (.dK kvs))∨∃kvs,H p=some (.dT kvs)))∨(T = "set"∧∃S n,H p=some (.set S n))
 | _=>False
theorem zje {pins:List (Addr×Obj)}{σ:St}{H:Hp}{s:Shared}{T:String}{x:V}{v:Value}(I:Inv X pins σ H s)(r:RelV x v)(ty:tyV X.K T x H) :
  s.TypeIs v T∧∀a,v = .ref a→∃ob,s.heap.get? a=some ob∧ob.dict=none:=by
 cases x with
 | str z =>
  obtain⟨t,rfl⟩:=r
  cases (show T = "str" from ty)
  exact⟨typeIs_str s z t,fun _ e=>nomatch e⟩
 | int i =>
  obtain⟨t,rfl⟩:=r
  cases (show T = "int" from ty)
  exact⟨typeIs_int s i t,fun _ e=>nomatch e⟩
 | ref p =>
  cases r
  rcases ty with ⟨rfl,xs,hq⟩ | ⟨rfl,o,hk,hc,hd⟩ | ⟨rfl,hk⟩ | ⟨rfl,S,n,hk⟩
  ·obtain⟨its,_,pl,_⟩:=I.list hq
   refine⟨pl.isList.typeIs,fun a e=>?_⟩
   cases e
   obtain⟨o,n,e,c,hd,_⟩:=pl
   exact⟨o,e,hd⟩
  ·refine⟨⟨o,I.kIn p o hk,hc⟩,fun a e=>?_⟩
   cases e
   exact⟨o,I.kIn _ o hk,hd⟩
  ·have z:∃o,s.heap.get? p=some o∧o.ExactDict:=by
    rcases hk with ⟨kvs,hk⟩ | ⟨kvs,hk⟩
    ·obtain⟨_,_,_,_,o,_,_,e,ex,_⟩:=I.hok p _ hk
     exact⟨o,e,ex⟩
    ·obtain⟨_,_,_,_,o,_,_,e,ex,_⟩:=I.hok p _ hk
     exact⟨o,e,ex⟩
   obtain⟨o,e,ex⟩:=z
   refine⟨⟨o,e,ex.1⟩,fun a e2=>?_⟩
   cases e2
   exact⟨o,e,ex.2.1⟩
  ·obtain⟨o,_,_,_,e,ex,_⟩:=I.hok p _ hk
   refine⟨⟨o,e,ex.1⟩,fun a e2=>?_⟩
   cases e2
   exact⟨o,e,ex.2.1⟩
 | _=>exact False.elim ty
def zq6 (K:y02)(T:String)(r:V→List V→Hp→VK→Prop)(to:TE):TE:=fun σ H Q=>to σ H fun x H1=>tyV K T x H1∧r x [] H1 Q
def tBM (K:y02)(T:String)(r:V→List V→Hp→VK→Prop)(to:TE)(t:TA):TE:=fun σ H Q=>to σ H fun x H1=>tyV K T x H1∧t σ H1 fun xs H2=>r x xs H2 Q
variable {o e:Expr}{es:List Expr}{to:TE}{t:TA}{name:Str}{apos cpos:Pos}{T id:String}{r:V→List V→Hp→VK→Prop}
theorem zmg (pa:PlainAttrs T)(slot:Slot T name id)(hty:typeOf (.builtin id)=pure (.type "method_descriptor"))(hm:MtR X id r)(ho:PE X o to)
  (hbase:attributeBase o name X.env (eval o X.env)=eval o X.env:=by rfl) (hline:(apos.endLine==cpos.line)=true:=by rfl):PE X (.Call (.Attribute o name apos) [] [] cpos) (zq6 X.K T r to):=by
 intro pins s σ H Q I h
 refine wpAny_Call_method0_late hbase hline (thn (ho pins s σ H _ I h) fun v s1 ⟨x,H1,I1,r1,ty,q1⟩=>?_)
 obtain⟨h1,h2⟩:=zje I1 r1 ty
 exact⟨T,id,pa,slot,hty,h1,h2,Calls.callWith_builtin rfl (PySem.evalArgs_none (hm pins s1 σ H1 x [] v [] Q I1 r1 .nil q1))⟩
theorem zmy (pa:PlainAttrs T)(slot:Slot T name id)(hty:typeOf (.builtin id)=pure (.type "method_descriptor"))(hm:MtR X id r)(ho:PE X o to)(ha:PA X (e::es) t)
  (hbase:attributeBase o name X.env (eval o X.env)=eval o X.env:=by rfl)
  (hfew:((backTo cpos (starEach (e::es) X.env)).all (fun x=>!x.1)&&(backToKw cpos (keywordEach [] X.env)).all (fun x=>x.1.isSome)
  &&decide ((e::es).length+([]:List Keyword).length+(if ([]:List Keyword).isEmpty then 0 else 1)<30))=true:=by rfl)
  (hline:(apos.endLine==cpos.line)=true:=by rfl) (hs:starEach (e::es) X.env=(false,eval e X.env)::starEach es X.env:=by rfl) (hplain:(backTo cpos (starEach es X.env)).any (·.1)=false:=by rfl) :
  PE X (.Call (.Attribute o name apos) (e::es) [] cpos) (tBM X.K T r to t):=by
 intro pins s σ H Q I h
 refine wpAny_Call_method_late hbase hfew hline rfl (thn (ho pins s σ H _ I h) fun v s1 ⟨x,H1,I1,r1,ty,q1⟩=>?_)
 obtain⟨h1,h2⟩:=zje I1 r1 ty
 refine⟨T,id,pa,slot,hty,h1,h2,?_⟩
 have hA:=ha cpos pins s1 σ H1 _ I1 q1
 rw [hs] at hA ⊢
 refine Calls.callWith_builtin (by show(false||(backTo cpos (starEach es X.env)).any (·.1))=false; rw [hplain]<;>rfl) (Calls.evalArgs_plain ?_)
 exact thn hA fun us s2 ⟨vs,H2,I2,r2,q2⟩=>hm pins s2 σ H2 x vs v us Q I2 r1 r2 q2
end
end L2
namespace L2
open PySem PySem.Spec PyProof.Rows
def MtM (X:Cx)(id:String)(r:V→List V→Hp→VK→Prop):Prop :=
 ∀(pins:List (Addr×Obj)) (s:Shared) (σ:St) (H:Hp) (x:V) (xs:List V) (v:Value) (us:List Value) (Q:VK),Inv X pins σ H s→RelV x v→Vals xs us→r x xs H Q →
  wpAny (model X.prog X.w) X.A (call (.builtin id) (v::us)) (EP X pins σ Q) X.xe s
theorem Vals.one:∀{x:V} {us:List Value},Vals [x] us→∃u,us = [u]∧RelV x u
 | _,_,.cons r .nil=>⟨_,rfl,r⟩
theorem Vals.two:∀{x y:V} {us:List Value},Vals [x,y] us→∃u v,us = [u,v]∧RelV x u∧RelV y v
 | _,_,_,.cons r (.cons q .nil)=>⟨_,_,rfl,r,q⟩
theorem Vals.zero:∀{us:List Value},Vals [] us→us = []
 | _,.nil=>rfl
theorem Vals.dropLast {xs:List V}{us:List Value}(h:Vals xs us):Vals xs.dropLast us.dropLast:=by
 induction h with
 | nil=>exact .nil
 | cons r t ih =>
  cases t with
  | nil=>exact .nil
  | cons q t'=>exact .cons r ih
theorem Vals.rep {xs:List V}{us:List Value}(h:Vals xs us):∀k:Nat,Vals (y06 k xs).flatten (y06 k us).flatten
 | 0=>.nil
 | k+1=>by
  rw [y1s,y1s,y3i,y3i]
  exact Vals.append h (Vals.rep h k)
theorem zdt {α:Type}(l:List α):l.eraseIdx (l.length - 1)=l.dropLast:=by
 induction l with
 | nil=>rfl
 | cons a r ih =>
  cases r with
  | nil=>rfl
  | cons b r =>
   have e:(a::b::r).length - 1=((b::r).length - 1)+1:=by
    have h1:(a::b::r).length=r.length+2:=rfl
    have h2:(b::r).length=r.length+1:=rfl
    omega
   rw [e,List.eraseIdx_cons_succ,ih]
   all_goals rfl
theorem z9o (its:List Value):∀(k:Nat) (acc:List Value),
  y74 (fun x1 x2=>x1++x2) acc.toArray (y06 k its.toArray)=(acc++(y06 k its).flatten).toArray
 | 0,acc=>by simp
 | k+1,acc=>by
  have e:acc.toArray++its.toArray=(acc++its).toArray:=by simp
  have e2:(acc++its)++(y06 k its).flatten=acc++(y06 (k+1) its).flatten:=by
   rw [y1s,y3i,y33]
  rw [←e2,←z9o its k (acc++its),←e,y1s,List.foldl_cons]
section
variable {X:Cx}{pins:List (Addr×Obj)}{σ:St}{H:Hp}{s:Shared}{l b:Addr}{xs ys zs:List V}
theorem Inv.lset {its its':List Value}{n:Nat}{f:Array Value→Array Value}{t':Nat}(I:Inv X pins σ H s)(hH:H l=some (.lst xs))
  (e:s.heap.get? l=some { cls:=.type "list",data:=.seq its.toArray n }) (hf:f its.toArray=its'.toArray) (hv:Vals ys its') (hz:ys.length≤sizeLine) :
  Inv X pins σ (upd H l (.lst ys)) { s with heap:=s.heap.update l (Obj.mapSeq f),toks:=t' }:=by
 have q:=PySem.IsL.update e f
 rw [hf] at q
 refine I.write (x:=l) (e:=l) (by rw [hH]; exact trivial) (.inl rfl) (fun b' u hb hu=>(Heap.get?_update_other s.heap (Obj.mapSeq f) (Ne.symm hb)).trans hu) ⟨_,q⟩ ?_
 exact⟨hz,its',_,hv,q⟩
theorem Inv.lnew {its:List Value}{t':Nat}(I:Inv X pins σ H s)(hv:Vals ys its)(hz:ys.length≤sizeLine) :
  Inv X pins σ (upd H s.heap.objs.size (.lst ys)) { s with heap:=s.heap.push { cls:=.type "list",data:=.seq its.toArray },toks:=t' } :=
 I.laid (fun _ _ q=>Heap.get?_push_of_some _ q) (y07 _) ⟨hz,its,0,hv,Heap.get?_push_size _ rfl⟩
theorem Inv.fresh (I:Inv X pins σ H s):H s.heap.objs.size=none:=I.hok.fresh (y07 _)
theorem Inv.lstM (I:Inv X pins σ H s)(hH:H l=some (.lst xs)):xs.length≤sizeLine∧∃(its:List Value) (n:Nat),Vals xs its∧xs.length=its.length∧s.heap.get? l=some { cls:=.type "list",data:=.seq its.toArray n }:=by
 obtain⟨z,its,n,r,e⟩:=I.hok l _ hH
 exact⟨z,its,n,r,r.length,e⟩
theorem zdj {n:Nat}(h:n≤sizeLine):Builtin.List.listTooLong n=false:=by
 unfold Builtin.List.listTooLong
 exact decide_eq_false (by omega)
end
section
variable {X:Cx}
def zl6:V→List V→Hp→VK→Prop:=fun x vs H Q=>∃l xs y,x = .ref l∧vs = [y]∧H l=some (.lst xs)∧xs.length<sizeLine∧Q .non (upd H l (.lst (xs ++ [y])))
theorem zfu:MtM X "list.append" zl6:=by
 intro pins s σ H x vs v us Q I rx rv h
 obtain⟨l,xs,y,rfl,rfl,hH,hz,q⟩:=h
 cases rx
 obtain⟨u,rfl,ru⟩:=rv.one
 obtain⟨z,its,n,r,hl,e⟩:=I.lstM hH
 refine call_meets F.slot_list_append ⟨_,e,rfl⟩ F.entry_list_append (F.args_list_append_2 _ _) (PySem.list_append l its.toArray n u (by rw [y0q]; omega)) ⟨e,?_⟩
 refine⟨.non,_,I.lset (its':=its ++ [u]) hH e (by simp) (r.append (.cons ru .nil)) ?_,rfl,q⟩
 rw [y09,y43]
 omega
def zlx:V→List V→Hp→VK→Prop:=fun x vs H Q=>∃l b xs zs,x = .ref l∧vs = [.ref b]∧H l=some (.lst xs)∧H b=some (.lst zs)∧xs.length+zs.length≤sizeLine∧Q .non (upd H l (.lst (xs++zs)))
theorem zgj:MtM X "list.extend" zlx:=by
 intro pins s σ H x vs v us Q I rx rv h
 obtain⟨l,b,xs,zs,rfl,rfl,hH,hB,hz,q⟩:=h
 cases rx
 obtain⟨u,rfl,ru⟩:=rv.one
 cases ru
 obtain⟨z,its,n,r,hl,e⟩:=I.lstM hH
 obtain⟨z2,its2,n2,r2,hl2,e2⟩:=I.lstM hB
 have hsz:its.toArray.size+its2.toArray.size≤sizeLine:=by rw [y0q,y0q]; omega
 have hlong:¬(!its.toArray.isEmpty&&Builtin.List.listTooLong (its.toArray.size+its2.toArray.size))=true:=by
  rw [zdj hsz,Bool.and_false]
  exact y10
 refine call_meets F.slot_list_extend ⟨_,e,rfl⟩ F.entry_list_extend (F.args_list_extend_2 _ _)
  (AutoSeq1.list_extend_list_list_0 l its.toArray n b its2.toArray n2 hlong (by rw [y0q]; omega) (by omega)) ⟨e,e2,?_⟩
 refine⟨.non,_,I.lset (its':=its++its2) hH e (by simp) (r.append r2) ?_,rfl,q⟩
 rw [y09]
 omega
def zqg:V→List V→Hp→VK→Prop:=fun x vs H Q=>∃l xs y,x = .ref l∧vs = []∧H l=some (.lst xs)∧xs[xs.length - 1]?=some y∧Q y (upd H l (.lst xs.dropLast))
theorem zmb:MtM X "list.pop" zqg:=by
 intro pins s σ H x vs v us Q I rx rv h
 obtain⟨l,xs,y,rfl,rfl,hH,hy,q⟩:=h
 cases rx
 have hus:=rv.zero
 subst hus
 obtain⟨z,its,n,r,hl,e⟩:=I.lstM hH
 obtain⟨u,hu,ru⟩:=r.get hy
 have hy':its.toArray[its.toArray.size - 1]?=some u:=by
  show its.toArray[its.length - 1]?=some u
  rw [←y44,←hl]
  exact hu
 refine call_meets F.slot_list_pop ⟨_,e,rfl⟩ F.entry_list_pop (F.args_list_pop_1 _) (MeetsSeq.list_pop_last l its.toArray n u hy' (by rw [y0q]; omega)) ⟨e,?_⟩
 refine⟨y,_,I.lset (its':=its.dropLast) hH e ?_ r.dropLast ?_,ru,q⟩
 ·show its.toArray.eraseIdxIfInBounds (its.toArray.size - 1)=its.dropLast.toArray
  rw [y0q,List.eraseIdxIfInBounds_toArray,zdt]
 ·rw [y5v]
  omega
def zqa:R2:=fun x y H Q=>∃l b xs zs,x = .ref l∧y = .ref b∧H l=some (.lst xs)∧H b=some (.lst zs)∧xs.length+zs.length≤sizeLine∧∀p,H p=none→Q (.ref p) (upd H p (.lst (xs++zs)))
theorem zmh:OpR X (binaryOp .Add) zqa:=by
 intro pins s σ H x y v u Q I rx ry h
 obtain⟨l,b,xs,zs,rfl,rfl,hH,hB,hz,q⟩:=h
 cases rx
 cases ry
 obtain⟨z,its,n,r,hl,e⟩:=I.lstM hH
 obtain⟨z2,its2,n2,r2,hl2,e2⟩:=I.lstM hB
 refine PySem.P.add_list e e2 ?_ (by rw [y0q,y0q]; omega)
 have ea:its.toArray++its2.toArray=(its++its2).toArray:=by simp
 rw [ea]
 exact⟨.ref _,_,I.lnew (t':=s.toks) (r.append r2) (by rw [y09]; omega),rfl,q _ I.fresh⟩
def zq3:R2:=fun x y H Q=>∃l k xs,x = .ref l∧y = .int k∧H l=some (.lst xs)∧-(2^63)≤k∧k<2^63∧xs.length*k.toNat≤sizeLine ∧
 ∀p,H p=none→Q (.ref p) (upd H p (.lst (y06 k.toNat xs).flatten))
theorem zkl {α:Type}(xs:List α)(k:Nat):(y06 k xs).flatten.length=k*xs.length:=by
 induction k with
 | zero=>simp
 | succ k ih=>rw [y1s,y3i,y09,ih,Nat.succ_mul,Nat.add_comm]
theorem zm5:OpR X (binaryOp .Mult) zq3:=by
 intro pins s σ H x y v u Q I rx ry h
 obtain⟨l,k,xs,rfl,rfl,hH,h1,h2,hz,q⟩:=h
 cases rx
 obtain⟨t,rfl⟩:=ry
 obtain⟨z,its,n,r,hl,e⟩:=I.lstM hH
 have hlen:its.toArray.size*k.toNat≤sizeLine:=by rw [y0q,←hl]; exact hz
 have hcap:¬its.toArray.size*k.toNat>(2^63 - 1) / 8:=by
  have:(sizeLine:Nat)≤(2^63 - 1) / 8:=by decide
  omega
 have hfit:¬(!Builtin.List.listFitsIndex k)=true:=by
  rw [fitsIndex_both h1 h2]
  exact y10
 have hlong:¬Builtin.List.listTooLong (its.toArray.size*k.toNat)=true:=by
  rw [zdj hlen]
  exact y10
 have hnew:y74 (fun x1 x2=>x1++x2) #[] (y06 (if its.toArray.isEmpty=true then 0 else k.toNat) its.toArray)=(y06 k.toNat its).flatten.toArray:=by
  have f0:∀m:Nat,y74 (fun x1 x2=>x1++x2) #[] (y06 m its.toArray)=(y06 m its).flatten.toArray:=fun m=>by
   have:=z9o its m []
   rw [List.nil_append] at this
   exact this
  rw [f0]
  cases its with
  | nil=>simp
  | cons a r'=>rw [if_neg (by simp)]
 refine wpAny_binaryOp_repeat_ref (T:="list") (U:="int") (by decide) ⟨_,e,rfl⟩ (fun s'=>typeIs_int s' k t) noFill_list_mul F.fills_int_mul F.slot_int_rmul repeat_list F.slot_int_index.lookup
  (call_meets F.slot_int_rmul (typeIs_int s k t) F.entry_int_rmul (F.args_int_rmul_2 _ _) (int___rmul___int_list k t l its.toArray n)
   ⟨e,rfl,⟨_,e,rfl⟩,call_meets F.slot_list_mul ⟨_,e,rfl⟩ F.entry_list_mul (F.args_list_mul_2 _ _) (AutoListH.list___mul___list_int_3 l its.toArray n k t hfit hcap hlong) ⟨e,?_⟩⟩)
 rw [hnew]
 exact⟨.ref _,_,I.lnew (t':=s.toks) (r.rep k.toNat) (by rw [zkl,Nat.mul_comm]; exact hz),rfl,q _ I.fresh⟩
end
section
variable {prog:Program}{w:World}{A:Around}{E:Value→Shared→Prop}{s:Shared}
end
section
variable {X:Cx}
end
end L2
namespace Att
open PySem PySem.W PySem.Calls PyProof.Rows
theorem z7t {P:Params}{h:Heap}:∀(ns:List Int) (vs:List Value),WellAll P h vs (ns.map WData.int)→IntsAre vs ns:=by
 intro ns
 induction ns with
 | nil =>
  intro vs w
  rw [y35] at w
  cases w
  exact .nil
 | cons n ns ih =>
  intro vs w
  rw [y0m] at w
  cases w with
  | cons a b =>
   cases a
   exact .cons _ _ (ih _ b)
theorem zhb {l:OpenLaw}{n:Nat}(hn:l.most=some n){P:Params}{h:Heap}{args:List WData}{vals:List Value}
  (hpre:l.row.toRowW.claim.pre args=true) (hwl:WellAll P h vals args) :
  ∃a vs ns,vals = [Value.ref a]∧args = [WData.list (ns.map WData.int)]∧h.get? a=some { cls:=.type "list",data:=.seq vs.toArray }∧IntsAre vs ns∧ns.length≤n:=by
 have hsh:WShape.hasAll [] args [.list .int]=true:=(pre_splitW hpre).1
 have hc:l.pre.holds [] { args:=args }=true:=(pre_splitW hpre).2
 obtain⟨d,r,rfl,h1,h2⟩:=hasAllW_cons hsh
 obtain rfl:=hasAllW_nil h2
 obtain⟨xs,rfl,h3⟩:=hasW_list h1
 obtain⟨ns,rfl⟩:=items_int h3
 have hlen:ns.length≤n:=by
  unfold OpenLaw.pre at hc
  have h4:(WTm.not (.lt (.lit (.int (n:Int))) (.len (.arg 0)))).holds [] { args:=[.list (ns.map .int)] }=true:=by
   have h4:=(holds_andW hc).1
   rw [hn] at h4
   exact h4
  have h5:=condW_of h4 (w_not (w_lt w_lit (w_len_list (w_arg rfl))))
  rw [y04] at h5
  refine Nat.le_of_not_lt fun q=>?_
  have q':(n:Int)<((ns.length:Nat):Int):=by omega
  first
   | (rw [decide_eq_true q'] at h5; exact absurd h5 (by decide))
   | (simp at h5; omega)
 cases hwl with
 | cons w1 w2 =>
  cases w2
  cases w1 with
  | list ho hall=>exact⟨_,_,ns,rfl,rfl,ho,z7t ns _ hall,hlen⟩
theorem zen (l:OpenLaw)(args:List WData):l.row.toRowW.claim.post args (.bool true) args=true :=
 postW_of (r:=l.row.toRowW) (X:=(true==true))
  (show WShape.has [] (.bool true) .bool=true by first | rfl | decide | simp [WShape.has,WShape.arms,WShape.armsAll])
  (show(WTm.eq .res (.lit (.bool true))).value [] { args:=args,res:=some (.bool true),after:=args }=some (.bool (true==true)) from w_eq_bool (w_res rfl) w_lit) rfl
theorem attach_call {l:OpenLaw}{n:Nat}{q:Program}{loose:List Str}{XP:(Str→Option Value)→Heap→Prop}{YP:World→Heap→Prop}{d:DefRec}
  (hn:l.most=some n) (hdf:d.params.defaults = [])
  (call:∀(w:World) (s₀ s₁:Shared) (mg mb:Str→Option Value) (fa:Addr) (o:Obj) (pm cd doc:Value) (a:Addr) (vs:List Value) (ns:List Int),
   Ground q loose [] XP w s₀ mg mb s₁.heap→YP w s₁.heap →
   s₁.heap.get? fa=some o→o.data = .func (docDef d.name d.params d.body d.scope pm cd doc)→s₁.heap.CodeRec cd d.name→mg d.name=some (.ref fa) →
   s₁.heap.get? a=some { cls:=.type "list",data:=.seq vs.toArray }→IntsAre vs ns→ns.length≤n→s₁.gens = #[] →
   codeAny (model l.prog w) callerA (.call (.ref fa) ⟨[.ref a],[]⟩) (fun r s'=>r = .ok (.ret (.bool true))∧OldK s₁.heap s'.heap∧s'.os=s₁.os∧AllBare s'.gens) s₁) :
  WalkO q loose XP YP l.row.toRowW d [] (fun f vs=>y75 f vs):=by
 intro w s₀ s₁ mg mb G Y fa o pm cd doc dV kV ho hd hcd hD hmg hg args vals as hpre hlay hrd hwl hlo
 obtain rfl:dV = .none:=Dflts.none hD hdf
 obtain rfl:kV = .none:=Dflts.noKw hD
 obtain⟨a,vs,ns,rfl,rfl,hobj,hints,hlen⟩:=zhb hn hpre hwl
 refine enter_call (codeAny_mono (call w s₀ s₁ mg mb fa o pm cd doc a vs ns G Y ho (fd_plain hd) hcd hmg hobj hints hlen hg) fun r s' hq=>?_)
 obtain⟨rfl,h2,h3,h4⟩:=hq
 exact⟨.inl ⟨.bool true,.bool true,[],rfl,fun _=>rfl,.bool true,zen l _,fun _=>⟨y6e,fun _ hm=>(nomatch hm)⟩⟩,h2,h3,h4⟩
section
variable {prog:Program}{w:World}{A:Around}{E:Value→Shared→Prop}{s:Shared}{K:Frag}
def zpt (h:Heap)(L d:Addr):List (Addr×Obj):=(y0c h.objs.size).filterMap fun a=>if a=L∨a=d then none else (h.get? a).map fun o=>(a,o)
end
end Att
namespace L2
open PySem PySem.Spec PyProof.Rows
theorem zai:∀{vs:List Value} {ns:List Int},IntsAre vs ns→Vals (ns.map V.int) vs
 | _,_,.nil=>.nil
 | _,_,.cons n t h=>.cons ⟨t,rfl⟩ (zai h)
def zoq (H:Hp):Prop:=∀b,H b=none∨∃o xs,H b=some (.frz o (.lst xs))
theorem zj7 {P:Program}{w:World}{K:y02}{mg mb:Str→Option Value}{CX:CXT}{k:Nat}{fa a:Addr}{fd:FuncData}{x:Str}{sp:Sp}{s₁:Shared}{vs:List Value}{ns:List Int}
  (KX:K.In s₁.heap) (hns:s₁.heap.Ns mainGlobals mg) (hb:s₁.heap.Ns builtinsNs mb) (hbb:∀x:Str,x ≠ "__name__"→mb x=bootBuiltins x) (hlim:s₁.heap.NoLimit) (hg:s₁.gens = #[])
  (ha:s₁.heap.get? a=some { cls:=.type "list",data:=.seq vs.toArray }) (hi:IntsAre vs ns) (hl:ns.length≤sizeLine) (hr:Room k callerA)
  (F:∀base:Heap,K.In base→base.Ns mainGlobals mg→FnOk P w K mg base CX k fa fd [x] sp) (hbind:∀(s:Shared) (u:Value),BindsTo s fd ⟨[u],[]⟩ [(x,u)])
  (hsp:∀H:Hp,zoq H→SqL K H a (ns.map V.int)→sp [.ref a] H (fun v _=>v = .bl true) fun _ _ _=>False)
  (hCX:∀H e s',CX [] H s₁ (fun _ _ _=>False) e s'→False) :
  codeAny (model P w) callerA (.call (.ref fa) ⟨[.ref a],[]⟩) (fun r s'=>r = .ok (.ret (.bool true))∧OldK s₁.heap s'.heap∧s'.os=s₁.os∧AllBare s'.gens) s₁:=by
 have rv:=zai hi
 have lenV:=hi.length
 have core:∀H:Hp,zoq H→SqL K H a (ns.map V.int)→HOk P w H s₁.heap→(∀b,H b≠none→b=a)→(H a≠none→K.lookup a=none) →
   codeAny (model P w) callerA (.call (.ref fa) ⟨[.ref a],[]⟩) (fun r s'=>r = .ok (.ret (.bool true))∧OldK s₁.heap s'.heap∧s'.os=s₁.os∧AllBare s'.gens) s₁:=by
  intro H hO hS hok hA hK
  have base_of:∀{b:Addr} {o:Obj},s₁.heap.get? b=some o→H b=none→(zig s₁.heap H).get? b=some o:=fun e n=>zi8 e n
  have noA:∀{b:Addr} {o:Obj} {es:Array DictEntry} {ep:Nat},s₁.heap.get? b=some o→o.data = .dict es ep→H b=none:=fun {b o es ep} e d=>by
   cases q:H b with
   | none=>rfl
   | some u =>
    have e':b=a:=hA b (by rw [q]; simp)
    subst e'
    rw [ha] at e; cases e
    have d':Data.seq vs.toArray _=Data.dict es ep:=d
    cases d'
  have nsK:∀{b:Addr} {m:Str→Option Value},s₁.heap.Ns b m→(zig s₁.heap H).Ns b m:=fun {b m} ⟨o,es,ep,e,d,r⟩=>⟨o,es,ep,base_of e (noA e d),d,r⟩
  have hKb:K.In (zig s₁.heap H):=fun b o e=>base_of (KX b o e) (by
   cases q:H b with
   | none=>rfl
   | some u =>
    have e':b=a:=hA b (by rw [q]; simp)
    subst e'
    rw [hK (by rw [q]; simp)] at e; cases e)
  have hM:Mod K mg (zig s₁.heap H):=⟨hKb,nsK hns,⟨mb,nsK hb,hbb⟩,let ⟨mc,h1,h2⟩:=hlim; ⟨mc,nsK h1,h2⟩⟩
  have e0:Env0 P w K mg (zig s₁.heap H) callerA [] s₁ H:=⟨rfl,hM,fun b o e=>zlh e,y6h (zfa _ _),trivial,fun b hb=>absurd (show b∈([]:List Addr) from hb) (by simp),hok,.of_eq hg⟩
  refine codeAny_mono ((F _ hKb (nsK hns)).run callerA [] s₁ H ⟨[.ref a],[]⟩ [.ref a] [.ref a] _ _ hr e0 (hbind s₁ (.ref a)) (.cons rfl .nil) (hsp H hO hS)) fun r s' h=>?_
  cases r with
  | error e=>exact(hCX H e s' h).elim
  | ok fl =>
   cases fl with
   | next=>exact False.elim h
   | brk=>exact False.elim h
   | cont=>exact False.elim h
   | ret u =>
    obtain⟨v,H',os,bare,un,hok',r',q⟩:=h
    have q':v = .bl true:=q
    subst q'
    obtain rfl:u=Value.bool true:=r'
    refine⟨rfl,OldK.of_keep fun b o e=>?_,os,bare⟩
    cases q:H b with
    | none=>exact un.keep b o e q (by intro z; exact absurd (show b∈([]:List Addr) from z) (by simp)) (by simp)
    | some u =>
     rcases hO b with z | ⟨ob,xs,z⟩
     ·rw [q] at z; cases z
     ·have z2:=un.frzs b ob _ z
      obtain⟨e1,_⟩:=hok b _ z
      obtain⟨e2,_⟩:=hok' b _ z2
      rw [e] at e1; cases e1
      exact e2
 cases hk:K.lookup a with
 | some o =>
  have e:=KX a o hk
  rw [ha] at e
  cases e
  refine core (fun _=>none) (fun _=>.inl rfl) (.inr ⟨_,vs.toArray,_,hk,rfl,rfl,rfl,by rw [y0q,lenV]; exact hl,by simpa using rv⟩) (fun b u z=>by have z':(none:Option HO)=some u:=z; cases z') (fun b z=>absurd rfl z) fun z=>absurd rfl z
 | none =>
  refine core (fun b=>if b=a then some (.frz { cls:=.type "list",data:=.seq vs.toArray } (.lst (ns.map V.int))) else none) (fun b=>?_) (.inl (.inr ⟨{ cls:=.type "list",data:=.seq vs.toArray },if_pos rfl⟩)) (fun b u z=>?_) (fun b z=>?_) fun _=>hk
  ·by_cases hb:b=a
   ·exact .inr ⟨_,_,if_pos hb⟩
   ·exact .inl (if_neg hb)
  ·by_cases hb:b=a
   ·have z':=(if_pos hb).symm.trans z
    cases z'
    subst hb
    exact⟨ha,by rw [y04]; exact hl,vs,_,rv,ha⟩
   ·have z':=(if_neg hb).symm.trans z
    cases z'
  ·by_cases hb:b=a
   ·exact hb
   ·exact absurd (if_neg hb) z
end L2
namespace L2
open PySem PySem.Spec PyProof.Rows
theorem walk_of {l:y4h}{n k:Nat}{q:Program}{loose:List Str}{XP:(Str→Option Value)→Heap→Prop}{YP:World→Heap→Prop}{d:DefRec}{K:Params→y02}{CX:World→CXT}{sp:World→Sp}{x:Str}
  (hn:l.most=some n) (hn2:n≤sizeLine) (hdf:d.params.defaults = []) (hr:Room k callerA)
  (hY:∀(w:World) (h:Heap),YP w h→(K w.params).In h)
  (F:∀(w:World) (mg:Str→Option Value) (fa:Addr) (h:Heap),(K w.params).In h→h.Ns mainGlobals mg→mg d.name=some (.ref fa) →
   ∃fd:FuncData,(∀(s:Shared) (u:Value),BindsTo s fd ⟨[u],[]⟩ [(x,u)]) ∧
    ∀base:Heap,(K w.params).In base→base.Ns mainGlobals mg→FnOk l.prog w (K w.params) mg base (CX w) k fa fd [x] (sp w))
  (hsp:∀(w:World) (H:Hp) (a:Addr) (ns:List Int),ns.length≤n→zoq H→SqL (K w.params) H a (ns.map V.int)→sp w [.ref a] H (fun v _=>v = .bl true) fun _ _ _=>False)
  (hCX:∀(w:World) (H:Hp) (s:Shared) (e:Value) (s':Shared),CX w [] H s (fun _ _ _=>False) e s'→False) :
  y77 q loose XP YP l.row.toRowW d [] (fun f vs=>y75 f vs):=by
 refine Att.attach_call hn hdf fun w s₀ s₁ mg mb fa o pm cd doc a vs ns G Y ho hd hcd hmg hobj hints hlen hg=>?_
 have KX:=hY w _ Y
 obtain⟨fd,hb,hF⟩:=F w mg fa _ KX G.T.g hmg
 exact zj7 KX G.T.g G.T.b G.T.builtins G.T.nolimit hg hobj hints (y19 hlen hn2) hr hF hb (fun H hO hS=>hsp w H a ns hlen hO hS) fun H e s'=>hCX w H s₁ e s'
end L2
namespace L2
open PySem PySem.Spec PyProof.Rows
def z2x (s:Stmt)(j:Nat):Stmt:=match s with
 | .ClassDef _ _ _ body _ _ _ _ _ _ _=>body.getD j (.Pass ⟨0,0,0,0⟩)
 | _=>.Pass ⟨0,0,0,0⟩
def z0e (s:Stmt):Arguments:=match s with
 | .FunctionDef _ a _ _ _ _ _ _ _ _=>a
 | _=>{ posonlyargs:=[],args:=[],vararg:=none,kwonlyargs:=[],kw_defaults:=[],kwarg:=none,defaults:=[] }
def z0d (s:Stmt):List Stmt:=match s with
 | .FunctionDef _ _ b _ _ _ _ _ _ _=>b
 | _=>[]
def z05 (s:Stmt):Scope:=match s with
 | .FunctionDef _ _ _ _ _ _ sc _ _ _=>sc
 | _=>{ kind:=.function,names:=[],isGenerator:=false,isCoroutine:=false }
abbrev CX0:CXT:=fun _ _ _ _ _ _=>False
abbrev E0:XK:=fun _ _ _=>False
theorem zi7 {X:Cx}:z8w CX0 X E0:=fun _ _ _ _ _ _ _ h=>h.elim
structure Fun (K:y02)(x qual:Str)(st:Stmt)(f:Addr)(fd:FuncData):Prop where
 ex:∃(oc:Value) (od:Option Addr) (kV doc pm:Value) (an:Option Addr) (cdv ct:Value) (osl:Array (Option Value)),
  fd=y0i x qual (z0e st) (z0d st) (z05 st) .none kV doc pm an cdv ct∧K.lookup f=some ⟨oc,od,.func fd,osl⟩∧y0g K cdv qual=true
 kp:y0e K (.ref f)=true
section
variable {P:Program}{w:World}{K:y02}{mg:Str→Option Value}{base:Heap}
theorem Fun.ok {x qual:Str}{st:Stmt}{f:Addr}{fd:FuncData}{N ps:List Str}{k:Nat}{sp:Sp}(F:Fun K x qual st f fd)(S:FnScope N ps (z05 st))(len:∀vs H Q E,sp vs H Q E→vs.length=ps.length)
  (hbody:∀(cdv:Value) (A:Around) (outer:List Env) (s:Shared) (H:Hp) (vs:List V) (Q:VK) (E:XK),Room k (A.deeper (envOfC qual (z05 st) s.heap.objs.size f cdv))→sp vs H Q E →
   ∃t,PSs (zhp CX0 P w K mg base N qual (z05 st) f cdv A outer s H E).nox (z0d st) t∧t { nx:=fun _ H'=>Q .non H',rt:=Q } (start N vs) H):FnOk P w K mg base CX0 (k+1) f fd ps sp:=by
 obtain⟨oc,od,kV,doc,pm,an,cdv,ct,osl,rfl,lk,hcd⟩:=F.ex
 refine zpa lk hcd S len fun A outer s H vs Q E hr hsp=>?_
 obtain⟨t,h,q⟩:=hbody cdv A outer s H vs Q E hr hsp
 exact⟨t,h.nox,q⟩
theorem Fun.binds {x qual:Str}{st:Stmt}{f:Addr}{fd:FuncData}{ps:List Str}(F:Fun K x qual st f fd)
  (h:∀(kV doc pm:Value) (an:Option Addr) (cdv ct:Value) (us:List Value),us.length=ps.length→bindArgs (y0i x qual (z0e st) (z0d st) (z05 st) .none kV doc pm an cdv ct) ⟨us,[]⟩=pure (ps.zip us)):Binds K fd ps []:=by
 obtain⟨oc,od,kV,doc,pm,an,cdv,ct,osl,rfl,lk,hcd⟩:=F.ex
 exact .all (h kV doc pm an cdv ct)
theorem z1j {x qual:Str}{st:Stmt}{f:Addr}{oc:Value}{od an:Option Addr}{osl:Array (Option Value)}{kV doc pm cdv ct:Value}(l:K.lookup f=some ⟨oc,od,.func (y0i x qual (z0e st) (z0d st) (z05 st) .none kV doc pm an cdv ct),osl⟩)
  (c:y0g K cdv qual=true) (k:y0e K (.ref f)=true):Fun K x qual st f (y0i x qual (z0e st) (z0d st) (z05 st) .none kV doc pm an cdv ct):=⟨⟨oc,od,kV,doc,pm,an,cdv,ct,osl,rfl,l,c⟩,k⟩
end
theorem z0l {n:Nat}(h:n≤1000):n<sizeLine:=y2r h (by decide)
section
variable {X:Cx}
end
theorem z8b {A B:Prop}(h:B):if false=true then A else B:=by
 rw [if_neg y10]
 exact h
theorem z8c {A B:Prop}(h:A):if true=true then A else B:=by
 rw [if_pos rfl]
 exact h
theorem z3j {c A B:Prop} [Decidable c] (h1:c→A)(h2:¬c→B):if c then A else B:=by
 by_cases h:c
 ·rw [if_pos h]
  exact h1 h
 ·rw [if_neg h]
  exact h2 h
theorem zmn {c A B:Prop} [Decidable c] (hc:c)(h:B):if (!decide c)=true then A else B:=by
 rw [decide_eq_true hc]
 exact z8b h
def Same (H H':Hp):Prop:=∀b o,H b=some o→H' b=some o
theorem Same.refl (H:Hp):Same H H:=fun _ _ h=>h
theorem Same.trans {H H1 H2:Hp}(a:Same H H1)(b:Same H1 H2):Same H H2:=fun c o h=>b c o (a c o h)
theorem Same.free {H H':Hp}(e:Same H H'){l:Addr}(h:H' l=Option.none):H l=Option.none:=by
 cases q:H l with
 | none=>rfl
 | some o =>
  rw [e l o q] at h
  cases h
theorem Same.seq {K:y02}{H H':Hp}{a:Addr}{xs:List V}(e:Same H H')(h:SqL K H a xs):SqL K H' a xs:=by
 rcases h with (h | ⟨o,h⟩) | h
 ·exact .inl (.inl (e _ _ h))
 ·exact .inl (.inr ⟨o,e _ _ h⟩)
 ·exact .inr h
end L2
set_option Elab.async false
set_option linter.all false
set_option maxRecDepth 100000
namespace L2.EX
open PySem PySem.Spec PyProof.Rows
section
variable {X:Cx}
theorem z5e {e:Expr}{t u:TE}(h:PE X e t)(k:∀ σ H Q,u σ H Q→t σ H Q):PE X e u:=fun pins s σ H Q I q=>h pins s σ H Q I (k σ H Q q)
theorem zjs {e:Stmt}{t u:TS}(h:PS X e t)(k:∀D σ H,u D σ H→t D σ H):PS X e u:=fun pins s σ H D I q=>h pins s σ H D I (k D σ H q)
theorem zjn {e:Expr}{t u:TG}(h:PG X e t)(k:∀v σ H Q,u v σ H Q→t v σ H Q):PG X e u:=fun pins s σ H v w Q I r q=>h pins s σ H v w Q I r (k v σ H Q q)
theorem z71 {f:Value}{r u:List V→Hp→VK→Prop}(h:z43 X f r)(k:∀xs H Q,u xs H Q→r xs H Q):z43 X f u:=fun pins s σ H xs us Q I r q=>h pins s σ H xs us Q I r (k xs H Q q)
def zqj (t:TS):TS:=fun D σ H=>∃M:St→Hp→Prop,t { D with nx:=M } σ H∧∀ σ' H',M σ' H'→D.nx σ' H'
theorem z5m {st:Stmt}{t:TS}(h:PS X st t):PS X st (zqj t):=by
 intro pins s σ H D I hw
 obtain⟨M,h1,h2⟩:=hw
 refine thn (h pins s σ H { D with nx:=M } I h1) fun f s' q=>?_
 cases f with
 | next =>
  obtain⟨σ',H',I',m⟩:=q
  exact⟨σ',H',I',h2 _ _ m⟩
 | brk=>exact q
 | cont=>exact q
 | ret v=>exact q
def sg:St→Nat→Option V
 | [],_=>none
 | v::_,0=>v
 | _::r,n+1=>sg r n
theorem zlp:∀{σ:St} {i:Nat} {v:V},sg σ i=some v→σ[i]?=some (some v)
 | [],_,_,h=>nomatch h
 | w::_,0,v,h=>by
  have e:w=some v:=h
  rw [e]
  rfl
 | _::r,n+1,v,h=>by
  have e:=zlp (σ:=r) (i:=n) (v:=v) h
  simpa using e
def xV (i:Nat)(σ:St)(H:Hp)(Q:VK):Prop:=match sg σ i with
 | some v=>Q v H
 | none=>False
theorem cv (i:Nat){x:Str}{pos:Pos}(hN:X.N[i]?=some x:=by rfl)(hv:Vis X.env.scope x:=by first | exact y6s rfl | exact y6i (y6s rfl) | exact y6i (y6i rfl))(hd:(x==("__debug__":Str))=false:=by decide)
  (hcd:(x==("__classdict__":Str))=false:=by decide):PE X (.Name x pos) (xV i) :=
 z5e (zm3 hN hv hd hcd) fun σ H Q q=>by
  unfold xV at q
  split at q
  ·rename_i v e
   exact⟨v,zlp e,q⟩
  ·exact q.elim
def Bd (n:Nat)(i:Int):Prop:=i.natAbs<2^n
def znv (x y:V)(H:Hp)(Q:VK):Prop:=match x,y with
 | .int i,.int j=>Q (.int (i+j)) H
 | .str i,.str j=>i.length+j.length≤sizeLine∧Q (.str (i++j)) H
 | .ref l,.ref b=>∃xs zs,H l=some (.lst xs)∧H b=some (.lst zs)∧xs.length+zs.length≤sizeLine∧∀p,H p=none→Q (.ref p) (upd H p (.lst (xs++zs)))
 | _,_=>False
def zny (x y:V)(H:Hp)(Q:VK):Prop:=match x,y with
 | .int i,.int j=>Q (.int (i - j)) H
 | _,_=>False
def zo7 (x y:V)(H:Hp)(Q:VK):Prop:=match x,y with
 | .int i,.int j=>IntMulOk i j∧Q (.int (i*j)) H
 | .ref l,.int k=>∃xs,H l=some (.lst xs)∧-(2^63)≤k∧k<2^63∧xs.length*k.toNat≤sizeLine∧∀p,H p=none→Q (.ref p) (upd H p (.lst (y06 k.toNat xs).flatten))
 | _,_=>False
def zo0 (x y:V)(H:Hp)(Q:VK):Prop:=match x,y with
 | .int i,.int j=>0<j∧Q (.int (i % j)) H
 | _,_=>False
def znz (x y:V)(H:Hp)(Q:VK):Prop:=match x,y with
 | .int i,.int j=>j≠0∧j.natAbs.log2<9000∧Q (.int (i.fdiv j)) H
 | _,_=>False
def znt (x y:V)(H:Hp)(Q:VK):Prop:=match x,y with
 | .int i,.int j=>0≤j∧(Builtin.Int.intBits i:Int)*j≤2^27∧Q (.int (i^j.toNat)) H
 | _,_=>False
theorem z1p:OpR X (binaryOp .Add) znv:=by
 intro pins s σ H x y v u Q I rx ry h
 unfold znv at h
 split at h
 ·exact znm pins s σ H _ _ v u Q I rx ry ⟨_,_,rfl,rfl,h⟩
 ·exact zee pins s σ H _ _ v u Q I rx ry ⟨_,_,rfl,rfl,h.1,h.2⟩
 ·obtain⟨xs,zs,h1,h2,h3,h4⟩:=h
  exact zmh pins s σ H _ _ v u Q I rx ry ⟨_,_,xs,zs,rfl,rfl,h1,h2,h3,h4⟩
 ·exact h.elim
theorem zme:OpR X (binaryOp .Sub) zny:=by
 intro pins s σ H x y v u Q I rx ry h
 unfold zny at h
 split at h
 ·exact zmp pins s σ H _ _ v u Q I rx ry ⟨_,_,rfl,rfl,h⟩
 ·exact h.elim
theorem zlo:OpR X (binaryOp .Mult) (rI IntMulOk fun i j=>.int (i*j)):=opI fun _ _ _ _ _ _ _ hc q=>mul_int q hc
theorem z1y:OpR X (binaryOp .Mult) zo7:=by
 intro pins s σ H x y v u Q I rx ry h
 unfold zo7 at h
 split at h
 ·exact zlo pins s σ H _ _ v u Q I rx ry ⟨_,_,rfl,rfl,h.1,h.2⟩
 ·obtain⟨xs,h1,h2,h3,h4,h5⟩:=h
  exact zm5 pins s σ H _ _ v u Q I rx ry ⟨_,_,xs,rfl,rfl,h1,h2,h3,h4,h5⟩
 ·exact h.elim
theorem z1t:OpR X (binaryOp .Mod) zo0:=by
 intro pins s σ H x y v u Q I rx ry h
 unfold zo0 at h
 split at h
 ·exact zn6 pins s σ H _ _ v u Q I rx ry ⟨_,_,rfl,rfl,h.1,h.2⟩
 ·exact h.elim
theorem zkn:OpR X (binaryOp .FloorDiv) (rI (fun _ j=>j≠0∧j.natAbs.log2<9000) fun i j=>.int (i.fdiv j)):=opI fun _ _ _ _ _ _ _ hc q=>floordiv_int hc.1 q (.inl (PyProof.noPylong_of_log2 hc.2))
theorem z2n:OpR X (binaryOp .FloorDiv) znz:=by
 intro pins s σ H x y v u Q I rx ry h
 unfold znz at h
 split at h
 ·exact zkn pins s σ H _ _ v u Q I rx ry ⟨_,_,rfl,rfl,⟨h.1,h.2.1⟩,h.2.2⟩
 ·exact h.elim
theorem zki:OpR X (binaryOp .Pow) (rI (fun i j=>0≤j∧(Builtin.Int.intBits i:Int)*j≤2^27) fun i j=>.int (i^j.toNat)):=opI fun _ _ _ _ _ _ _ hc q=>pow_int hc.1 hc.2 q
theorem zji:OpR X (binaryOp .Pow) znt:=by
 intro pins s σ H x y v u Q I rx ry h
 unfold znt at h
 split at h
 ·exact zki pins s σ H _ _ v u Q I rx ry ⟨_,_,rfl,rfl,⟨h.1,h.2.1⟩,h.2.2⟩
 ·exact h.elim
def znu (x:V)(H:Hp)(Q:VK):Prop:=match x with
 | .int i=>Q (.int (-i)) H
 | _=>False
theorem z5k:UnR X (unaryOp .USub) znu:=by
 intro pins s σ H x v Q I rx h
 unfold znu at h
 split at h
 ·exact zml pins s σ H _ v Q I rx ⟨_,rfl,h⟩
 ·exact h.elim
def uEq (x y:V)(H:Hp)(Q:VK):Prop:=match x,y with
 | .int i,.int j=>Q (.bl (decide (i=j))) H
 | .bl i,.bl j=>Q (.bl (decide (i=j))) H
 | .str i,.str j=>Q (.bl (decide (i=j))) H
 | x,y=>zo4 x y=true∧Q (.bl (decide (x=y))) H
def uNe (x y:V)(H:Hp)(Q:VK):Prop:=match x,y with
 | .int i,.int j=>Q (.bl (!decide (i=j))) H
 | .bl i,.bl j=>Q (.bl (!decide (i=j))) H
 | .str i,.str j=>Q (.bl (!decide (i=j))) H
 | x,y=>zo4 x y=true∧Q (.bl (!decide (x=y))) H
def uLt (x y:V)(H:Hp)(Q:VK):Prop:=match x,y with
 | .int i,.int j=>Q (.bl (decide (i<j))) H
 | _,_=>False
def uLe (x y:V)(H:Hp)(Q:VK):Prop:=match x,y with
 | .int i,.int j=>Q (.bl (decide (i≤j))) H
 | _,_=>False
def uGt (x y:V)(H:Hp)(Q:VK):Prop:=match x,y with
 | .int i,.int j=>Q (.bl (decide (j<i))) H
 | _,_=>False
def uGe (x y:V)(H:Hp)(Q:VK):Prop:=match x,y with
 | .int i,.int j=>Q (.bl (decide (j≤i))) H
 | _,_=>False
theorem z5b:OpR X (compareOp .Eq) uEq:=by
 intro pins s σ H x y v u Q I rx ry h
 unfold uEq at h
 split at h
 ·rename_i i j
  refine zhr pins s σ H _ _ v u Q I rx ry ⟨rfl,?_⟩
  have e:decide (V.int i=V.int j)=decide (i=j):=by simp
  rw [e]
  exact h
 ·rename_i i j
  refine zhr pins s σ H _ _ v u Q I rx ry ⟨rfl,?_⟩
  have e:decide (V.bl i=V.bl j)=decide (i=j):=by simp
  rw [e]
  exact h
 ·rename_i i j
  refine zhr pins s σ H _ _ v u Q I rx ry ⟨rfl,?_⟩
  have e:decide (V.str i=V.str j)=decide (i=j):=by simp
  rw [e]
  exact h
 ·exact zhr pins s σ H _ _ v u Q I rx ry h
theorem zm4:OpR X (compareOp .NotEq) uNe:=by
 intro pins s σ H x y v u Q I rx ry h
 unfold uNe at h
 split at h
 ·rename_i i j
  refine zjb pins s σ H _ _ v u Q I rx ry ⟨rfl,?_⟩
  have e:decide (V.int i=V.int j)=decide (i=j):=by simp
  rw [e]
  exact h
 ·rename_i i j
  refine zjb pins s σ H _ _ v u Q I rx ry ⟨rfl,?_⟩
  have e:decide (V.bl i=V.bl j)=decide (i=j):=by simp
  rw [e]
  exact h
 ·rename_i i j
  refine zjb pins s σ H _ _ v u Q I rx ry ⟨rfl,?_⟩
  have e:decide (V.str i=V.str j)=decide (i=j):=by simp
  rw [e]
  exact h
 ·exact zjb pins s σ H _ _ v u Q I rx ry h
theorem z6z:OpR X (compareOp .Lt) uLt:=by
 intro pins s σ H x y v u Q I rx ry h
 unfold uLt at h
 split at h
 ·exact zpe pins s σ H _ _ v u Q I rx ry ⟨_,_,rfl,rfl,h⟩
 ·exact h.elim
theorem z6t:OpR X (compareOp .Gt) uGt:=by
 intro pins s σ H x y v u Q I rx ry h
 unfold uGt at h
 split at h
 ·exact zpb pins s σ H _ _ v u Q I rx ry ⟨_,_,rfl,rfl,h⟩
 ·exact h.elim
theorem zkt:OpR X (compareOp .GtE) uGe:=by
 intro pins s σ H x y v u Q I rx ry h
 unfold uGe at h
 split at h
 ·exact zp4 pins s σ H _ _ v u Q I rx ry ⟨_,_,rfl,rfl,h⟩
 ·exact h.elim
def uIs (x y:V)(H:Hp)(Q:VK):Prop:=match y with
 | .non=>Q (.bl (decide (x = .non))) H
 | _=>False
def onB (Q:Bool→Hp→Prop)(x:V)(H:Hp):Prop:=match x with
 | .bl k=>Q k H
 | _=>False
theorem zaz {Q:Bool→Hp→Prop}{x:V}{H:Hp}(h:onB Q x H):∃k,x = .bl k∧Q k H:=by
 unfold onB at h
 split at h
 ·exact⟨_,rfl,h⟩
 ·exact h.elim
def xT (t:TE)(σ:St)(H:Hp)(Q:Bool→Hp→Prop):Prop:=t σ H (onB Q)
theorem z2l {e:Expr}{t:TE}(h:PE X e t)(he:∀whole,isTrue e X.env whole=(do let v ←whole; standAt e.pos; holding [v] (truthy v)):=by intro _; rfl):PT X e (xT t):=by
 intro pins s σ H Q I hw
 refine isTrue_plain (thn (h pins s σ H _ I hw) fun v s1 hq=>?_) (he _)
 obtain⟨x,H1,I1,r1,q1⟩:=hq
 obtain⟨d,rfl,q⟩:=zaz q1
 cases r1
 exact wpAny_truthy_bool ⟨H1,I1,q⟩
variable {a b:Expr}{ta tb:TE}{pos:Pos}{rest:List Expr}
theorem z0s {op:CmpOp}{r:R2}(ho:OpR X (compareOp op) r)(ha:PE X a ta)(hb:PE X b tb)(hm:behindInMarks op b=false):PT X (.Compare a [op] [b] pos) (xT (tOp r ta tb)):=by
 intro pins s σ H Q I h
 refine wpAny_isTrue_Compare1 (thn (ha pins s σ H _ I h) fun v s1 h1=>?_) hm
 obtain⟨x,H1,I1,r1,q1⟩:=h1
 refine thn (hb pins s1 σ H1 _ I1 q1) fun u s2 h2=>?_
 obtain⟨y,H2,I2,r2,q2⟩:=h2
 refine thn (ho pins s2 σ H2 x y v u _ I2 r1 r2 q2) fun c s3 h3=>?_
 obtain⟨z,H3,I3,r3,q3⟩:=h3
 obtain⟨k,rfl,q⟩:=zaz q3
 cases r3
 exact wpAny_truthy_bool ⟨H3,I3,q⟩
def zou (ta tb:TE)(σ:St)(H:Hp)(Q:VK):Prop:=ta σ H (onB fun c H1=>if c=true then tb σ H1 Q else Q (.bl false) H1)
def xOr (ta tb:TE)(σ:St)(H:Hp)(Q:VK):Prop:=ta σ H (onB fun c H1=>if c=true then Q (.bl true) H1 else tb σ H1 Q)
def zoz (ta:TE)(σ:St)(H:Hp)(Q:VK):Prop:=ta σ H (onB fun c H1=>Q (.bl (!c)) H1)
theorem zab (ha:PE X a ta)(hb:PE X (.BoolOp .And (b::rest) pos) tb):PE X (.BoolOp .And (a::b::rest) pos) (zou ta tb):=by
 intro pins s σ H Q I h
 refine BoolOp_and (thn (ha pins s σ H _ I h) fun v s1 h1=>?_)
 obtain⟨x,H1,I1,r1,q1⟩:=h1
 obtain⟨c,rfl,q⟩:=zaz q1
 cases r1
 refine wpAny_truthy_bool ?_
 cases c with
 | true=>exact hb pins s1 σ H1 Q I1 q
 | false=>exact⟨.bl false,H1,I1,rfl,q⟩
theorem zn1 (ha:PE X a ta)(hb:PE X (.BoolOp .Or (b::rest) pos) tb):PE X (.BoolOp .Or (a::b::rest) pos) (xOr ta tb):=by
 intro pins s σ H Q I h
 refine BoolOp_or (thn (ha pins s σ H _ I h) fun v s1 h1=>?_)
 obtain⟨x,H1,I1,r1,q1⟩:=h1
 obtain⟨c,rfl,q⟩:=zaz q1
 cases r1
 refine wpAny_truthy_bool ?_
 cases c with
 | false=>exact hb pins s1 σ H1 Q I1 q
 | true=>exact⟨.bl true,H1,I1,rfl,q⟩
theorem zco (ha:PE X a ta):PE X (.UnaryOp .Not a pos) (zoz ta):=by
 intro pins s σ H Q I h
 refine UnaryOp_ (thn (ha pins s σ H _ I h) fun v s1 h1=>?_)
 obtain⟨x,H1,I1,r1,q1⟩:=h1
 obtain⟨c,rfl,q⟩:=zaz q1
 cases r1
 exact not_of (wpAny_truthy_bool ⟨.bl (!c),H1,I1,rfl,q⟩)
def zo5 (xs:List V)(H:Hp)(Q:VK):Prop:=match xs with
 | [.int i]=>Q (.int (if i<0 then -i else i)) H
 | _=>False
theorem z9n:z43 X (.builtin "abs") zo5:=z71 zir fun xs H Q h=>by
 unfold zo5 at h
 split at h
 ·exact⟨_,rfl,h⟩
 ·exact h.elim
def zj1 (xs:List V)(H:Hp)(Q:VK):Prop:=match xs with
 | [.int i,.int j]=>Q (.int (if j<i then j else i)) H
 | _=>False
theorem zlm (hc:X.calm=true:=by rfl):z43 X (.builtin "min") zj1:=z71 (zgu hc) fun xs H Q h=>by
 unfold zj1 at h
 split at h
 ·exact⟨_,_,rfl,h⟩
 ·exact h.elim
def znn (xs:List V)(H:Hp)(Q:VK):Prop:=match xs with
 | [.int i,.int j]=>Q (.int (if j>i then j else i)) H
 | _=>False
@[reducible] def zpn (K:y02)(xs:List V)(H:Hp)(Q:VK):Prop:=match xs with
 | [.ref p]=>∃ys,(SqL K H p ys∨SqT K H p ys)∧Q (.int ys.length) H
 | _=>False
theorem z24:z43 X (.builtin "len") (zpn X.K):=z71 zax fun xs H Q h=>by
 unfold zpn at h
 split at h
 ·obtain⟨ys,h1,h2⟩:=h
  exact⟨_,ys,rfl,h1,h2⟩
 ·exact h.elim
def zpq (xs:List V)(H:Hp)(Q:VK):Prop:=match xs with
 | [.int i]=>Q (.int i) H
 | [.bl k]=>Q (.int (if k then 1 else 0)) H
 | _=>False
@[reducible] def zm9 (K:y02)(xs:List V)(H:Hp)(Q:VK):Prop:=match xs with
 | [.ref p]=>∃ys,(SqL K H p ys∨SqT K H p ys)∧∀l,H l=none→Q (.ref l) (upd H l (.lst ys))
 | _=>False
theorem zbh:z43 X (.type "list") (zm9 X.K):=z71 zb3 fun xs H Q h=>by
 unfold zm9 at h
 split at h
 ·obtain⟨ys,h1,h2⟩:=h
  exact⟨_,ys,rfl,h1,h2⟩
 ·exact h.elim
def tyN (H:Hp)(x:V):Option String:=match x with
 | .non=>some "NoneType"
 | .bl _=>some "bool"
 | .int _=>some "int"
 | .str _=>some "str"
 | .ref a=>match H a with
  | some (.lst _)=>some "list"
  | some (.tup _)=>some "tuple"
  | some (.dK _)=>some "dict"
  | _=>none
 | _=>none
def isB (t c:String):Bool:=t==c||(t == "bool"&&c == "int")
def okC (c:String):Bool:=["int","bool","str","list","tuple","dict"].contains c
theorem zlb (K:y02){t c:String}(ht:t ∈ ["NoneType","bool","int","str","list","tuple","dict"])(hc:c ∈ ["int","bool","str","list","tuple","dict"]):y72 K (.type t) (.type c)=some (isB t c):=by
 simp only [y0k,y1c,or_false] at ht hc
 rcases ht with rfl | rfl | rfl | rfl | rfl | rfl | rfl<;>rcases hc with rfl | rfl | rfl | rfl | rfl | rfl<;>with_unfolding_all rfl
def ziz (xs:List V)(H:Hp)(Q:VK):Prop:=match xs with
 | [x,.ty c]=>match tyN H x with
  | some t=>okC c=true∧Q (.bl (isB t c)) H
  | none=>False
 | _=>False
theorem z26:z43 X (.builtin "isinstance") ziz:=by
 intro pins s σ H xs us Q I r h
 unfold ziz at h
 split at h
 ·rename_i x c
  split at h
  ·rename_i t et
   obtain⟨hc,q⟩:=h
   obtain⟨u,w,rfl,rx,rc⟩:=zkw r
   obtain rfl:w=Value.type c:=rc
   have hc':c ∈ ["int","bool","str","list","tuple","dict"]:=y21.mp hc
   have fin:∀tk,EP X pins σ Q (.bool (isB t c)) { s with toks:=tk }:=fun tk=>⟨.bl (isB t c),H,I.tok tk,rfl,q⟩
   have go:∀ty:TyOf X.K H x (.type t),t ∈ ["NoneType","bool","int","str","list","tuple","dict"]→wpAny (model X.prog X.w) X.A (call (.builtin "isinstance") [u,.type c]) (EP X pins σ Q) X.xe s:=fun ty ht =>
    zge I rx ty (zlb X.K ht hc') fin
   unfold tyN at et
   split at et
   ·cases et; exact go .non (by decide)
   ·cases et; exact go (.bl _) (by decide)
   ·cases et; exact go (.int _) (by decide)
   ·cases et; exact go (.str _) (by decide)
   ·split at et
    ·rename_i a xs e
     cases et; exact go (.lst e) (by decide)
    ·rename_i a xs e
     cases et; exact go (.tup e) (by decide)
    ·rename_i a kvs e
     cases et; exact go (.dK e) (by decide)
    ·cases et
   ·cases et
  ·exact h.elim
 ·exact h.elim
@[reducible] def uIx (K:y02)(x y:V)(H:Hp)(Q:VK):Prop:=match x,y with
 | .ref p,.int i=>∃xs v,(SqL K H p xs∨SqT K H p xs)∧atI xs i=some v∧Q v H
 | _,_=>False
theorem z0i:IxR X (uIx X.K):=by
 intro value slice pins s σ H x y v u Q I rx ry h hs
 unfold uIx at h
 split at h
 ·obtain⟨xs,v',h1,h2,h3⟩:=h
  rcases h1 with h1 | h1
  ·exact zli value slice pins s σ H _ _ v u Q I rx ry ⟨_,xs,_,v',rfl,rfl,h1,h2,h3⟩ hs
  ·exact zmj value slice pins s σ H _ _ v u Q I rx ry ⟨_,xs,_,v',rfl,rfl,h1,h2,h3⟩ hs
 ·exact h.elim
@[reducible] def uSl (K:y02)(x:V)(lo hi:Option Int)(H:Hp)(Q:VK):Prop:=match x with
 | .ref a=>∃xs,SqL K H a xs∧∀p,H p=none→Q (.ref p) (upd H p (.lst (zel xs lo hi)))
 | _=>False
def zkk (t:TE)(σ:St)(H:Hp)(Q:Option Int→Hp→Prop):Prop:=t σ H fun x H1=>match x with
 | .int i=>Q (some i) H1
 | _=>False
end
structure Def (P:Program)(w:World)(K:y02)(mg:Str→Option Value)(base:Heap)(x:Str)(k:Nat)(ps:List Str)(sp:Sp):Prop where
 is:∃(f:Addr) (fd:FuncData),FnOk P w K mg base CX0 k f fd ps sp∧Binds K fd ps []∧mg x=some (.ref f)∧y0e K (.ref f)=true
structure Top (K:y02)(mg:Str→Option Value)(x:Str)(st:Stmt)(ps:List Str):Prop where
 is:∃(f:Addr) (fd:FuncData),Fun K x x st f fd∧Binds K fd ps []∧mg x=some (.ref f)
section
variable {X:Cx}{x:Str}{k:Nat}{ps:List Str}{sp:Sp}{e:Expr}{es:List Expr}{t:TA}{p pos:Pos}
def zky (sp:Sp)(t:TA)(σ:St)(H:Hp)(Q:VK):Prop:=t σ H fun vs H1=>sp vs H1 Q E0
theorem z0b (D:Def X.prog X.w X.K X.mg X.base x k ps sp)(hr:Room k X.A)(ha:PA X (e::es) t)(hg:Gl X x:=by rfl)(hdb:(x==("__debug__":Str))=false:=by decide)
  (he:starEach (e::es) X.env=(false,eval e X.env)::starEach es X.env:=by rfl) (hpl:(backTo pos (starEach es X.env)).any (·.1)=false:=by rfl):PE X (.Call (.Name x p) (e::es) [] pos) (zky sp t):=by
 intro pins s σ H Q I h
 obtain⟨f,fd,F,hb,hm,hk⟩:=D.is
 refine wpAny_Call_Name_kw (zh7 I hg hm ?_ hdb)
 refine y4r (h₀:=X.base) I.ok.mod.kin hk (thn (ha pos pins s σ H _ I h) fun us s1 h1=>?_) he hpl
 obtain⟨vs,H1,I1,r,q⟩:=h1
 exact⟨I1.kIn,zgc (dvs:=[]) F hr hb .nil zi7 I1 r (by rw [y2n]; exact q)⟩
variable {P:Program}{w:World}{K:y02}{mg:Str→Option Value}{base:Heap}{N:List Str}{st:Stmt}
theorem z0x (T:Top K mg x st ps)(S:FnScope N ps (z05 st))(len:∀vs H Q E,sp vs H Q E→vs.length=ps.length)
  (body:∀(f:Addr) (cdv:Value) (A:Around) (outer:List Env) (s:Shared) (H:Hp) (vs:List V) (Q:VK) (E:XK),Room k (A.deeper (envOfC x (z05 st) s.heap.objs.size f cdv))→sp vs H Q E →
   ∃t,PSs (zhp CX0 P w K mg base N x (z05 st) f cdv A outer s H E).nox (z0d st) t∧t { nx:=fun _ H'=>Q .non H',rt:=Q } (start N vs) H):Def P w K mg base x (k+1) ps sp:=by
 obtain⟨f,fd,F,hb,hm⟩:=T.is
 exact⟨f,fd,F.ok S len fun cdv A outer s H vs Q E hr h=>body f cdv A outer s H vs Q E hr h,hb,hm,F.kp⟩
theorem rd {t:TS}{D:Ends}{σ σ':St}{H:Hp}(e:σ = σ')(h:t D σ' H):t D σ H:=e▸h
end
end L2.EX
set_option Elab.async false
set_option linter.all false
set_option maxRecDepth 100000
namespace L2.EX
open PySem PySem.Spec PyProof.Rows
def ze8 (J:It)(g:TG)(tb:TS)(D:Ends)(σ:St)(H:Hp):Prop:=∃W:Nat→Nat→St→Hp→Prop,(∃m,W 0 m σ H)∧∀i m σ H,W i m σ H →
 (J.stop i H∧D.nx σ H)∨(J.go i H∧∃N:St→Hp→Prop,(∀ σ' H',N σ' H'→∃m',m'<m∧W (i+1) m' σ' H')∧∀x H',J.yld i H x H'→g x σ H' fun σ2 H2=>tb { D with nx:=N,ct:=N,bk:=D.nx } σ2 H2)
def zp3 (wi:TI)(g:TG)(tb:TS)(D:Ends)(σ:St)(H:Hp):Prop:=wi σ H fun J H1=>ze8 J g tb D σ H1
def zmu (c:TT)(tb:TS)(D:Ends)(σ:St)(H:Hp):Prop:=∃(Pv:St→Hp→Prop) (μ:St→Hp→Nat),Pv σ H∧∀ σ H,Pv σ H →
 c σ H fun b H1=>if b=true then tb { D with nx:=fun σ' H'=>Pv σ' H'∧μ σ' H' < μ σ H,ct:=fun σ' H'=>Pv σ' H'∧μ σ' H' < μ σ H,bk:=D.nx } σ H1 else D.nx σ H1
def Itp (lo st:Int)(n:Nat):It:=⟨fun i _=>i<n,fun i H x H'=>H'=H∧x = .int (lo+i*st),fun i _=>n≤i⟩
def zna (lo hi st:Int):Nat:=(Builtin.Range.rangeSize lo hi st).toNat
def zp0 (K:y02)(tl:TE)(σ:St)(H:Hp)(R:It→Hp→Prop):Prop:=tl σ H fun x H1=>match x with
 | .ref a=>((∃xs,SqL K H1 a xs)∧R (Itl K a) H1)∨((∃xs,SqT K H1 a xs)∧R (Itt K a) H1)
 | _=>False
def xR1 (ta:TA)(σ:St)(H:Hp)(R:It→Hp→Prop):Prop:=ta σ H fun vs H1=>match vs with
 | [.int j]=>(-(2^62)≤j∧j<2^62)∧R (Itr 0 j.toNat) H1
 | _=>False
def xR2 (ta:TA)(σ:St)(H:Hp)(R:It→Hp→Prop):Prop:=ta σ H fun vs H1=>match vs with
 | [.int i,.int j]=>(-(2^62)≤i∧i<2^62∧-(2^62)≤j∧j<2^62)∧R (Itr i (j - i).toNat) H1
 | _=>False
def xR3 (ta:TA)(σ:St)(H:Hp)(R:It→Hp→Prop):Prop:=ta σ H fun vs H1=>match vs with
 | [.int i,.int j,.int c]=>((-(2^61)≤i∧i<2^61∧-(2^61)≤j∧j<2^61)∧0<c∧c<2^20)∧R (Itp i c (zna i j c)) H1
 | _=>False
section
variable {X:Cx}{tg:Expr}
theorem z23 {iter:Expr}{body:List Stmt}{wi:TI}{g:TG}{tb:TS}{pos:Pos}(hi:PI X tg iter wi)(hg:PG X tg g)(hb:PSs X body tb)(hp:PassesOwn (model X.prog X.w) X.A X.env X.xe:=by exact PassesOwn.never)(hc:X.calm=true:=by rfl)
  (hs:∀x,foldedSetIterable iter X.env x=pure x:=by intro _; rfl):PS X (.For tg iter body [] pos) (zp3 wi g tb):=znl hp hc hi hg hb hs
theorem zd6 {c:Expr}{body:List Stmt}{tc:TT}{tb:TS}{pos:Pos}(hc:PT X c tc)(hb:PSs X body tb)(hp:PassesOwn (model X.prog X.w) X.A X.env X.xe:=by exact PassesOwn.never):PS X (.While c body [] pos) (zmu tc tb):=by
 intro pins s σ H D I h
 obtain⟨Pv,μ,p0,turn⟩:=h
 refine wpAny_While (codeAny_whileLoop (fun n s'=>∃ σ' H',Inv X pins σ' H' s'∧Pv σ' H'∧n = μ σ' H') ?_ (μ σ H) ⟨σ,H,I,p0,rfl⟩)
 rintro n s1 ⟨σ1,H1,I1,w1,rfl⟩
 refine wpAny_passesOwn hp (thn (hc pins s1 σ1 H1 _ I1 (turn σ1 H1 w1)) fun b s2 h2=>?_)
 obtain⟨H2,I2,q2⟩:=h2
 cases b with
 | true =>
  rw [if_pos rfl] at q2 ⊢
  refine wpAny_passesOwn hp (thn (hb pins s2 σ1 H2 _ I2 q2) fun f s3 q3=>?_)
  cases f with
  | next =>
   obtain⟨σ3,H3,I3,n3,l3⟩:=q3
   exact⟨_,l3,σ3,H3,I3,n3,rfl⟩
  | cont =>
   obtain⟨σ3,H3,I3,n3,l3⟩:=q3
   exact⟨_,l3,σ3,H3,I3,n3,rfl⟩
  | brk=>exact q3
  | ret v=>exact q3
 | false =>
  rw [if_neg y10] at q2 ⊢
  exact wpAny_execs_nil ⟨σ1,H2,I2,q2⟩
theorem z1k {l:Expr}{tl:TE}(hl:PE X l tl):PI X tg l (zp0 X.K tl):=by
 intro pins s σ H R I h
 refine thn (hl pins s σ H _ I h) fun v s1 h1=>?_
 obtain⟨x,H1,I1,r1,q1⟩:=h1
 split at q1
 ·rename_i a
  cases r1
  rcases q1 with ⟨⟨xs,hq⟩,q⟩ | ⟨⟨xs,hq⟩,q⟩
  ·obtain⟨its,rv,p,hz⟩:=I1.list hq
   refine wpAny_pyIter_list p.isList ?_
   refine⟨s1.heap.objs.size,[s1.heap.objs.size],_,_,H1,rfl,I1.kept (t':=s1.toks) fun b o e=>Heap.get?_push_of_some _ e,zes a _,⟨_,Heap.get?_push_size _ rfl,rfl,rfl⟩,fun b hb=>?_,q⟩
   have e:b=s1.heap.objs.size:=by simpa using hb
   subst e
   exact I1.fpOk (y07 _) (I1.hok.fresh (y07 _))
  ·obtain⟨its,rv,p,hz⟩:=I1.tuple hq
   refine wpAny_pyIter_tuple (show s1.heap.IsTuple a its.toArray from p) ?_
   refine⟨s1.heap.objs.size,[s1.heap.objs.size],_,_,H1,rfl,I1.kept (t':=s1.toks) fun b o e=>Heap.get?_push_of_some _ e,ze9 a _,⟨_,Heap.get?_push_size _ rfl,rfl,rfl⟩,fun b hb=>?_,q⟩
   have e:b=s1.heap.objs.size:=by simpa using hb
   subst e
   exact I1.fpOk (y07 _) (I1.hok.fresh (y07 _))
 ·exact q1.elim
theorem zep {a:Expr}{ta:TA}{p pos:Pos}(hm:X.mg "range"=none)(ha:PA X [a] ta)(hg:Gl X "range":=by rfl)(hs:starEach [a] X.env = [(false,eval a X.env)]:=by rfl):PI X tg (.Call (.Name "range" p) [a] [] pos) (xR1 ta):=by
 intro pins s σ H R I h
 refine Call_ (z6m I hg hm boot_range (y20 (thn (ha pos pins s σ H _ I h) fun us s1 h1=>?_) hs rfl))
 obtain⟨vs,H1,I1,r1,q1⟩:=h1
 split at q1
 ·obtain⟨u,rfl,t,rfl⟩:=z7r r1
  obtain⟨⟨q1,q2⟩,q⟩:=q1
  exact call_range_1 (zis I1 (by omega) (by omega) q1 q2 (by simpa using q))
 ·exact q1.elim
theorem zit {lo hi c:Int}(hc:0<c):0≤Builtin.Range.rangeSize lo hi c∧Builtin.Range.rangeSize lo hi c≤(hi - lo).toNat∧(∀i:Nat,(i:Int)<Builtin.Range.rangeSize lo hi c→lo+i*c<hi):=by
 unfold Builtin.Range.rangeSize
 rw [if_pos hc]
 split
 ·rename_i h
  have q0:0≤(hi - lo - 1) / c:=y3b (by omega) (by omega)
  have q1:(hi - lo - 1) / c≤hi - lo - 1:=y47 _ (by omega)
  have q2:(hi - lo - 1) / c*c≤hi - lo - 1:=Int.ediv_mul_le _ (by omega)
  refine⟨by omega,by omega,fun i hi'=>?_⟩
  have q3:(i:Int)*c≤(hi - lo - 1) / c*c:=y2o (by omega) (by omega)
  omega
 ·exact⟨by omega,by omega,fun i hi'=>by omega⟩
theorem zhx {a b c:Int}(ha:-(2^61)≤a)(ha':a<2^61)(hb:-(2^61)≤b)(hb':b<2^61)(hc:0<c)(hc':c<2^20):Builtin.Range.small a b c=true:=by
 obtain⟨h1,h2,_⟩:=zit (lo:=a) (hi:=b) hc
 unfold Builtin.Range.small
 simp only [Builtin.Range.rangeFitsLong,y1d,y5k,decide_eq_true_eq,beq_iff_eq,if_pos (show c>0 from hc)]
 refine⟨⟨⟨⟨by omega,by omega⟩,by omega,by omega⟩,by omega⟩,.inr ⟨by omega,by omega⟩⟩
end
section
variable {K:y02}{g:TG}{tb:TS}{D:Ends}{σ:St}{H:Hp}
theorem z2f {a:Addr}{xs:List V}(Pv:Nat→St→Hp→Prop)(h0:Pv 0 σ H)(hl:∀i σ H,i≤xs.length→Pv i σ H→SqL K H a xs)
  (hs:∀i x σ H,xs[i]?=some x→Pv i σ H→g x σ H fun σ2 H2=>tb { D with nx:=Pv (i+1),ct:=Pv (i+1),bk:=D.nx } σ2 H2) (hd:∀ σ H,Pv xs.length σ H→D.nx σ H):ze8 (Itl K a) g tb D σ H:=zj0 Pv h0 hl hs hd
theorem zjm {a:Addr}{xs:List V}(Pv:Nat→St→Hp→Prop)(h0:Pv 0 σ H)(hl:∀i σ H,i≤xs.length→Pv i σ H→SqT K H a xs)
  (hs:∀i x σ H,xs[i]?=some x→Pv i σ H→g x σ H fun σ2 H2=>tb { D with nx:=Pv (i+1),ct:=Pv (i+1),bk:=D.nx } σ2 H2) (hd:∀ σ H,Pv xs.length σ H→D.nx σ H):ze8 (Itt K a) g tb D σ H:=zlw Pv h0 hl hs hd
theorem zcw {lo:Int}{n:Nat}(Pv:Nat→St→Hp→Prop)(h0:Pv 0 σ H)
  (hs:∀i σ H,i<n→Pv i σ H→g (.int (lo+i)) σ H fun σ2 H2=>tb { D with nx:=Pv (i+1),ct:=Pv (i+1),bk:=D.nx } σ2 H2) (hd:∀ σ H,Pv n σ H→D.nx σ H):ze8 (Itr lo n) g tb D σ H:=zeq Pv h0 hs hd
end
section
variable {X:Cx}{pos:Pos}
def xT2 (K:y02)(i j:Nat)(v:V)(σ:St)(H:Hp)(Q:St→Hp→Prop):Prop:=match v with
 | .ref a=>∃x y,SqT K H a [x,y]∧Q ((σ.set i (some x)).set j (some y)) H
 | _=>False
def xT3 (K:y02)(i j k:Nat)(v:V)(σ:St)(H:Hp)(Q:St→Hp→Prop):Prop:=match v with
 | .ref a=>∃x y z,SqT K H a [x,y,z]∧Q (((σ.set i (some x)).set j (some y)).set k (some z)) H
 | _=>False
theorem z0f (i:Nat){x:Str}(hN:X.N.Nodup)(hi:X.N[i]?=some x:=by rfl)(hx:Loc X.env.scope x:=by first | exact y6s rfl | exact y6i rfl)(hf:X.fn x=true∨X.env.scope.names.lookup x=some .local:=by first | exact .inl rfl | exact .inr rfl):PG X (.Name x pos) (z4f i):=zlt hN hi hx hf
theorem z8e {x y:Str}{px py:Pos}{kt:Nat}{i j:Nat}(h1:PG X (.Name x px) (z4f i))(h2:PG X (.Name y py) (z4f j))(hc:X.calm=true:=by rfl):PG X (.Tuple [.Name x px,.Name y py] kt pos) (xT2 X.K i j) :=
 zjn (zk5 hc (z5v h1 (z5v h2 zho))) fun v σ H Q h=>by
  unfold xT2 at h
  split at h
  ·obtain⟨u,w,h1,h2⟩:=h
   exact⟨_,_,rfl,h1,rfl,_,_,rfl,_,_,rfl,rfl,h2⟩
  ·exact h.elim
theorem zoa {x y z:Str}{px py pz:Pos}{kt:Nat}{i j k:Nat}(h1:PG X (.Name x px) (z4f i))(h2:PG X (.Name y py) (z4f j))(h3:PG X (.Name z pz) (z4f k))(hc:X.calm=true:=by rfl):PG X (.Tuple [.Name x px,.Name y py,.Name z pz] kt pos) (xT3 X.K i j k) :=
 zjn (zk5 hc (z5v h1 (z5v h2 (z5v h3 zho)))) fun v σ H Q h=>by
  unfold xT3 at h
  split at h
  ·obtain⟨u,w,r,h1,h2⟩:=h
   exact⟨_,_,rfl,h1,rfl,_,_,rfl,_,_,rfl,_,_,rfl,rfl,h2⟩
  ·exact h.elim
theorem z0c (i:Nat){x:Str}{e:Expr}{te:TE}{pos':Pos}(hN:X.N.Nodup)(he:PE X e te)(hi:X.N[i]?=some x:=by rfl)(hx:Loc X.env.scope x:=by first | exact y6s rfl | exact y6i rfl)(hs:swapsWith e (some (.Name x pos')) pos.line X.env=pure false:=by rfl)
  (hf:X.fn x=true∨X.env.scope.names.lookup x=some .local:=by first | exact .inl rfl | exact .inr rfl):PS X (.Assign [.Name x pos'] e pos) (zjj te (z4f i)):=znq hN hi hx he hs hf
def zoy (i j:Nat)(ta:TA)(D:Ends)(σ:St)(H:Hp):Prop:=ta σ H fun vs H1=>match vs with
 | [v,w]=>D.nx ((σ.set i (some v)).set j (some w)) H1
 | _=>False
end
end L2.EX
set_option Elab.async false
set_option linter.all false
set_option maxRecDepth 100000
namespace L2.EX
open PySem PySem.Spec PyProof.Rows
theorem zal:bootBuiltins "abs"=some (.builtin "abs"):=by decide +kernel
theorem zjy:bootBuiltins "min"=some (.builtin "min"):=by decide +kernel
theorem zaq:bootBuiltins "sum"=some (.builtin "sum"):=by decide +kernel
theorem zjz:bootBuiltins "any"=some (.builtin "any"):=by decide +kernel
theorem z28:bootBuiltins "isinstance"=some (.builtin "isinstance"):=by decide +kernel
theorem zjr:bootBuiltins "int"=some (.type "int"):=by decide +kernel
theorem zh8:bootBuiltins "bool"=some (.type "bool"):=by decide +kernel
theorem z7b:bootBuiltins "list"=some (.type "list"):=by decide +kernel
theorem zii:bootBuiltins "tuple"=some (.type "tuple"):=by decide +kernel
theorem zl4:bootBuiltins "dict"=some (.type "dict"):=by decide +kernel
theorem za0:bootBuiltins "enumerate"=some (.type "enumerate"):=by decide +kernel
theorem znc:bootBuiltins "zip"=some (.type "zip"):=by decide +kernel
section
variable {X:Cx}{x:Str}{p pos:Pos}{e:Expr}{es:List Expr}{t:TA}{id T:String}{r:List V→Hp→VK→Prop}
theorem z3m (hc:z43 X (.builtin id) r)(hm:X.mg x=none)(hv:bootBuiltins x=some (.builtin id))(ha:PA X (e::es) t)(hg:Gl X x:=by rfl)(hn:x ≠ "__name__":=by decide)(hdb:(x==("__debug__":Str))=false:=by decide)
  (he:starEach (e::es) X.env=(false,eval e X.env)::starEach es X.env:=by rfl) (hpl:(backTo pos (starEach es X.env)).any (·.1)=false:=by rfl):PE X (.Call (.Name x p) (e::es) [] pos) (tCB r t):=ziq hc hg hm hv ha hn hdb he hpl
theorem zo6 (hc:z43 X (.type T) r)(hm:X.mg x=none)(hv:bootBuiltins x=some (.type T))(ha:PA X (e::es) t)(hg:Gl X x:=by rfl)(hn:x ≠ "__name__":=by decide)(hdb:(x==("__debug__":Str))=false:=by decide)
  (he:starEach (e::es) X.env=(false,eval e X.env)::starEach es X.env:=by rfl) (hpl:(backTo pos (starEach es X.env)).any (·.1)=false:=by rfl):PE X (.Call (.Name x p) (e::es) [] pos) (tCB r t):=zf2 hc hg hm hv ha hn hdb he hpl
theorem zed (hm:X.mg x=none)(hv:bootBuiltins x=some (.type T))(hg:Gl X x:=by rfl)(hn:x ≠ "__name__":=by decide)(hd:(x==("__debug__":Str))=false:=by decide):PE X (.Name x pos) (tC (.ty T)):=zko hg hm hv rfl hn hd
theorem z7u {es:List Expr}{t:TA}(h:PA X es t):PA X es (fun σ H Q=>∃R,t σ H R∧∀vs H1,R vs H1→Q vs H1):=by
 intro pos pins s σ H Q I hw
 obtain⟨R,h1,h2⟩:=hw
 refine thn (h pos pins s σ H R I h1) fun us s1 hq=>?_
 obtain⟨vs,H1,I1,r,q⟩:=hq
 exact⟨vs,H1,I1,r,h2 _ _ q⟩
theorem z2d {e:Expr}{t:TE}(h:PE X e t):PE X e (fun σ H Q=>∃R,t σ H R∧∀v H1,R v H1→Q v H1):=by
 intro pins s σ H Q I hw
 obtain⟨R,h1,h2⟩:=hw
 refine thn (h pins s σ H R I h1) fun us s1 hq=>?_
 obtain⟨v,H1,I1,r,q⟩:=hq
 exact⟨v,H1,I1,r,h2 _ _ q⟩
theorem zn9 (i j:Nat){y:Str}{a b:Expr}{ta:TA}{px py pt:Pos}{kt k2 pt2}(hN:X.N.Nodup)(ha:PA X [a,b] ta)(hi:X.N[i]?=some x:=by rfl)(hj:X.N[j]?=some y:=by rfl)(hij:i≠j:=by decide)
  (hx:X.env.scope.names.lookup x=some .local:=by rfl) (hy:X.env.scope.names.lookup y=some .local:=by rfl)
  (hw:swappedStores [.Tuple [.Name x px,.Name y py] kt pt] (.Tuple [a,b] k2 pt2) X.env=pure (some [x,y]):=by with_unfolding_all rfl)
  (hs:swapsWithSole [.Tuple [.Name x px,.Name y py] kt pt] (.Tuple [a,b] k2 pt2) pos.line X.env=pure false:=by rfl) (hc:X.calm=true:=by rfl) :
  PS X (.Assign [.Tuple [.Name x px,.Name y py] kt pt] (.Tuple [a,b] k2 pt2) pos) (zoy i j ta) :=
 zjs (znf hc hN hi hj hij hx hy (z7u ha) hw hs) fun D σ H h=>⟨_,h,fun vs H1 q=>by
  split at q
  ·exact⟨_,_,rfl,q⟩
  ·exact q.elim⟩
end
theorem z4c {i j:Int}{m n:Nat}(hi:Bd m i)(hj:Bd n j)(h:m+n≤134217728):IntMulOk i j:=IntMulOk.of_le (intBits_le_iff.mpr hi) (intBits_le_iff.mpr hj) h
theorem zng {j:Int}{n:Nat}(h:Bd n j)(hn:n≤9000)(h0:j≠0):j.natAbs.log2<9000:=by
 have h1:j.natAbs<2^n:=h
 have h2:j.natAbs.log2<n:=(Nat.log2_lt (by omega)).mpr h1
 omega
theorem Bd.le {i:Int}{m n:Nat}(h:Bd m i)(k:m≤n):Bd n i:=y0p h (y5w (by decide) k)
theorem sz {n:Nat}(h:n≤1000):n≤sizeLine:=y4p (z0l h)
def zdu (K:y02):Sp:=fun vs H Q _=>∃(a:Addr) (ns:List Int),vs = [.ref a]∧SqL K H a (ns.map V.int)∧ns.length≤63∧∀H',Q (.bl true) H'
theorem z1a {K:y02}{mg:Str→Option Value}{h:Heap}{x:Str}{st:Stmt}{ps:List Str}{f:Addr}{oc:Value}{od an:Option Addr}{osl:Array (Option Value)}{kV doc pm cdv ct:Value}(X:K.In h)(G:h.Ns mainGlobals mg)
  (a:y0j K mainGlobals x=some (some (.ref f))) (l:K.lookup f=some ⟨oc,od,.func (y0i x x (z0e st) (z0d st) (z05 st) .none kV doc pm an cdv ct),osl⟩)
  (c:y0g K cdv x=true) (k:y0e K (.ref f)=true)
  (b:∀(kV doc pm:Value) (an:Option Addr) (cdv ct:Value) (us:List Value),us.length=ps.length→bindArgs (y0i x x (z0e st) (z0d st) (z05 st) .none kV doc pm an cdv ct) ⟨us,[]⟩=pure (ps.zip us)):Top K mg x st ps :=
 ⟨f,_,z1j l c k,(z1j l c k).binds b,y65 X G a⟩
theorem znk {l:y4h}{w:World}{K:y02}{mg:Str→Option Value}{h:Heap}{st:Stmt}{fa f:Addr}{k:Nat}{oc:Value}{od an:Option Addr}{osl:Array (Option Value)}{kV doc pm cdv ct:Value}(X:K.In h)(G:h.Ns mainGlobals mg)
  (hfa:mg "law"=some (.ref fa)) (a:y0j K mainGlobals "law"=some (some (.ref f))) (lk:K.lookup f=some ⟨oc,od,.func (y0i "law" "law" (z0e st) (z0d st) (z05 st) .none kV doc pm an cdv ct),osl⟩)
  (c:y0g K cdv "law"=true) (kp:y0e K (.ref f)=true)
  (b:∀(s:Shared) (v:Value),BindsTo s (y0i "law" "law" (z0e st) (z0d st) (z05 st) .none kV doc pm an cdv ct) ⟨[v],[]⟩ [("_law_script",v)])
  (D:∀(f:Addr) (fd:FuncData),Fun K "law" "law" st f fd→∀base:Heap,FnOk l.prog w K mg base CX0 k f fd ["_law_script"] (zdu K)) :
  ∃fd:FuncData,(∀(s:Shared) (v:Value),BindsTo s fd ⟨[v],[]⟩ [("_law_script",v)])∧∀base:Heap,K.In base→base.Ns mainGlobals mg→FnOk l.prog w K mg base CX0 k fa fd ["_law_script"] (zdu K):=by
 have e:=hfa.symm.trans (y65 X G a)
 cases e
 exact⟨_,b,fun base _ _=>D _ _ (z1j lk c kp) base⟩
theorem walk {l:y4h}{q:Program}{loose:List Str}{XP:(Str→Option Value)→Heap→Prop}{YP:World→Heap→Prop}{d:DefRec}{K:Params→y02}(k:Nat)(hn:l.most=some 63)(hdf:d.params.defaults = [])(hr:Room k callerA)
  (hY:∀(w:World) (h:Heap),YP w h→(K w.params).In h)
  (F:∀(w:World) (mg:Str→Option Value) (fa:Addr) (h:Heap),(K w.params).In h→h.Ns mainGlobals mg→mg d.name=some (.ref fa) →
   ∃fd:FuncData,(∀(s:Shared) (u:Value),BindsTo s fd ⟨[u],[]⟩ [("_law_script",u)])∧∀base:Heap,(K w.params).In base→base.Ns mainGlobals mg→FnOk l.prog w (K w.params) mg base CX0 k fa fd ["_law_script"] (zdu (K w.params))) :
  y77 q loose XP YP l.row.toRowW d [] (fun f vs=>y75 f vs) :=
 L2.walk_of (n:=63) (k:=k) (x:="_law_script") (CX:=fun _=>CX0) (sp:=fun w=>zdu (K w.params)) hn (by decide) hdf hr hY F (fun _ _ a ns hl _ hS=>⟨a,ns,rfl,hS,hl,fun _=>rfl⟩) fun _ _ _ _ _ z=>z
end L2.EX
set_option Elab.async false
set_option linter.all false
set_option maxRecDepth 100000
namespace L2.EX
open PySem PySem.Spec PyProof.Rows
theorem zg9 {env:Env}:∀(ns:List (Str×NameKind)) (acc:List (Str×Addr)),(∀y∈ns,y.2 = .free→∃c,env.cells.lookup y.1=some c)→(∀x c,acc.lookup x=some c→env.cells.lookup x=some c) →
  ∃cl:List (Str×Addr),(forIn ns acc (fun (x:Str×NameKind) (r:List (Str×Addr))=>match x with | (name,kind)=>if (kind==NameKind.free)=true then do let c ←cellOf env name; pure (ForInStep.yield ((name,c)::r)) else pure (ForInStep.yield r)):Sem (List (Str×Addr)))=pure cl ∧
   (∀x c,cl.lookup x=some c→env.cells.lookup x=some c)∧(∀x c,acc.lookup x=some c→∃c',cl.lookup x=some c')∧∀y∈ns,y.2 = .free→∃c,cl.lookup y.1=some c
 | [],acc,_,h2=>⟨acc,rfl,h2,fun x c e=>⟨c,e⟩,fun y hy=>nomatch hy⟩
 | (n,k)::r,acc,h1,h2=>by
  have h1':∀y∈r,y.2 = .free→∃c,env.cells.lookup y.1=some c:=fun y hy=>h1 y (y08 _ hy)
  by_cases hk:k = .free
  ·subst hk
   obtain⟨c,hc⟩:=h1 (n,.free) y0d rfl
   have hc':env.cells.lookup n=some c:=hc
   have h2':∀x d,((n,c)::acc).lookup x=some d→env.cells.lookup x=some d:=fun x d e=>by
    rw [y1e] at e
    cases hx:x==n with
    | true =>
     rw [hx] at e
     cases e
     rw [beq_iff_eq.mp hx]
     exact hc'
    | false =>
     rw [hx] at e
     exact h2 x d e
   obtain⟨cl,e,a,b,d⟩:=zg9 r ((n,c)::acc) h1' h2'
   have kp:∀x c',acc.lookup x=some c'→∃c'',((n,c)::acc).lookup x=some c'':=fun x c' q=>by
    rw [y1e]
    cases hx:x==n with
    | true=>exact⟨c,rfl⟩
    | false=>exact⟨c',q⟩
   refine⟨cl,?_,a,fun x c' q=>let ⟨c'',q'⟩:=kp x c' q; b x c'' q',fun y hy hf=>?_⟩
   ·rw [y5l]
    have ec:cellOf env n=pure c:=by unfold cellOf; rw [hc']
    simp only [beq_self_eq_true,if_true,ec,pure_bind]
    exact e
   ·rcases y0k.mp hy with rfl | hy
    ·exact b n c (by rw [y1e]; simp)
    ·exact d y hy hf
  ·have hb:(k==NameKind.free)=false:=by simpa using hk
   obtain⟨cl,e,a,b,d⟩:=zg9 r acc h1' h2
   refine⟨cl,?_,a,b,fun y hy hf=>?_⟩
   ·rw [y5l]
    simp only [hb,y4s,if_false,pure_bind]
    exact e
   ·rcases y0k.mp hy with rfl | hy
    ·exact absurd hf hk
    ·exact d y hy hf
theorem ze1 {scope:Scope}{env:Env}(h:∀y∈scope.names,y.2 = .free→∃c,env.cells.lookup y.1=some c) :
  ∃cl,closureFor scope env=pure cl∧(∀x c,cl.lookup x=some c→env.cells.lookup x=some c)∧∀y∈scope.names,y.2 = .free→∃c,cl.lookup y.1=some c:=by
 obtain⟨cl,e,a,_,d⟩:=zg9 scope.names [] h (fun x c e=>by simp at e)
 refine⟨cl,?_,a,d⟩
 unfold closureFor
 exact(congrArg (· >>= pure) e).trans (pure_bind _ _)
section
variable {prog:Program}{w:World}{A:Around}{R:Result→Shared→Prop}{s:Shared}
abbrev NoE:Value→Shared→Prop:=fun _ _=>False
theorem zhl {elt target iter:Expr}{ifs:List Expr}{scope:Scope}{pos:Pos}{it acc:Value}{env:Env}(J:Nat→Shared→Prop)
  (turn:∀n s,J n s→wpAny (model prog w) A (pyNext it) (fun r s₁=>match r with
   | none=>R (.ok .next) s₁
   | some v=>wpAny (model prog w) A (letOwnedTupleGo target it v) (fun _ s₂=>wpAny (model prog w) A (assign target env v) (fun _ s₃ =>
     wpAny (model prog w) A (forIn ifs true fun c r=>if r=true then do let ok ←isTrue c env (eval c env); pure (ForInStep.yield ok) else pure (ForInStep.yield r)) (fun ok s₄ =>
      if ok=true then wpAny (model prog w) A (eval elt env) (fun x s₅=>wpAny (model prog w) A (call (.builtin "list.append") [acc,x]) (fun _ s₆=>∃m,m<n∧J m s₆) NoE s₅) NoE s₄
      else ∃m,m<n∧J m s₄) NoE s₃) NoE s₂) NoE s₁) NoE s)
  (n:Nat) (h:J n s):codeAny (model prog w) A (.compLoop (.ListComp elt [⟨target,iter,ifs,0⟩] scope pos) 0 it acc env) R s:=by
 refine codeAny_loop rfl J (fun n s hJ=>?_) n h
 refine wpAny_noted (m:=compTurn (.ListComp elt [⟨target,iter,ifs,0⟩] scope pos) 0 it acc env) ?_
 rw [compTurn_list]
 refine wpAny_bind (wpAny_standAt (wpAny_bind (wpAny_mono (turn n s hJ) (fun r s₁ h₁=>?_) fun _ _ z=>z.elim)))
 cases r with
 | none=>exact wpAny_pure h₁
 | some v =>
  refine wpAny_bind (wpAny_mono h₁ (fun _ s₂ h₂=>?_) fun _ _ z=>z.elim)
  refine wpAny_bind (wpAny_mono h₂ (fun _ s₃ h₃=>?_) fun _ _ z=>z.elim)
  refine wpAny_bind (wpAny_mono h₃ (fun ok s₄ h₄=>?_) fun _ _ z=>z.elim)
  cases ok with
  | false=>exact wpAny_pure ⟨rfl,h₄⟩
  | true =>
   refine wpAny_bind (wpAny_bind (wpAny_mono h₄ (fun x s₅ h₅=>?_) fun _ _ z=>z.elim))
   exact wpAny_bind (wpAny_mono h₅ (fun _ s₆ h₆=>wpAny_pure (wpAny_pure ⟨rfl,h₆⟩)) fun _ _ z=>z.elim)
end
theorem z6g {env:Env}{x:Str}{k':NameKind}:∀{names:List (Str×NameKind)},(names.map fun (n,k)=>if (k==NameKind.free&&env.scope.kind == .function&&env.kindOf n==some .cell) then (n,NameKind.cell) else (n,k)).lookup x=some k' →
  ∃k,names.lookup x=some k∧(k'=k∨(k = .free∧k' = .cell))
 | [],h=>nomatch h
 | (n,k)::r,h=>by
  have ih:=@z6g env x k' r
  rw [y0m] at h
  cases hx:x==n with
  | true =>
   refine⟨k,by simp [y1e,hx],?_⟩
   by_cases hc:(k==NameKind.free&&env.scope.kind == .function&&env.kindOf n==some .cell)=true
   ·have h':some NameKind.cell=some k':=by simpa [hc,y1e,hx] using h
    rw [y1d,y1d] at hc
    exact .inr ⟨beq_iff_eq.mp hc.1.1,(y14 h').symm⟩
   ·have h':some k=some k':=by simpa [hc,y1e,hx] using h
    exact .inl (y14 h').symm
  | false =>
   have h':(r.map fun (n,k)=>if (k==NameKind.free&&env.scope.kind == .function&&env.kindOf n==some .cell) then (n,NameKind.cell) else (n,k)).lookup x=some k':=by
    by_cases hc:(k==NameKind.free&&env.scope.kind == .function&&env.kindOf n==some .cell)=true
    ·simpa [hc,y1e,hx] using h
    ·simpa [hc,y1e,hx] using h
   obtain⟨k1,e1,e2⟩:=ih h'
   exact⟨k1,by simp [y1e,hx,e1],e2⟩
theorem zam {env:Env}{x:Str}{names:List (Str×NameKind)}(h:names.lookup x=some .free) :
  (names.map fun (n,k)=>if (k==NameKind.free&&env.scope.kind == .function&&env.kindOf n==some .cell) then (n,NameKind.cell) else (n,k)).lookup x=some .cell ∨
  (names.map fun (n,k)=>if (k==NameKind.free&&env.scope.kind == .function&&env.kindOf n==some .cell) then (n,NameKind.cell) else (n,k)).lookup x=some .free:=by
 induction names with
 | nil=>exact nomatch h
 | cons p r ih =>
  obtain⟨n,k⟩:=p
  rw [y0m]
  cases hx:x==n with
  | true =>
   have hk:k = .free:=by simpa [y1e,hx] using h
   subst hk
   have go:∀c:Bool,(((if c=true then (n,NameKind.cell) else (n,NameKind.free))::(r.map fun (n,k)=>if (k==NameKind.free&&env.scope.kind == .function&&env.kindOf n==some .cell) then (n,NameKind.cell) else (n,k))).lookup x=some .cell) ∨
     (((if c=true then (n,NameKind.cell) else (n,NameKind.free))::(r.map fun (n,k)=>if (k==NameKind.free&&env.scope.kind == .function&&env.kindOf n==some .cell) then (n,NameKind.cell) else (n,k))).lookup x=some .free):=fun c=>by
    cases c
    ·right; simp [y1e,hx]
    ·left; simp [y1e,hx]
   exact go _
  | false =>
   have ih':=ih (by simpa [y1e,hx] using h)
   by_cases hc:(k==NameKind.free&&env.scope.kind == .function&&env.kindOf n==some .cell)=true
   ·simpa [hc,y1e,hx] using ih'
   ·simpa [hc,y1e,hx] using ih'
structure CC where
 cl:List (Str×Addr)
 C:Addr
 s:Shared
 H:Hp
 ex:List Addr
def z0q (X:Cx)(scope:Scope)(N:List Str)(c:CC):Cx where
 prog:=X.prog
 w:=X.w
 K:=X.K
 mg:=X.mg
 base:=X.base
 A:=X.A
 N:=N
 s₀:=c.s
 H₀:=c.H
 env:=compEnvC scope c.cl c.C X.env
 outer:=X.stack
 stack:=X.stack
 ex:=c.ex
 fn:=fun _=>false
 calm:=X.calm
 pn:=[]
 xe:=fun _ _=>False
def z6r (J:It)(g:TG)(tt:TT)(te:TE)(σ0:St)(Q:VK)(H:Hp):Prop:=∃W:Nat→Nat→List V→Hp→Prop,(∃m,W 0 m [] H)∧∀i m ys H,W i m ys H →
 (J.stop i H∧ys.length≤sizeLine∧∀l,H l=none→Q (.ref l) (upd H l (.lst ys))) ∨
 (J.go i H∧ys.length<sizeLine∧∀x H',J.yld i H x H'→g x σ0 H' fun σ2 H2=>tt σ2 H2 fun b H3=>if b=true then te σ2 H3 fun y H4=>∃m',m'<m∧W (i+1) m' (ys ++ [y]) H4 else ∃m',m'<m∧W (i+1) m' ys H3)
def z9h (wi:TI)(n:Nat)(fr:List Nat)(g:TG)(tt:TT)(te:TE)(σ:St)(H:Hp)(Q:VK):Prop:=wi σ H fun J H1=>z6r J g tt te (y06 n none++fr.map (sg σ)) Q H1
def FreeIn (env:Env):List Str→Prop
 | []=>True
 | x::r=>(env.kindOf x=some .cell∨env.kindOf x=some .free)∧FreeIn env r
theorem FreeIn.mem {env:Env}{x:Str}:∀{l:List Str},FreeIn env l→x∈l→env.kindOf x=some .cell∨env.kindOf x=some .free
 | _::_,h,hx=>by
  rcases y0k.mp hx with rfl | hx
  ·exact h.1
  ·exact FreeIn.mem h.2 hx
theorem zmd {X:Cx}{pins:List (Addr×Obj)}{σ:St}{H:Hp}{s:Shared}{l:Addr}{o:HO}(I:Inv X pins σ H s)(hn:H l=none)(h1:X.s₀.heap.objs.size≤l)(hL:l≠X.env.locals)(h2:∀x c,X.env.cells.lookup x=some c→c≠l)(h3:∀p∈X.pn++pins,p.1≠l)
  (new:ObjOk X.prog X.w (upd H l o) s.heap l o):Inv X pins σ (upd H l o) s:=by
 have old:∀b u,H b=some u→upd H l o b=some u:=fun b u e=>by rw [z0a (z08 e hn)]; exact e
 refine⟨I.ok,I.os,I.bare,⟨I.base.keep,I.base.slot,fun b o' e n hx=>?_,I.base.there,fun b xs e=>old b _ (I.base.tups b xs e),fun b o' u e=>old b _ (I.base.frzs b o' u e),fun b ps e=>?_⟩,I.loc,I.cell,?_,fun x c e=>?_,fun p hp=>?_,fun b u e=>?_,I.len⟩
 ·rw [z0a (y0x (y0p (Heap.lt_size e) h1))]
  exact I.base.free b o' e n hx
 ·obtain⟨more,q⟩:=I.base.tbls b ps e
  exact⟨more,old b _ q⟩
 ·rw [z0a (Ne.symm hL)]; exact I.free
 ·rw [z0a (h2 x c e)]; exact I.freeC x c e
 ·obtain⟨e,n,r⟩:=I.pin p hp
  exact⟨e,by rw [z0a (h3 p hp)]; exact n,r⟩
 ·by_cases hb:b=l
  ·subst hb; rw [z01] at e; cases e; exact new
  ·rw [z0a hb] at e
   exact(I.hok b u e).stay (fun _ _ _ q=>q) (fun c q=>old c _ q) fun c xs q=>old c _ q
def GOk (n:Nat)(g:TG):Prop:=∀x σ H Q,g x σ H Q→g x σ H fun σ2 H2=>(∀i,n≤i→σ2[i]? = σ[i]?)∧Q σ2 H2
theorem z75 {n i:Nat}(h:i<n):GOk n (z4f i):=fun x σ H Q q=>⟨fun j hj=>y16 (by omega),q⟩
theorem zcm {n i j:Nat}{K:y02}(h1:i<n)(h2:j<n):GOk n (xT2 K i j):=fun x σ H Q q=>by
 unfold xT2 at q ⊢
 split at q
 ·obtain⟨u,v,q1,q2⟩:=q
  exact⟨u,v,q1,fun k hk=>by rw [y16 (by omega),y16 (by omega)],q2⟩
 ·exact q.elim
section
variable {X:Cx}
theorem zi0 {scope:Scope}{N:List Str}{fr:List Nat}{n:Nat}{cl:List (Str×Addr)}{pins:List (Addr×Obj)}{σ:St}{H:Hp}{s:Shared}{C:Addr}{h₁:Heap}{m:Str→Option Value}{fp:List Addr}{tk:Nat}
  (I:Inv X pins σ H s) (hf:∀b∈fp,zhe X pins H b) (hfl:∀b∈fp,b<s.heap.objs.size) (hC:s.heap.objs.size≤C) (old:∀b o,s.heap.get? b=some o→h₁.get? b=some o) (hns:h₁.Ns C m)
  (hn:N.length=n+fr.length) (hfr:fr.map (fun i=>X.N[i]?)=(N.drop n).map some) (hsc:∀x∈N.drop n,scope.names.lookup x=some .free)
  (hkind:scope.kind = .function) (hcell:∀y∈scope.names,y.2 ≠ .cell) (hF:FreeIn X.env ((scope.names.filter fun y=>y.2 == .free).map (·.1)))
  (cl1:∀x c,cl.lookup x=some c→X.env.cells.lookup x=some c) (cl2:∀y∈scope.names,y.2 = .free→∃c,cl.lookup y.1=some c) :
  Inv (z0q X scope N ⟨cl,C,s,H,fp⟩) (X.pn++pins) (y06 n none++fr.map (sg σ)) H { s with heap:=h₁,toks:=tk }:=by
 have freeAt:∀x,scope.names.lookup x=some .free→X.env.kindOf x=some .cell∨X.env.kindOf x=some .free:=fun x e =>
  hF.mem (y22.mpr ⟨(x,.free),y15.mpr ⟨y1y e,rfl⟩,rfl⟩)
 have kinds:∀x,((relabel scope X.env).names.lookup x=some .cell∨(relabel scope X.env).names.lookup x=some .free)→scope.names.lookup x=some .free:=fun x hx=>by
  rcases hx with hx | hx
  ·obtain⟨k,e,z⟩:=z6g (env:=X.env) hx
   rcases z with z | ⟨z,_⟩
   ·subst z; exact absurd rfl (hcell _ (y1y e))
   ·subst z; exact e
  ·obtain⟨k,e,z⟩:=z6g (env:=X.env) hx
   rcases z with z | ⟨z,z'⟩
   ·subst z; exact e
   ·cases z'
 have fsX:∀b,b≠X.env.locals→b ∉ X.fs→b ∉ frs X.stack:=fun b h1 h2 z=>(y0k.mp (I.stkSub b z)).elim h1 h2
 refine⟨⟨I.ok.mod,hkind,I.ok.glob,I.ok.blt,hC,fun x y c h1 h2=>I.ok.inj x y c (cl1 x c h1) (cl1 y c h2),fun x hx=>?_,fun x c hx=>absurd hx (by simp [z0q]),I.ok.hd,I.ok.frames,.inl rfl,fun b hb=>⟨?_,fun x c e=>(hf b hb).2.2.2.2.1 x c (cl1 x c e)⟩,I.bs,y19 I.ok.bsz I.sz,fun b o e hb=>?_,fun b hb=>fsX b (hf b hb).2.1 (hf b hb).2.2.1,I.stack,I.stkFree⟩,
  rfl,I.bare,Un.kept old,⟨m,hns,fun i x v e1 e2 e3=>?_⟩,fun x c e=>?_,I.hok.fresh hC,fun x c e=>I.freeC x c (cl1 x c e),fun p hp=>?_,I.hok.kept old,?_⟩
 ·obtain⟨c,e⟩:=cl2 (x,.free) (y1y (kinds x hx)) rfl
  exact⟨c,e⟩
 ·exact y0x (y0p (hfl b hb) hC)
 ·rcases (hf b hb).2.2.2.1 with z | z
  ·exact I.ok.noex b o e z
  ·exact absurd (y0p (Heap.lt_size e) (y19 I.ok.bsz z)) (y2k _)
 ·-- a slot of the block's frame that is known: one of the free names
  have hi:n≤i:=by
   rcases y3q i n with z | z
   ·rw [y0l (by simpa using z),y1i,if_pos z] at e2
    cases e2
   ·exact z
  rw [y0s (by simpa using hi),y1z,y0b] at e2
  obtain⟨j,ej,e2'⟩:=y5g.mp e2
  have ex:X.N[j]?=some x:=by
   have q:=congrArg (fun l=>l[i - n]?) hfr
   simp only [y0b,ej,y6t,y4t] at q
   have e1':N[n+(i - n)]?=some x:=by rw [show n+(i - n)=i by omega]; exact e1
   rw [e1'] at q
   simpa using q
  have hx:scope.names.lookup x=some .free:=hsc x (by
   have e1':N[n+(i - n)]?=some x:=by rw [show n+(i - n)=i by omega]; exact e1
   rw [←y4t] at e1'
   exact y03 e1')
  obtain⟨m',_,hl⟩:=I.loc
  have hv:Vis X.env.scope x:=by
   rcases freeAt x hx with z | z
   ·exact .inr (.inl z)
   ·exact .inr (.inr z)
  obtain⟨u,r,lk⟩:=hl j x v ex (zlp e2') hv
  refine⟨u,r,.inr ⟨?_,?_⟩⟩
  ·rcases zam (env:=X.env) hx with z | z
   ·exact .inl z
   ·exact .inr z
  ·obtain⟨c,ec⟩:=cl2 (x,.free) (y1y hx) rfl
   rcases lk with ⟨z,_⟩ | ⟨_,c',ec',o,ho,hd⟩
   ·rcases freeAt x hx with y | y
    ·rw [y] at z; cases z
    ·rw [y] at z; cases z
   ·have q:=cl1 x c ec
    rw [ec'] at q; cases q
    exact⟨c,ec,o,old _ _ ho,hd⟩
 ·obtain⟨v,o,ho,hd⟩:=I.cell x c (cl1 x c e)
  exact⟨v,o,old _ _ ho,hd⟩
 ·have hp':p∈X.pn++pins:=by simpa [z0q] using hp
  obtain⟨e,z,ne,nf,d⟩:=I.pin p hp'
  exact⟨old _ _ e,z,y0x (y0p (Heap.lt_size e) hC),fsX _ ne nf,d⟩
 ·show _=N.length
  rw [y09,y1z,y04,hn]
end
end L2.EX
set_option Elab.async false
set_option linter.all false
set_option maxRecDepth 100000
namespace L2.EX
open PySem PySem.Spec PyProof.Rows
section
variable {X:Cx}
theorem zah {elt tg iter:Expr}{ifs:List Expr}{scope:Scope}{pos pos1:Pos}{N:List Str}{fr:List Nat}{wi:TI}{g:TG}{tt:TT}{te:TE}{use:Option (Value→Sem Unit)}{QQ:Value→Shared→Prop}{pins:List (Addr×Obj)}{σ:St}{H:Hp}{s:Shared}{Q:VK}(n:Nat)
  (I:Inv X pins σ H s) (h:z9h wi n fr g tt te σ H Q)
  (hend:∀(s6:Shared) (H6:Hp) (l C:Addr) (oC:Obj) (mC:Str→Option Value),Inv X pins σ H6 s6→Q (.ref l) H6→s6.heap.get? C=some oC→LCg.NsObj oC mC→zhe X pins H6 C→compPost (model X.prog X.w) X.A X.xe use QQ (.ref l) C (.ok .next) s6)
  (hi:PI X tg iter wi) (hg:∀c:CC,PG (z0q X scope N c) tg g) (hgk:GOk n g)
  (ht:∀(c:CC) (pins:List (Addr×Obj)) (s:Shared) (σ:St) (H:Hp) (Q:Bool→Hp→Prop),Inv (z0q X scope N c) pins σ H s→tt σ H Q →
   wpAny (model X.prog X.w) X.A (forIn ifs true fun c' r=>if r=true then do let ok ←isTrue c' (compEnvC scope c.cl c.C X.env) (eval c' (compEnvC scope c.cl c.C X.env)); pure (ForInStep.yield ok) else pure (ForInStep.yield r)) (TP (z0q X scope N c) pins σ Q) NoE s)
  (he:∀c:CC,PE (z0q X scope N c) elt te) (hn:N.length=n+fr.length)
  (hfr:fr.map (fun i=>X.N[i]?)=(N.drop n).map some) (hsc:∀x∈N.drop n,scope.names.lookup x=some .free)
  (hF:FreeIn X.env ((scope.names.filter fun y=>y.2 == .free).map (·.1)))
  (hkind:scope.kind = .function) (hcell:∀y∈scope.names,y.2 ≠ .cell) (hnames:∀y∈scope.names,y.2 = .local→scope.names.lookup y.1=some .local) (hcalm:X.calm=true)
  (hs:∀x,foldedSetIterable iter X.env x=pure x):wpAny (model X.prog X.w) X.A (comprehension (.ListComp elt [⟨tg,iter,ifs,0⟩] scope pos) scope X.env pos1 (newList []) false (eval iter X.env) use) QQ X.xe s:=by
 have hcl0:∀y∈scope.names,y.2 = .free→∃c,X.env.cells.lookup y.1=some c:=fun y hy hf=>I.ok.has y.1 (hF.mem (y22.mpr ⟨y,y15.mpr ⟨hy,by rw [hf]; rfl⟩,rfl⟩))
 obtain⟨cl,ecl,cl1,cl2⟩:=ze1 hcl0
 refine wpAny_comprehension_free (use:=use) rfl hs ecl hkind hnames (thn (hi pins s σ H _ I h) fun v s1 h1=>thn h1 fun itv s2 h2=>?_)
 obtain⟨it,fp,tn,J,H2,rfl,I2,T,st2,f2,W,⟨m0,w0⟩,turn⟩:=h2
 have hfl:∀b∈fp,b<s2.heap.objs.size:=fun b hb=>let ⟨o,e,_⟩:=T.obj _ _ st2 b hb; Heap.lt_size e
 refine wpAny_newObj_type (wpAny_newFunctionEnv hcell (by intro y hy; simp at hy) (fun h₁ hns₁ hsb₁=>?_) hkind)
 dsimp only at hns₁ hsb₁ ⊢
 generalize hH2:s2.heap.push { cls:=.type "list",dict:=none,data:=.seq ([]:List Value).toArray }=HA at hns₁ hsb₁ ⊢
 have hC:HA.objs.size=s2.heap.objs.size+1:=by rw [←hH2,Heap.size_push]
 have hlC:s2.heap.objs.size≠HA.objs.size:=by rw [hC]; exact y0x (y2z _)
 have hCle:s2.heap.objs.size≤HA.objs.size:=by rw [hC]; exact y58 _
 have old:∀b o,s2.heap.get? b=some o→h₁.get? b=some o:=fun b o e =>
  hsb₁.extBut b o (by rw [hC]; exact y0x (y50 (Heap.lt_size e))) (Heap.get?_push_of_some _ (hH2▸Heap.get?_push_of_some _ e))
 have hacc:h₁.PlainList s2.heap.objs.size #[]:=⟨_,hsb₁.extBut _ _ hlC (Heap.get?_push_of_some _ (hH2▸Heap.get?_push_size _ rfl))⟩
 generalize hl:s2.heap.objs.size=l at hacc hlC
 generalize hCe:HA.objs.size=C at hns₁ hsb₁ hlC hCle
 have hCl:s2.heap.objs.size≤C:=hCle
 have hll:s2.heap.objs.size≤l:=y6h hl
 let cc:CC:=⟨cl,C,s2,H2,fp⟩
 let σ0:St:=y06 n none++fr.map (sg σ)
 have I3:Inv (z0q X scope N cc) (X.pn++pins) σ0 H2 { s2 with heap:=h₁,toks:=s2.toks+([]:List (Str×Value)).length }:=zi0 I2 f2 hfl hCl old hns₁ hn hfr hsc hkind hcell hF cl1 cl2
 have lfp:l ∉ fp:=fun z=>absurd (hfl l z) (Nat.not_lt.mpr hll)
 have lpin:∀p∈X.pn++pins,p.1≠l:=fun p hp=>by
  rw [←hl]; exact y0x (Heap.lt_size (I2.pin p hp).1)
 have lcell:∀x c,cl.lookup x=some c→c≠l:=fun x c e=>by
  obtain⟨v,q⟩:=I2.cell x c (cl1 x c e)
  rw [←hl]; exact y0x q.lt
 have lfs:l ∉ frs X.stack:=fun z=>by
  rcases y0k.mp (I2.stkSub l z) with z | z
  ·rw [z] at hll; exact absurd I2.lt (Nat.not_lt.mpr hll)
  ·exact I2.nofs hll z
 have fsX:∀b∈fp,b ∉ frs X.stack:=fun b hb z=>(y0k.mp (I2.stkSub b z)).elim (f2 b hb).2.1 (f2 b hb).2.2.1
 have stat:∀{H':Hp} {more:List (Addr×Obj)},(∀b∈fp,H' b=none)→(∀p∈more,p.1=l)→∀b∈fp,zhe (z0q X scope N cc) (X.pn++pins++more) H' b:=fun {H' more} hz hm b hb =>
  ⟨hz b hb,y0x (y0p (hfl b hb) hCl),fsX b hb,.inl hb,fun x c e=>(f2 b hb).2.2.2.2.1 x c (cl1 x c e),fun p hp=>by
   have hp':p∈X.pn++pins∨p∈more:=by simpa [z0q,y33,or_assoc] using hp
   rcases hp' with z | z
   ·exact(f2 b hb).2.2.2.2.2 p z
   ·rw [hm p z]; exact fun q=>lfp (q▸hb)⟩
 have pinL:∀{H':Hp} {s':Shared} {σ':St} {o:Obj},Inv (z0q X scope N cc) (X.pn++pins) σ' H' s'→s'.heap.get? l=some o→(∀v,o.data ≠ .cell v)→H' l=none→Inv (z0q X scope N cc) (X.pn++pins ++ [(l,o)]) σ' H' s':=fun {H' s' σ' o} I' e d hz =>
  I'.pins_of fun p hp=>(y0u.mp hp).elim (fun z=>I'.pin p (y0z _ z)) fun z=>by
   have q:p=(l,o):=y0a.mp z
   subst q
   exact⟨e,hz,hlC,lfs,d⟩
 have loop:∀s₃:Shared,s₃ = { s2 with heap:=h₁,toks:=s2.toks+([]:List (Str×Value)).length } →
   codeAny (model X.prog X.w) X.A (.compLoop (.ListComp elt [⟨tg,iter,ifs,0⟩] scope pos) 0 (.ref it) (.ref l) (compEnvC scope cl C X.env)) (compPost (model X.prog X.w) X.A X.xe use QQ (.ref l) C) s₃:=by
  rintro s₃ rfl
  refine zhl (fun m s'=>∃i ys H',Inv (z0q X scope N cc) (X.pn++pins) σ0 H' s'∧tn i s'.heap∧(∀b∈fp,H' b=none)∧W i m ys H'∧(∃its:List Value,Vals ys its∧s'.heap.PlainList l its.toArray)∧H' l=none) ?_ m0
   ⟨0,[],H2,I3,T.keep _ _ _ st2 fun b hb o e=>old b o e,fun b hb=>(f2 b hb).1,w0,⟨[],.nil,hacc⟩,by rw [←hl]; exact I2.hok.fresh (y07 _)⟩
  rintro m s5 ⟨i,ys,H5,I5,st5,fr5,w5,⟨its,rv,n5,hpl⟩,hl5⟩
  have I5':=pinL I5 hpl (fun v z=>by cases z) hl5
  have f5:=stat (more:=[(l,({ cls:=.type "list",data:=.seq its.toArray n5 }:Obj))]) fr5 (fun p hp=>congrArg Prod.fst (y0a.mp hp))
  rcases turn i m ys H5 w5 with ⟨stop,hz,q⟩ | ⟨go,hz,step⟩
  ·refine thn (T.done (z0q X scope N cc) rfl rfl rfl hcalm i _ s5 σ0 H5 NoE I5' f5 st5 stop) fun r s6 hq=>?_
   obtain⟨rfl,I6⟩:=hq
   have e6:s6.heap.get? l=some ({ cls:=.type "list",data:=.seq its.toArray n5 }:Obj):=(I6.pin (l,({ cls:=.type "list",data:=.seq its.toArray n5 }:Obj)) (y0z _ (y0z _ (y0a.mpr rfl)))).1
   obtain⟨mC,hnC,_⟩:=I6.loc
   have IA:Inv X pins σ H5 s6:=I2.call' (ch:=fp) I6.os I6.base I6.hok I6.bare fun b hb=>⟨(f2 b hb).2.2.2.1,(f2 b hb).2.1,(f2 b hb).2.2.2.2.1,(f2 b hb).2.2.2.2.2⟩
   have cl':∀x c,X.env.cells.lookup x=some c→c≠l:=fun x c e=>by
    obtain⟨v,z⟩:=I2.cell x c e
    rw [←hl]; exact y0x z.lt
   have IB:Inv X pins σ (upd H5 l (.lst ys)) s6:=zmd IA hl5 (by rw [←hl]; exact I2.sz) (by rw [←hl]; exact y39 I2.lt) cl' lpin ⟨hz,its,n5,rv,e6⟩
   obtain⟨oC,eC,nC⟩:=LCg.ns_obj hnC
   refine hend s6 _ l C oC mC IB (q l hl5) eC nC (I2.fpOk hCl ?_)
   rw [z0a (Ne.symm hlC)]
   exact I6.free
  ·refine thn (T.item (z0q X scope N cc) rfl rfl rfl hcalm i _ s5 σ0 H5 NoE I5' f5 st5 go) fun r s6 hq=>?_
   obtain⟨u,rfl,hq⟩:=hq
   refine thn hq fun _ s7 hq7=>?_
   obtain⟨x,H7,I7,r7,y7,st7,fr7⟩:=hq7
   have I7':=I7.pinned (stat (more:=[(l,({ cls:=.type "list",data:=.seq its.toArray n5 }:Obj))]) fr7 (fun p hp=>congrArg Prod.fst (y0a.mp hp))) (T.obj _ _ st7)
   refine thn (hg cc _ s7 σ0 H7 x u _ I7' r7 (hgk x σ0 H7 _ (step x H7 y7))) fun _ s8 hq8=>?_
   obtain⟨σ8,H8,I8,k8,q8⟩:=hq8
   have back:∀{H':Hp} {s':Shared},Inv (z0q X scope N cc) (X.pn++pins ++ [(l,({ cls:=.type "list",data:=.seq its.toArray n5 }:Obj))]++za8 fp s7.heap) σ8 H' s'→Inv (z0q X scope N cc) (X.pn++pins) σ0 H' s'∧tn (i+1) s'.heap∧(∀b∈fp,H' b=none)∧s'.heap.get? l=some ({ cls:=.type "list",data:=.seq its.toArray n5 }:Obj)∧H' l=none:=fun {H' s'} I'=>by
    have pf:∀b∈fp,∀o,s7.heap.get? b=some o→s'.heap.get? b=some o∧H' b=none:=fun b hb o e =>
     let z:=I'.pin (b,o) (y0z _ (y0z _ (z69 hb e)))
     ⟨z.1,z.2.1⟩
    have pl:=I'.pin (l,({ cls:=.type "list",data:=.seq its.toArray n5 }:Obj)) (y0z _ (y3m _ (y0z _ (y0a.mpr rfl))))
    refine⟨(I'.unpinned.unpinned).weak ?_ ?_,T.keep _ _ _ st7 fun b hb o e=>(pf b hb o e).1,fun b hb=>?_,pl.1,pl.2.1⟩
    ·rw [I3.len,I'.len]
    ·intro j v ej
     have hj:n≤j:=by
      rcases y3q j n with z | z
      ·have ej':(y06 n none++fr.map (sg σ))[j]?=some (some v):=ej
       rw [y0l (by simpa using z),y1i,if_pos z] at ej'
       cases ej'
      ·exact z
     rw [k8 j hj]; exact ej
    ·obtain⟨o,e,_⟩:=T.obj _ _ st7 b hb
     exact(pf b hb o e).2
   refine thn (ht cc _ s8 σ8 H8 _ I8 q8) fun ok s9 hq9=>?_
   obtain⟨H9,I9,q9⟩:=hq9
   cases ok with
   | false =>
    obtain⟨m',hm,w9⟩:=q9
    obtain⟨b1,b2,b3,b4,b5⟩:=back I9
    exact⟨m',hm,i+1,ys,H9,b1,b2,b3,w9,⟨its,rv,n5,b4⟩,b5⟩
   | true =>
    refine thn (he cc _ s9 σ8 H9 _ I9 q9) fun y sA hqA=>?_
    obtain⟨yv,HA',IA,rA,m',hm,wA⟩:=hqA
    obtain⟨b1,b2,b3,b4,b5⟩:=back IA
    refine wpAny_list_append_plain (items:=its.toArray) ⟨n5,b4⟩ (fun h' hp' hsb=>?_) (by have:=rv.length; rw [y0q]; omega)
    refine⟨m',hm,i+1,ys ++ [yv],HA',b1.turned (t':=sA.toks) (it:=l) (fun b o hb e=>hsb.extBut b o hb e) b5 hlC (.inr hll) lcell (fun p hp=>lpin p (by simpa [z0q] using hp)),?_,b3,wA,⟨its ++ [y],rv.append (.cons rA .nil),by simpa using hp'⟩,b5⟩
    exact T.keep _ _ _ b2 fun b hb o e=>hsb.extBut b o (fun z=>lfp (z▸hb)) e
 exact codeAny_compStart_list (loop _ rfl) (T.self _ 0 _ _ _ (T.keep _ _ _ st2 fun b hb o e=>old b o e) (loop _ rfl))
theorem zct {elt tg iter:Expr}{ifs:List Expr}{scope:Scope}{pos:Pos}{N:List Str}{fr:List Nat}{wi:TI}{g:TG}{tt:TT}{te:TE}(n:Nat)
  (hi:PI X tg iter wi) (hg:∀c:CC,PG (z0q X scope N c) tg g) (hgk:GOk n g)
  (ht:∀(c:CC) (pins:List (Addr×Obj)) (s:Shared) (σ:St) (H:Hp) (Q:Bool→Hp→Prop),Inv (z0q X scope N c) pins σ H s→tt σ H Q →
   wpAny (model X.prog X.w) X.A (forIn ifs true fun c' r=>if r=true then do let ok ←isTrue c' (compEnvC scope c.cl c.C X.env) (eval c' (compEnvC scope c.cl c.C X.env)); pure (ForInStep.yield ok) else pure (ForInStep.yield r)) (TP (z0q X scope N c) pins σ Q) NoE s)
  (he:∀c:CC,PE (z0q X scope N c) elt te) (hn:N.length=n+fr.length)
  (hfr:fr.map (fun i=>X.N[i]?)=(N.drop n).map some) (hsc:∀x∈N.drop n,scope.names.lookup x=some .free)
  (hF:FreeIn X.env ((scope.names.filter fun y=>y.2 == .free).map (·.1)))
  (hkind:scope.kind = .function) (hcell:∀y∈scope.names,y.2 ≠ .cell) (hnames:∀y∈scope.names,y.2 = .local→scope.names.lookup y.1=some .local) (hcalm:X.calm=true)
  (hs:∀x,foldedSetIterable iter X.env x=pure x):PE X (.ListComp elt [⟨tg,iter,ifs,0⟩] scope pos) (z9h wi n fr g tt te):=by
 intro pins s σ H Q I h
 rw [eval_ListComp]
 refine zah (use:=none) n I h (fun s6 H6 l C oC mC I6 q eC nC fC=>?_) hi hg hgk ht he hn hfr hsc hF hkind hcell hnames hcalm hs
 refine⟨mC,nC.ns eC,fun h' hsb=>⟨.ref l,H6,?_,rfl,q⟩⟩
 exact I6.turned (t':=s6.toks) (it:=C) (fun b o hb e=>hsb.extBut b o hb e) fC.1 fC.2.1 fC.2.2.2.1 fC.2.2.2.2.1 fC.2.2.2.2.2
theorem zd3 {elt tg iter:Expr}{ifs:List Expr}{scope:Scope}{pos spos py:Pos}{y:Str}{i:Nat}{N:List Str}{fr:List Nat}{wi:TI}{g:TG}{tt:TT}{te:TE}(n:Nat)
  (hN:X.N.Nodup) (hy:X.N[i]?=some y) (hly:X.env.scope.names.lookup y=some .local) (hsw:swapsWith (.ListComp elt [⟨tg,iter,ifs,0⟩] scope pos) (some (.Name y py)) spos.line X.env=pure true)
  (hi:PI X tg iter wi) (hg:∀c:CC,PG (z0q X scope N c) tg g) (hgk:GOk n g)
  (ht:∀(c:CC) (pins:List (Addr×Obj)) (s:Shared) (σ:St) (H:Hp) (Q:Bool→Hp→Prop),Inv (z0q X scope N c) pins σ H s→tt σ H Q →
   wpAny (model X.prog X.w) X.A (forIn ifs true fun c' r=>if r=true then do let ok ←isTrue c' (compEnvC scope c.cl c.C X.env) (eval c' (compEnvC scope c.cl c.C X.env)); pure (ForInStep.yield ok) else pure (ForInStep.yield r)) (TP (z0q X scope N c) pins σ Q) NoE s)
  (he:∀c:CC,PE (z0q X scope N c) elt te) (hn:N.length=n+fr.length)
  (hfr:fr.map (fun i=>X.N[i]?)=(N.drop n).map some) (hsc:∀x∈N.drop n,scope.names.lookup x=some .free)
  (hF:FreeIn X.env ((scope.names.filter fun y=>y.2 == .free).map (·.1)))
  (hkind:scope.kind = .function) (hcell:∀y∈scope.names,y.2 ≠ .cell) (hnames:∀y∈scope.names,y.2 = .local→scope.names.lookup y.1=some .local) (hcalm:X.calm=true)
  (hs:∀x,foldedSetIterable iter X.env x=pure x):PS X (.Assign [.Name y py] (.ListComp elt [⟨tg,iter,ifs,0⟩] scope pos) spos) (zjj (z9h wi n fr g tt te) (z4f i)):=by
 intro pins s σ H D I h
 rw [exec_Assign_Name_used _ _ _ _ hsw]
 refine wpAny_bind (wpAny_standAt (wpAny_bind ?_))
 show wpAny _ X.A (do let _ ←comprehension (.ListComp elt [⟨tg,iter,ifs,0⟩] scope pos) scope X.env _ (newList []) false (eval iter X.env) (some (assign (.Name y py) X.env))) _ _ s
 refine wpAny_bind (thn (zah (QQ:=fun _ s'=>SP X pins D .next s') (use:=some (assign (.Name y py) X.env)) n I h (fun s6 H6 l C oC mC I6 q eC nC fC=>?_) hi hg hgk ht he hn hfr hsc hF hkind hcell hnames hcalm hs) fun _ s' hq=>wpAny_pure (wpAny_pure hq))
 show wpAny _ X.A (assign (.Name y py) X.env (.ref l)) _ _ s6
 have dC:∀v,oC.data ≠ .cell v:=fun v z=>by
  obtain⟨es,ep,hd,_⟩:=nC
  rw [hd] at z; cases z
 have I7:Inv X (pins ++ [(C,oC)]) σ H6 s6:=I6.pins_of fun p hp=>(y0u.mp hp).elim (fun z=>I6.pin p (y0z _ z)) fun z=>by
  have e:p=(C,oC):=y0a.mp z
  subst e
  exact⟨eC,fC.1,fC.2.1,fC.2.2.1,dC⟩
 refine wpAny_assign_Name (z5g I7 hN hy (.inl hly) (v:=.ref l) rfl (fun s7 I8=>?_) (.inr hly))
 have e8:s7.heap.get? C=some oC:=(I8.pin (C,oC) (y0z _ (y0z _ (y0a.mpr rfl)))).1
 refine⟨mC,nC.ns e8,fun h' hsb=>⟨_,H6,?_,q⟩⟩
 exact I8.unpinned.turned (t':=s7.toks) (it:=C) (fun b o hb e=>hsb.extBut b o hb e) fC.1 fC.2.1 fC.2.2.2.1 fC.2.2.2.2.1 fC.2.2.2.2.2
def zm1:TT:=fun _ H Q=>Q true H
theorem z3o {elt tg iter:Expr}{scope:Scope}{pos:Pos}{N:List Str}{fr:List Nat}{wi:TI}{g:TG}{te:TE}(n:Nat)
  (hi:PI X tg iter wi) (hg:∀c:CC,N.Nodup→PG (z0q X scope N c) tg g) (he:∀c:CC,N.Nodup→PE (z0q X scope N c) elt te)
  (hN:N.Nodup:=by decide +kernel) (hgk:GOk n g:=by first | exact z75 (by decide) | exact zcm (by decide) (by decide) | exact gok_t3 (by decide) (by decide) (by decide)) (hn:N.length=n+fr.length:=by rfl)
  (hfr:fr.map (fun i=>X.N[i]?)=(N.drop n).map some:=by rfl) (hsc:∀x∈N.drop n,scope.names.lookup x=some .free:=by decide +kernel)
  (hF:FreeIn X.env ((scope.names.filter fun y=>y.2 == .free).map (·.1)):=by repeat (first | exact True.intro | refine y4i (y6s rfl) ?_ | refine y4i (y6i rfl) ?_))
  (hkind:scope.kind = .function:=by rfl) (hcell:∀y∈scope.names,y.2 ≠ .cell:=by decide +kernel) (hnames:∀y∈scope.names,y.2 = .local→scope.names.lookup y.1=some .local:=by decide +kernel) (hcalm:X.calm=true:=by rfl)
  (hs:∀x,foldedSetIterable iter X.env x=pure x:=by intro _; rfl):PE X (.ListComp elt [⟨tg,iter,[],0⟩] scope pos) (z9h wi n fr g zm1 te) :=
 zct n hi (fun c=>hg c hN) hgk (fun c pins s σ H Q I q=>wpAny_tests_nil ⟨H,I,q⟩) (fun c=>he c hN) hn hfr hsc hF hkind hcell hnames hcalm hs
theorem z4i {elt tg iter c:Expr}{scope:Scope}{pos:Pos}{N:List Str}{fr:List Nat}{wi:TI}{g:TG}{tt:TT}{te:TE}(n:Nat)
  (hi:PI X tg iter wi) (hg:∀c:CC,N.Nodup→PG (z0q X scope N c) tg g) (ht:∀cc:CC,N.Nodup→PT (z0q X scope N cc) c tt) (he:∀c:CC,N.Nodup→PE (z0q X scope N c) elt te)
  (hN:N.Nodup:=by decide +kernel) (hgk:GOk n g:=by first | exact z75 (by decide) | exact zcm (by decide) (by decide) | exact gok_t3 (by decide) (by decide) (by decide)) (hn:N.length=n+fr.length:=by rfl)
  (hfr:fr.map (fun i=>X.N[i]?)=(N.drop n).map some:=by rfl) (hsc:∀x∈N.drop n,scope.names.lookup x=some .free:=by decide +kernel)
  (hF:FreeIn X.env ((scope.names.filter fun y=>y.2 == .free).map (·.1)):=by repeat (first | exact True.intro | refine y4i (y6s rfl) ?_ | refine y4i (y6i rfl) ?_))
  (hkind:scope.kind = .function:=by rfl) (hcell:∀y∈scope.names,y.2 ≠ .cell:=by decide +kernel) (hnames:∀y∈scope.names,y.2 = .local→scope.names.lookup y.1=some .local:=by decide +kernel) (hcalm:X.calm=true:=by rfl)
  (hs:∀x,foldedSetIterable iter X.env x=pure x:=by intro _; rfl):PE X (.ListComp elt [⟨tg,iter,[c],0⟩] scope pos) (z9h wi n fr g tt te) :=
 zct n hi (fun c=>hg c hN) hgk (fun cc pins s σ H Q I q=>wpAny_tests_one (ht cc hN pins s σ H Q I q)) (fun c=>he c hN) hn hfr hsc hF hkind hcell hnames hcalm hs
theorem zbq (i:Nat){elt tg iter:Expr}{scope:Scope}{pos spos py:Pos}{y:Str}{N:List Str}{fr:List Nat}{wi:TI}{g:TG}{te:TE}(n:Nat)(hNX:X.N.Nodup)
  (hi:PI X tg iter wi) (hg:∀c:CC,N.Nodup→PG (z0q X scope N c) tg g) (he:∀c:CC,N.Nodup→PE (z0q X scope N c) elt te)
  (hN:N.Nodup:=by decide +kernel) (hgk:GOk n g:=by first | exact z75 (by decide) | exact zcm (by decide) (by decide) | exact gok_t3 (by decide) (by decide) (by decide)) (hn:N.length=n+fr.length:=by rfl)
  (hfr:fr.map (fun i=>X.N[i]?)=(N.drop n).map some:=by rfl) (hsc:∀x∈N.drop n,scope.names.lookup x=some .free:=by decide +kernel)
  (hF:FreeIn X.env ((scope.names.filter fun y=>y.2 == .free).map (·.1)):=by repeat (first | exact True.intro | refine y4i (y6s rfl) ?_ | refine y4i (y6i rfl) ?_))
  (hkind:scope.kind = .function:=by rfl) (hcell:∀y∈scope.names,y.2 ≠ .cell:=by decide +kernel) (hnames:∀y∈scope.names,y.2 = .local→scope.names.lookup y.1=some .local:=by decide +kernel) (hcalm:X.calm=true:=by rfl)
  (hs:∀x,foldedSetIterable iter X.env x=pure x:=by intro _; rfl) (hy:X.N[i]?=some y:=by rfl) (hly:X.env.scope.names.lookup y=some .local:=by rfl) (hsw:swapsWith (.ListComp elt [⟨tg,iter,[],0⟩] scope pos) (some (.Name y py)) spos.line X.env=pure true:=by rfl):PS X (.Assign [.Name y py] (.ListComp elt [⟨tg,iter,[],0⟩] scope pos) spos) (zjj (z9h wi n fr g zm1 te) (z4f i)) :=
 zd3 n hNX hy hly hsw hi (fun c=>hg c hN) hgk (fun c pins s σ H Q I q=>wpAny_tests_nil ⟨H,I,q⟩) (fun c=>he c hN) hn hfr hsc hF hkind hcell hnames hcalm hs
theorem zgx (i:Nat){elt tg iter c:Expr}{scope:Scope}{pos spos py:Pos}{y:Str}{N:List Str}{fr:List Nat}{wi:TI}{g:TG}{tt:TT}{te:TE}(n:Nat)(hNX:X.N.Nodup)
  (hi:PI X tg iter wi) (hg:∀c:CC,N.Nodup→PG (z0q X scope N c) tg g) (ht:∀cc:CC,N.Nodup→PT (z0q X scope N cc) c tt) (he:∀c:CC,N.Nodup→PE (z0q X scope N c) elt te)
  (hN:N.Nodup:=by decide +kernel) (hgk:GOk n g:=by first | exact z75 (by decide) | exact zcm (by decide) (by decide) | exact gok_t3 (by decide) (by decide) (by decide)) (hn:N.length=n+fr.length:=by rfl)
  (hfr:fr.map (fun i=>X.N[i]?)=(N.drop n).map some:=by rfl) (hsc:∀x∈N.drop n,scope.names.lookup x=some .free:=by decide +kernel)
  (hF:FreeIn X.env ((scope.names.filter fun y=>y.2 == .free).map (·.1)):=by repeat (first | exact True.intro | refine y4i (y6s rfl) ?_ | refine y4i (y6i rfl) ?_))
  (hkind:scope.kind = .function:=by rfl) (hcell:∀y∈scope.names,y.2 ≠ .cell:=by decide +kernel) (hnames:∀y∈scope.names,y.2 = .local→scope.names.lookup y.1=some .local:=by decide +kernel) (hcalm:X.calm=true:=by rfl)
  (hs:∀x,foldedSetIterable iter X.env x=pure x:=by intro _; rfl) (hy:X.N[i]?=some y:=by rfl) (hly:X.env.scope.names.lookup y=some .local:=by rfl) (hsw:swapsWith (.ListComp elt [⟨tg,iter,[c],0⟩] scope pos) (some (.Name y py)) spos.line X.env=pure true:=by rfl):PS X (.Assign [.Name y py] (.ListComp elt [⟨tg,iter,[c],0⟩] scope pos) spos) (zjj (z9h wi n fr g tt te) (z4f i)) :=
 zd3 n hNX hy hly hsw hi (fun c=>hg c hN) hgk (fun cc pins s σ H Q I q=>wpAny_tests_one (ht cc hN pins s σ H Q I q)) (fun c=>he c hN) hn hfr hsc hF hkind hcell hnames hcalm hs
end
end L2.EX
set_option Elab.async false
set_option linter.all false
set_option maxRecDepth 100000
namespace L2.EX
open PySem PySem.Spec PyProof.Rows
section
variable {X:Cx}{pins:List (Addr×Obj)}{σ:St}{H:Hp}{s:Shared}{h':Heap}
theorem z53 {t':Nat}{ch:List Addr}(I:Inv X pins σ H s)(k:∀b o,b ∉ ch→s.heap.get? b=some o→h'.get? b=some o)(hf:∀b∈ch,zhe X pins H b):Inv X pins σ H { s with heap:=h',toks:=t' }:=by
 have nit:∀b u,H b=some u→b ∉ ch:=fun b u e z=>by rw [(hf b z).1] at e; cases e
 refine I.step (g':=s.gens) (d':=s.drawn) (ch:=ch) (fun b hb=>⟨(hf b hb).2.2.2.1,(hf b hb).2.1,(hf b hb).2.2.2.2.1,(hf b hb).2.2.2.2.2⟩) (fun b o _ _ hc e _=>k b o hc e) (fun b o _ _ hc e _=>⟨o.slots,k b o hc e⟩) (fun _ _ _ _ n=>n)
  (fun b o hc e=>⟨o,k b o hc e⟩) (fun _ _ e=>e) (fun _ _ _ e=>e) (fun b ps e=>⟨#[],by rw [e]; simp⟩) (fun m hm=>?_) (fun b u e=>?_) I.bare
 ·obtain⟨o,es,ep,ho,r⟩:=hm
  exact⟨o,es,ep,k _ o (fun z=>(hf _ z).2.1 rfl) ho,r⟩
 ·refine(I.hok b u e).stay (fun c v hc q=>k c v ?_ q) (fun _ q=>q) fun _ _ q=>q
  rcases hc with z | z
  ·rw [z]; exact nit b u e
  ·exact nit c _ z
theorem z8i {t':Nat}{ch:List Addr}{T:Addr}{xs:List V}{us:List Value}(I:Inv X pins σ H s)(k:∀b o,b ∉ ch→s.heap.get? b=some o→h'.get? b=some o)(hf:∀b∈ch,zhe X pins H b)(hT:s.heap.objs.size≤T)
  (r:Vals xs us) (hz:xs.length≤sizeLine) (e:IsTup h' T us.toArray):Inv X pins σ (upd H T (.tup xs)) { s with heap:=h',toks:=t' } :=
 zmd (z53 I k hf) (I.hok.fresh hT) (y19 I.sz hT) (y39 (y0p I.lt hT)) (fun x c e z=>by
  obtain⟨v,q⟩:=I.cell x c e
  exact absurd (y0p q.lt (by rw [z]; exact hT)) (y2k _)) (fun p hp z=>absurd (y0p (Heap.lt_size (I.pin p hp).1) (by rw [z]; exact hT)) (y2k _)) ⟨hz,us,r,e⟩
end
def Ite (K:y02)(a:Addr):It :=
 ⟨fun i H=>∃xs x,SqL K H a xs∧xs[i]?=some x,fun i H x H'=>∃p v,H p=none∧x = .ref p∧H'=upd H p (.tup [.int i,v])∧∀xs,SqL K H a xs→xs[i]?=some v,fun i H=>∃xs,SqL K H a xs∧xs.length≤i⟩
theorem zm8:2≤sizeLine:=by decide
theorem zfl {P:Program}{w:World}{K:y02}{elts:List Expr}{kt:Nat}{tp:Pos}(a e it:Addr)(hne:e≠it):Turn P w K (.Tuple elts kt tp) (Ite K a) [e,it] e (fun i h=>(∃old,IsEnum h e it i old)∧h.IsListIter it a i) where
 mem:=by simp
 obj:=fun i h st b hb=>by
  obtain⟨⟨old,he⟩,o,e1,c,d⟩:=st
  rcases y0k.mp hb with rfl | hb
  ·exact⟨_,he,fun v z=>by cases z⟩
  ·have e':b=it:=by simpa using hb
   subst e'
   exact⟨o,e1,fun v z=>by rw [d] at z; cases z⟩
 keep:=fun i h h' st k=>by
  obtain⟨⟨old,he⟩,hit⟩:=st
  exact⟨⟨old,k e (by simp) _ he⟩,hit.at fun o x=>k it (by simp) o x⟩
 item:=by
  intro X hP hw hK hc i pins s σ H E I hf st hg
  subst hP hw hK
  obtain⟨xs,x,hq,hx⟩:=hg
  obtain⟨⟨old,he⟩,hit⟩:=st
  obtain⟨its,rv,p,hz⟩:=I.list hq
  obtain⟨u,hu,ru⟩:=rv.get hx
  refine wpAny_pyNext_enum_item he hit p.isList (x:=u) (by simpa using hu) hne fun h1 ho hit1 hT hsz hk=>⟨_,rfl,?_⟩
  refine wpAny_letOwnedTupleGo_enum ho fun h2 he2 hs2=>?_
  have hTe:s.heap.objs.size≠e:=y39 (Heap.lt_size he)
  have kk:∀b o,b ∉ [e,it]→s.heap.get? b=some o→h2.get? b=some o:=fun b o hb eo =>
   hs2.extBut b o (fun z=>hb (by simp [z])) (hk b o (fun z=>hb (by simp [z])) (fun z=>hb (by simp [z])) eo)
  have I2:=z8i (t':=s.toks+1) (h':=h2) I kk (fun b hb=>hf b hb) (y07 _) (xs:=[.int i,x]) (us:=[.int i s.toks,u]) (.cons ⟨_,rfl⟩ (.cons ru .nil)) zm8 ⟨_,hs2.extBut _ _ hTe hT,rfl,_,rfl⟩
  refine⟨.ref s.heap.objs.size,_,I2,rfl,⟨s.heap.objs.size,x,I.hok.fresh (y07 _),rfl,rfl,fun ys hy=>by rw [I.list_inj hy hq]; exact hx⟩,⟨⟨_,by simpa using he2⟩,hit1.at fun o x=>(hs2.2 it hne.symm).trans x⟩,fun b hb=>?_⟩
  have hbl:b≠s.heap.objs.size:=by
   rcases y0k.mp hb with rfl | hb
   ·exact y0x (Heap.lt_size he)
   ·have e':b=it:=by simpa using hb
    subst e'
    obtain⟨o,e1,_⟩:=hit
    exact y0x (Heap.lt_size e1)
  rw [z0a hbl]
  exact(hf b hb).1
 done:=by
  intro X hP hw hK hc i pins s σ H E I hf st hg
  subst hP hw hK
  obtain⟨xs,hq,hx⟩:=hg
  obtain⟨⟨old,he⟩,hit⟩:=st
  obtain⟨its,rv,p,hz⟩:=I.list hq
  have hl:=rv.length
  exact wpAny_pyNext_enum_end (I.ok.hd hc) he hit p.isList (by simp; omega) fun h1 hb=>⟨rfl,z53 (t':=s.toks) I (fun b o hb' eo=>hb b o (fun z=>hb' (by simp [z])) eo) fun b hb'=>hf b hb'⟩
 self:=fun _ _ _ _ _ st h=>by
  obtain⟨⟨old,he⟩,_⟩:=st
  exact wpAny_pyIter_enum he h
section
variable {X:Cx}
def zkc (K:y02)(tl:TE)(σ:St)(H:Hp)(R:It→Hp→Prop):Prop:=tl σ H fun x H1=>match x with
 | .ref a=>(∃xs,SqL K H1 a xs)∧R (Ite K a) H1
 | _=>False
theorem z7n {l:Expr}{tl:TE}{elts:List Expr}{kt:Nat}{tp p pos:Pos}(hm:X.mg "enumerate"=none)(hl:PE X l tl)(hg:Gl X "enumerate":=by rfl)(hs:starEach [l] X.env = [(false,eval l X.env)]:=by rfl) :
  PI X (.Tuple elts kt tp) (.Call (.Name "enumerate" p) [l] [] pos) (zkc X.K tl):=by
 intro pins s σ H R I h
 refine Call_ (z6m I hg hm za0 (y20 (thn ((z00 (z2d hl) z03 hs) pos pins s σ H (fun vs H1=>∃x,vs = [x]∧(match x with
  | .ref a=>(∃xs,SqL X.K H1 a xs)∧R (Ite X.K a) H1
  | _=>False)) I ⟨_,h,fun v H1 q=>⟨v,rfl,q⟩⟩) fun us s1 h1=>?_) hs rfl))
 obtain⟨vs,H1,I1,r1,x,rfl,q1⟩:=h1
 obtain⟨u,rfl,rx⟩:=z7r r1
 split at q1
 ·rename_i a
  cases rx
  obtain⟨⟨xs,hq⟩,q⟩:=q1
  obtain⟨its,rv,pl,hz⟩:=I1.list hq
  refine call_enumerate_list pl.isList fun h1 he hit hsz hk=>wpAny_pyIter_enum he ?_
  have ne:s1.heap.objs.size+1≠s1.heap.objs.size:=Nat.succ_ne_self _
  refine⟨_,[s1.heap.objs.size+1,s1.heap.objs.size],_,_,H1,rfl,I1.kept (t':=s1.toks) hk,zfl a (s1.heap.objs.size+1) s1.heap.objs.size ne,⟨⟨_,he⟩,hit⟩,fun b hb=>?_,q⟩
  have hb':s1.heap.objs.size≤b:=by
   rcases y0k.mp hb with e | e
   ·rw [e]; exact y58 _
   ·rw [y0a.mp e]; exact y07 _
  exact I1.fpOk hb' (I1.hok.fresh hb')
 ·exact q1.elim
theorem zbk {K:y02}{g:TG}{tb:TS}{D:Ends}{σ:St}{H:Hp}{a:Addr}{xs:List V}(Pv:Nat→St→Hp→Prop)(h0:Pv 0 σ H)(hl:∀i σ H,i≤xs.length→Pv i σ H→SqL K H a xs)
  (hs:∀i x σ H p,xs[i]?=some x→Pv i σ H→H p=none→g (.ref p) σ (upd H p (.tup [.int i,x])) fun σ2 H2=>tb { D with nx:=Pv (i+1),ct:=Pv (i+1),bk:=D.nx } σ2 H2) (hd:∀ σ H,Pv xs.length σ H→D.nx σ H):ze8 (Ite K a) g tb D σ H:=by
 refine⟨fun i m σ H=>m=xs.length - i∧i≤xs.length∧Pv i σ H,⟨xs.length,by simp,y2j _,h0⟩,?_⟩
 rintro i m σ H ⟨rfl,hi,p⟩
 have q:=hl i σ H hi p
 by_cases hlt:i<xs.length
 ·refine .inr ⟨⟨xs,xs[i],q,by simp [hlt]⟩,Pv (i+1),fun σ' H' p'=>⟨xs.length - (i+1),by omega,rfl,hlt,p'⟩,fun x H' y=>?_⟩
  obtain⟨t,v,ht,e1,e2,e3⟩:=y
  subst e1 e2
  exact hs i v σ H t (e3 xs q) p ht
 ·have e:i=xs.length:=by omega
  subst e
  exact .inl ⟨⟨xs,q,y07 _⟩,hd σ H p⟩
end
end L2.EX
set_option Elab.async false
set_option linter.all false
set_option maxRecDepth 100000
namespace L2.EX
open PySem PySem.Spec PyProof.Rows
structure ClsF (K:y02)(C:Addr)(f:Str):Prop where
 cl:Cls K C
 no:NoAttr K C f
structure MDef (P:Program)(w:World)(K:y02)(mg:Str→Option Value)(base:Heap)(C:Addr)(m:Str)(k:Nat)(ps:List Str)(sp:Sp):Prop where
 is:∃(f:Addr) (fd:FuncData),FnOk P w K mg base CX0 k f fd ps sp∧Binds K fd ps []∧Meth K C m f
 cl:Cls K C
structure MTop (K:y02)(C:Addr)(m qual:Str)(st:Stmt)(ps:List Str):Prop where
 is:∃(f:Addr) (fd:FuncData),Fun K m qual st f fd∧Binds K fd ps []∧Meth K C m f
 cl:Cls K C
structure CDef (P:Program)(w:World)(K:y02)(mg:Str→Option Value)(base:Heap)(x:Str)(C:Addr)(k:Nat)(ps:List Str)(sp:Sp):Prop where
 is:∃(f:Addr) (fd:FuncData),FnOk P w K mg base CX0 k f fd ps sp∧Binds K fd ps []∧Mk K C f
 mg:mg x=some (.ref C)
section
variable {X:Cx}{C:Addr}{f m:Str}{e o value:Expr}{es:List Expr}{ta tv:TE}{t:TA}{pos pos' apos cpos p:Pos}{k:Nat}{ps:List Str}{sp:Sp}{x:Str}
def zp2 (C:Addr)(f:Str)(t:TE)(σ:St)(H:Hp)(Q:VK):Prop:=t σ H fun x H1=>match x with
 | .ref a=>∃dx fs v,H1 a=some (.ins C dx fs)∧fs.lookup f=some v∧Q v H1
 | _=>False
theorem z1m (F:ClsF X.K C f)(he:PE X e ta)(hb:attributeBase e f X.env (eval e X.env)=eval e X.env:=by rfl):PE X (.Attribute e f pos) (zp2 C f ta) :=
 z5e (znd (z2d he) hb) fun σ H Q h=>⟨_,h,fun x H1 q=>by
  split at q
  ·obtain⟨dx,fs,v,h1,h2,h3⟩:=q
   exact⟨_,C,dx,fs,v,rfl,h1,F.cl,F.no,h2,h3⟩
  ·exact q.elim⟩
def zlk (C:Addr)(f:Str)(ta tv:TE)(D:Ends)(σ:St)(H:Hp):Prop:=tv σ H fun y H1=>ta σ H1 fun x H2=>match x with
 | .ref a=>∃dx fs,H2 a=some (.ins C dx fs)∧fs.length<1000∧D.nx σ (upd H2 a (.ins C dx (z84 f y fs)))
 | _=>False
theorem za5 (F:ClsF X.K C f)(ha:PE X o ta)(hv:PE X value tv)(hs:swapsWith value (some (.Attribute o f pos')) pos.line X.env=pure false:=by rfl):PS X (.Assign [.Attribute o f pos'] value pos) (zlk C f ta tv) :=
 zjs (znr (z2d ha) (z2d hv) hs) fun D σ H h=>⟨_,h,fun y H1 q=>⟨_,q,fun x H2 q2=>by
  split at q2
  ·obtain⟨dx,fs,h1,h2,h3⟩:=q2
   exact⟨_,C,dx,fs,rfl,h1,F.cl,F.no,h2,h3⟩
  ·exact q2.elim⟩⟩
def zi4 (C:Addr)(m:Str)(sp:Sp)(ta:TE)(t:TA)(σ:St)(H:Hp)(Q:VK):Prop:=ta σ H fun x H1=>match x with
 | .ref a=>∃dx fs,H1 a=some (.ins C dx fs)∧fs.lookup m=none∧t σ H1 fun vs H2=>sp (.ref a::vs) H2 Q E0
 | _=>False
theorem z2b {pl:Sem Bool}(D:MDef X.prog X.w X.K X.mg X.base C m k ps sp)(hr:Room k X.A)(he:PE X o ta)(ha:PA X (e::es) t)
  (hst:starEach (e::es) X.env=(false,eval e X.env)::starEach es X.env:=by rfl) (hpl:(backTo pos (starEach es X.env)).any (·.1)=false:=by rfl)
  (ht:eval (.Call (.Attribute o m apos) (e::es) [] pos) X.env=(do
   let ov ←eval o X.env
   standAt apos.atName
   let (f,first) ←holding [ov] (getMethod ov m pl)
   callWith pos f first (backTo pos (starEach (e::es) X.env)) (backToKw pos (keywordEach [] X.env))):=by rfl) :
  PE X (.Call (.Attribute o m apos) (e::es) [] pos) (zi4 C m sp ta t):=by
 obtain⟨f,fd,F,hb,hm⟩:=D.is
 refine z5e (zkq (pl:=pl) (dvs:=[]) (z2d he) D.cl hm F hr hb .nil zi7 (z7u ha) hst hpl ht) fun σ H Q h=>⟨_,h,fun x H1 q=>?_⟩
 split at q
 ·obtain⟨dx,fs,h1,h2,h3⟩:=q
  exact⟨_,dx,fs,rfl,h1,h2,_,h3,fun vs H2 q2=>by
   show sp (V.ref _::(vs ++ [])) H2 Q E0
   rw [y2n]
   exact q2⟩
 ·exact q.elim
theorem z5p {pl:Sem Bool}(D:MDef X.prog X.w X.K X.mg X.base C m k ps sp)(hr:Room k X.A)(he:PE X o ta)
  (ht:eval (.Call (.Attribute o m apos) [] [] pos) X.env=(do
   let ov ←eval o X.env
   standAt apos.atName
   let (f,first) ←holding [ov] (getMethod ov m pl)
   callWith pos f first (backTo pos (starEach [] X.env)) (backToKw pos (keywordEach [] X.env))):=by rfl) :
  PE X (.Call (.Attribute o m apos) [] [] pos) (zi4 C m sp ta zmm):=by
 obtain⟨f,fd,F,hb,hm⟩:=D.is
 refine z5e (zj3 (pl:=pl) (dvs:=[]) (z2d he) D.cl hm F hr hb .nil zi7 ht) fun σ H Q h=>⟨_,h,fun x H1 q=>?_⟩
 split at q
 ·obtain⟨dx,fs,h1,h2,h3⟩:=q
  exact⟨_,dx,fs,rfl,h1,h2,h3⟩
 ·exact q.elim
def zl7 (C:Addr)(sp:Sp)(t:TA)(σ:St)(H:Hp)(Q:VK):Prop:=t σ H fun vs H1=>∀x dx,H1 x=none→H1 dx=none→dx≠x →
 sp (.ref x::vs) (upd (upd H1 dx (.own x)) x (.ins C dx [])) (fun v H2=>v = .non∧Q (.ref x) H2) E0
theorem zkv (D:CDef X.prog X.w X.K X.mg X.base x C k ps sp)(hr:Room (k+1) X.A)(ha:PA X (e::es) t)(hg:Gl X x:=by rfl)
  (hdb:(x==("__debug__":Str))=false:=by decide) (he:starEach (e::es) X.env=(false,eval e X.env)::starEach es X.env:=by rfl) (hpl:(backTo pos (starEach es X.env)).any (·.1)=false:=by rfl) :
  PE X (.Call (.Name x p) (e::es) [] pos) (zl7 C sp t):=by
 obtain⟨f,fd,F,hb,M⟩:=D.is
 exact z5e (zlr (dvs:=[]) M F hr hg D.mg hb .nil zi7 (z7u ha) hdb he hpl) fun σ H Q h=>⟨_,h,fun vs H1 q y dy h1 h2 h3=>by rw [y2n]; exact q y dy h1 h2 h3⟩
variable {P:Program}{w:World}{K:y02}{mg:Str→Option Value}{base:Heap}{N:List Str}{st:Stmt}{qual:Str}
theorem z2u (T:MTop K C m qual st ps)(S:FnScope N ps (z05 st))(len:∀vs H Q E,sp vs H Q E→vs.length=ps.length)
  (body:∀(f:Addr) (cdv:Value) (A:Around) (outer:List Env) (s:Shared) (H:Hp) (vs:List V) (Q:VK) (E:XK),Room k (A.deeper (envOfC qual (z05 st) s.heap.objs.size f cdv))→sp vs H Q E →
   ∃t,PSs (zhp CX0 P w K mg base N qual (z05 st) f cdv A outer s H E).nox (z0d st) t∧t { nx:=fun _ H'=>Q .non H',rt:=Q } (start N vs) H):MDef P w K mg base C m (k+1) ps sp:=by
 obtain⟨f,fd,F,hb,hm⟩:=T.is
 exact⟨⟨f,fd,F.ok S len fun cdv A outer s H vs Q E hr h=>body f cdv A outer s H vs Q E hr h,hb,hm⟩,T.cl⟩
@[reducible] def zpl (o i v:V)(H:Hp)(Q:Hp→Prop):Prop:=match o,i with
 | .ref p,.int k=>∃xs j,H p=some (.lst xs)∧ixN xs.length k=some j∧Q (upd H p (.lst (xs.set j v)))
 | _,_=>False
theorem z4d:zo1 X zpl:=by
 intro pins s σ H o i v ov iv u Q I ro ri rv h
 unfold zpl at h
 split at h
 ·obtain⟨xs,j,h1,h2,h3⟩:=h
  exact zj2 pins s σ H _ _ v ov iv u Q I ro ri rv ⟨_,xs,_,j,rfl,rfl,h1,h2,h3⟩
 ·exact h.elim
def znx (o i:V)(H:Hp)(Q:VK):Prop:=match o,i with
 | .ref p,.int k=>∃xs v,H p=some (.lst xs)∧0≤k∧xs[k.toNat]?=some v∧Q v H
 | _,_=>False
theorem z7v:zpj X znx:=by
 intro pins s σ H o i ov iv Q I ro ri h
 unfold znx at h
 split at h
 ·rename_i p k
  obtain⟨xs,v,h1,h2,h3,h4⟩:=h
  cases ro
  obtain⟨t,rfl⟩:=ri
  obtain⟨its,r,pl,hz⟩:=I.list (SqL.of h1)
  obtain⟨w,ew,rw'⟩:=r.get h3
  have hl:=r.length
  have hn:=zad
  have hk:k.toNat<xs.length:=(y00.mp h3).1
  exact wpAny_getItem_list pl.isList h2 (by omega) (by simpa using ew) ⟨v,H,I,rw',h4⟩
 ·exact h.elim
def zd8 (x y:V)(H:Hp)(Q:VK):Prop:=match x,y with
 | .int i,.int j=>Q (.int (i+j)) H
 | _,_=>False
def zdk (x y:V)(H:Hp)(Q:VK):Prop:=match x,y with
 | .int i,.int j=>Q (.int (i - j)) H
 | _,_=>False
theorem zbu:PIp X .Add zd8:=by
 intro pins s σ H x y v u Q I r1 r2 h
 unfold zd8 at h
 split at h
 ·exact zn5 pins s σ H _ _ v u Q I r1 r2 ⟨_,_,rfl,rfl,h⟩
 ·exact h.elim
theorem z9a:PIp X .Sub zdk:=by
 intro pins s σ H x y v u Q I r1 r2 h
 unfold zdk at h
 split at h
 ·exact zmq pins s σ H _ _ v u Q I r1 r2 ⟨_,_,rfl,rfl,h⟩
 ·exact h.elim
def zon (ta:TE)(t:TA)(σ:St)(H:Hp)(Q:VK):Prop:=ta σ H fun x H1=>match x with
 | .ref l=>(∃xs,H1 l=some (.lst xs))∧t σ H1 fun vs H2=>match vs with
  | [y]=>∃xs,H2 l=some (.lst xs)∧xs.length<sizeLine∧Q .non (upd H2 l (.lst (xs ++ [y])))
  | _=>False
 | _=>False
theorem z19 (ho:PE X o ta)(ha:PA X (e::es) t)(hbase:attributeBase o "append" X.env (eval o X.env)=eval o X.env:=by rfl)
  (hfew:((backTo cpos (starEach (e::es) X.env)).all (fun x=>!x.1)&&(backToKw cpos (keywordEach [] X.env)).all (fun x=>x.1.isSome)
  &&decide ((e::es).length+([]:List Keyword).length+(if ([]:List Keyword).isEmpty then 0 else 1)<30))=true:=by rfl)
  (hline:(apos.endLine==cpos.line)=true:=by rfl) (hs:starEach (e::es) X.env=(false,eval e X.env)::starEach es X.env:=by rfl) (hplain:(backTo cpos (starEach es X.env)).any (·.1)=false:=by rfl) :
  PE X (.Call (.Attribute o "append" apos) (e::es) [] cpos) (zon ta t) :=
 z5e (zmy y3s PySem.F.slot_list_append PySem.F.type_list_append zfu (z2d ho) (z7u ha) hbase hfew hline hs hplain) fun σ H Q h=>⟨_,h,fun x H1 q=>by
  split at q
  ·obtain⟨⟨xs,h1⟩,h2⟩:=q
   refine⟨.inl ⟨rfl,_,SqL.of h1⟩,_,h2,fun vs H2 q2=>?_⟩
   split at q2
   ·obtain⟨ys,h3,h4,h5⟩:=q2
    exact⟨_,ys,_,rfl,rfl,h3,h4,h5⟩
   ·exact q2.elim
  ·exact q.elim⟩
def zom (ta:TE)(σ:St)(H:Hp)(Q:VK):Prop:=ta σ H fun x H1=>match x with
 | .ref l=>∃xs y,H1 l=some (.lst xs)∧xs[xs.length - 1]?=some y∧Q y (upd H1 l (.lst xs.dropLast))
 | _=>False
theorem z7a (ho:PE X o ta)(hbase:attributeBase o "pop" X.env (eval o X.env)=eval o X.env:=by rfl)(hline:(apos.endLine==cpos.line)=true:=by rfl):PE X (.Call (.Attribute o "pop" apos) [] [] cpos) (zom ta) :=
 z5e (zmg y3s PySem.F.slot_list_pop PySem.F.type_list_pop zmb (z2d ho) hbase hline) fun σ H Q h=>⟨_,h,fun x H1 q=>by
  split at q
  ·obtain⟨xs,y,h1,h2,h3⟩:=q
   exact⟨.inl ⟨rfl,_,SqL.of h1⟩,_,xs,y,rfl,rfl,h1,h2,h3⟩
  ·exact q.elim⟩
def zjx (ta:TE)(σ:St)(H:Hp)(Q:VK):Prop:=ta σ H fun x H1=>match x with
 | .ref l=>∃xs,H1 l=some (.lst xs)∧Q .non (upd H1 l (.lst []))
 | _=>False
theorem z3g (h:PE X e ta):PO X (some e) (zkk ta):=by
 intro pins s σ H Q I hq
 have g:=zlu (z2d h) pins s σ H Q I ⟨_,hq,fun x H1 q=>by
  split at q
  ·exact⟨_,rfl,q⟩
  ·exact q.elim⟩
 exact g
theorem zot:SlR X (uSl X.K):=by
 intro pins s σ H x v vl vu lo hi sl Q I rx hs pl pu q
 unfold uSl at q
 split at q
 ·obtain⟨xs,h1,h2⟩:=q
  exact zkx pins s σ H _ v vl vu lo hi sl Q I rx hs pl pu ⟨_,xs,rfl,h1,h2⟩
 ·exact q.elim
def xSl (K:y02)(te:TE)(tl th:TO)(σ:St)(H:Hp)(Q:VK):Prop:=te σ H fun x H1=>tl σ H1 fun l H2=>th σ H2 fun u H3=>uSl K x l u H3 Q
theorem zhq {lo hi:Option Expr}{p2:Pos}{tl th:TO}(he:PE X e ta)(hl:PO X lo tl)(hu:PO X hi th):PE X (.Subscript e (.Slice lo hi none p2) pos) (xSl X.K ta tl th):=zj9 zot he hl hu
end
end L2.EX
set_option Elab.async false
set_option linter.all false
set_option maxRecDepth 100000
namespace L2.EX
open PySem PySem.Spec PyProof.Rows
theorem z06 {H:Hp}{p:Addr}(h:H p=none)(o:HO):Same H (upd H p o):=fun b u q=>by rw [z0a (z08 q h)]; exact q
mutual
def Is (K:y02)(H:Hp):V→PyData→Prop
 | v,.none=>v = .non
 | v,.bool b=>v = .bl b
 | v,.int i=>v = .int i
 | v,.str x=>v = .str x
 | v,.list ds=>∃a xs,v = .ref a∧H a=some (.lst xs)∧IsAll K H xs ds
 | v,.tuple ds=>∃a xs,v = .ref a∧H a=some (.tup xs)∧IsAll K H xs ds
 | _,.dict _=>False
def IsAll (K:y02)(H:Hp):List V→List PyData→Prop
 | xs,[]=>xs = []
 | xs,d::ds=>∃v vs,xs=v::vs∧Is K H v d∧IsAll K H vs ds
end
mutual
theorem Is.same {K:y02}{H H':Hp}(s:Same H H'):∀(d:PyData) (v:V),Is K H v d→Is K H' v d
 | .none,v,h=>by simp only [Is] at h ⊢; exact h
 | .bool b,v,h=>by simp only [Is] at h ⊢; exact h
 | .int i,v,h=>by simp only [Is] at h ⊢; exact h
 | .str x,v,h=>by simp only [Is] at h ⊢; exact h
 | .list ds,v,h=>by
  simp only [Is] at h ⊢
  obtain⟨a,xs,e,q,r⟩:=h
  exact⟨a,xs,e,s _ _ q,IsAll.same s ds xs r⟩
 | .tuple ds,v,h=>by
  simp only [Is] at h ⊢
  obtain⟨a,xs,e,q,r⟩:=h
  exact⟨a,xs,e,s _ _ q,IsAll.same s ds xs r⟩
 | .dict _,v,h=>by simp only [Is] at h
theorem IsAll.same {K:y02}{H H':Hp}(s:Same H H'):∀(ds:List PyData) (xs:List V),IsAll K H xs ds→IsAll K H' xs ds
 | [],xs,h=>by simp only [IsAll] at h ⊢; exact h
 | d::ds,xs,h=>by
  simp only [IsAll] at h ⊢
  obtain⟨v,vs,e,q,r⟩:=h
  exact⟨v,vs,e,Is.same s d v q,IsAll.same s ds vs r⟩
end
section
variable {X:Cx}{pins:List (Addr×Obj)}{σ:St}{H:Hp}{s:Shared}
mutual
theorem Is.reads (I:Inv X pins σ H s):∀(d:PyData) (v:V) (u:Value),Is X.K H v d→RelV v u→∃as,Reads s.heap u d as
 | .none,v,u,h,r=>by
  simp only [Is] at h
  subst h
  cases r
  exact⟨_,.none⟩
 | .bool b,v,u,h,r=>by
  simp only [Is] at h
  subst h
  cases r
  exact⟨_,.bool b⟩
 | .int i,v,u,h,r=>by
  simp only [Is] at h
  subst h
  obtain⟨t,rfl⟩:=r
  exact⟨_,.int i t⟩
 | .str x,v,u,h,r=>by
  simp only [Is] at h
  subst h
  obtain⟨t,rfl⟩:=r
  exact⟨_,.str x t⟩
 | .list ds,v,u,h,r=>by
  simp only [Is] at h
  obtain⟨a,xs,rfl,q,al⟩:=h
  cases r
  obtain⟨its,rv,⟨o,n,e,c,_,hd⟩,_⟩:=I.list (SqL.of q)
  obtain⟨as,ra⟩:=IsAll.reads I ds xs its al rv
  exact⟨_,.list e c hd (by simpa using ra)⟩
 | .tuple ds,v,u,h,r=>by
  simp only [Is] at h
  obtain⟨a,xs,rfl,q,al⟩:=h
  cases r
  obtain⟨its,rv,⟨o,e,c,n,hd⟩,_⟩:=I.tuple (SqT.of q)
  obtain⟨as,ra⟩:=IsAll.reads I ds xs its al rv
  exact⟨_,.tuple e c hd (by simpa using ra)⟩
 | .dict _,v,u,h,r=>by simp only [Is] at h
theorem IsAll.reads (I:Inv X pins σ H s):∀(ds:List PyData) (xs:List V) (us:List Value),IsAll X.K H xs ds→Vals xs us→∃as,ReadsAll s.heap us ds as
 | [],xs,us,h,r=>by
  simp only [IsAll] at h
  subst h
  cases r
  exact⟨_,.nil⟩
 | d::ds,xs,us,h,r=>by
  simp only [IsAll] at h
  obtain⟨v,vs,rfl,q,al⟩:=h
  cases r with
  | cons r1 r2 =>
   obtain⟨as,ra⟩:=Is.reads I d v _ q r1
   obtain⟨bs,rb⟩:=IsAll.reads I ds vs _ al r2
   exact⟨_,.cons ra rb⟩
end
end
theorem z0k {K:y02}{H:Hp}:∀{ds:List PyData} {xs:List V},IsAll K H xs ds→xs.length=ds.length
 | [],xs,h=>by simp only [IsAll] at h; subst h; rfl
 | d::ds,xs,h=>by
  simp only [IsAll] at h
  obtain⟨v,vs,rfl,q,al⟩:=h
  simp [z0k al]
theorem z4a {K:y02}{H:Hp}:∀{ds:List PyData} {xs:List V} {i:Nat} {x:V},IsAll K H xs ds→xs[i]?=some x→∃d,ds[i]?=some d∧Is K H x d
 | [],xs,i,x,h,e=>by simp only [IsAll] at h; subst h; simp at e
 | d::ds,xs,i,x,h,e=>by
  simp only [IsAll] at h
  obtain⟨v,vs,rfl,q,al⟩:=h
  cases i with
  | zero=>simp at e; subst e; exact⟨d,rfl,q⟩
  | succ i =>
   obtain⟨d',h1,h2⟩:=z4a (i:=i) al (by simpa using e)
   exact⟨d',by simpa using h1,h2⟩
theorem z1x {K:y02}{H:Hp}:∀{ds:List PyData} {xs:List V} {i:Nat} {d:PyData},IsAll K H xs ds→ds[i]?=some d→∃x,xs[i]?=some x∧Is K H x d
 | [],xs,i,x,h,e=>by simp at e
 | d::ds,xs,i,x,h,e=>by
  simp only [IsAll] at h
  obtain⟨v,vs,rfl,q,al⟩:=h
  cases i with
  | zero=>simp at e; subst e; exact⟨v,rfl,q⟩
  | succ i =>
   obtain⟨d',h1,h2⟩:=z1x (i:=i) al (by simpa using e)
   exact⟨d',by simpa using h1,h2⟩
theorem z5q {K:y02}{H:Hp}:∀{ds es:List PyData} {xs ys:List V},IsAll K H xs ds→IsAll K H ys es→IsAll K H (xs++ys) (ds++es)
 | [],es,xs,ys,h,g=>by simp only [IsAll] at h; subst h; exact g
 | d::ds,es,xs,ys,h,g=>by
  simp only [IsAll] at h
  obtain⟨v,vs,rfl,q,al⟩:=h
  show IsAll K H (v::(vs++ys)) (d::(ds++es))
  simp only [IsAll]
  exact⟨v,vs++ys,rfl,q,z5q al g⟩
theorem z3t {K:y02}{H:Hp}{v:V}{d:PyData}(h:Is K H v d):IsAll K H [v] [d]:=by
 simp only [IsAll]
 exact⟨v,[],rfl,h,rfl⟩
theorem z0t {K:y02}{H:Hp}:IsAll K H [] []:=by simp only [IsAll]
theorem z1d {K:y02}{H:Hp}{v:V}{vs:List V}{d:PyData}{ds:List PyData}(h:Is K H v d)(g:IsAll K H vs ds):IsAll K H (v::vs) (d::ds):=by
 simp only [IsAll]
 exact⟨v,vs,rfl,h,g⟩
theorem z1f {K:y02}{H:Hp}{v:V}{vs:List V}{d:PyData}{ds:List PyData}(g:IsAll K H vs ds)(h:Is K H v d):IsAll K H (vs ++ [v]) (ds ++ [d]):=z5q g (z3t h)
theorem z4p {K:y02}{H:Hp}:∀(ns:List Int),IsAll K H (ns.map V.int) (ns.map PyData.int)
 | []=>z0t
 | n::ns=>z1d (by simp only [Is]) (z4p ns)
theorem z8m {K:y02}{H:Hp}:∀{ns:List Int} {xs:List V},IsAll K H xs (ns.map PyData.int)→xs=ns.map V.int
 | [],xs,h=>by simpa only [IsAll,y35] using h
 | n::ns,xs,h=>by
  simp only [IsAll,y0m,Is] at h
  obtain⟨v,vs,rfl,rfl,al⟩:=h
  rw [z8m al]
  rfl
theorem z8u {K:y02}{H:Hp}:∀{ds:List PyData} {xs:List V} (n:Nat),IsAll K H xs ds→IsAll K H (xs.take n) (ds.take n)
 | [],xs,n,h=>by simp only [IsAll] at h; subst h; simp [z0t]
 | d::ds,xs,n,h=>by
  simp only [IsAll] at h
  obtain⟨v,vs,rfl,q,al⟩:=h
  cases n with
  | zero=>simp [z0t]
  | succ n=>simpa using z1d q (z8u n al)
theorem is_list {K:y02}{H:Hp}{v:V}{ds:List PyData}:Is K H v (.list ds)↔∃a xs,v = .ref a∧H a=some (.lst xs)∧IsAll K H xs ds:=by simp only [Is]
theorem is_tuple {K:y02}{H:Hp}{v:V}{ds:List PyData}:Is K H v (.tuple ds)↔∃a xs,v = .ref a∧H a=some (.tup xs)∧IsAll K H xs ds:=by simp only [Is]
def z2m (n d:Int):PyData:=.tuple [.int n,.int d]
theorem is_frac {K:y02}{H:Hp}{v:V}{n d:Int}:Is K H v (z2m n d)↔∃a,v = .ref a∧H a=some (.tup [.int n,.int d]):=by
 unfold z2m
 rw [is_tuple]
 constructor
 ·rintro⟨a,xs,rfl,h,al⟩
  simp only [IsAll,Is] at al
  obtain⟨_,_,rfl,rfl,_,_,rfl,rfl,rfl⟩:=al
  exact⟨a,rfl,h⟩
 ·rintro⟨a,rfl,h⟩
  exact⟨a,_,rfl,h,z4p [n,d]⟩
def Sh (n:Nat)(d:PyData):Prop:=d.canLay0=true∧d.depth≤n
theorem zk6 {n:Nat}(i:Int):Sh n (.int i):=⟨by simp only [PyData.canLay0],by simp only [PyData.depth]; omega⟩
theorem zcy {n:Nat}{ds:List PyData}(h:∀d∈ds,Sh n d):PyData.canLayAll0 ds=true∧PyData.depthAll ds≤n:=by
 induction ds with
 | nil=>exact⟨by simp only [PyData.canLayAll0],by simp only [PyData.depthAll]; omega⟩
 | cons d ds ih =>
  obtain⟨h1,h2⟩:=h d y0d
  obtain⟨h3,h4⟩:=ih fun x hx=>h x (y08 _ hx)
  refine⟨by simp only [PyData.canLayAll0,h1,h3,Bool.and_self],?_⟩
  simp only [PyData.depthAll]
  omega
theorem zh9 {n:Nat}{ds:List PyData}(h:∀d∈ds,Sh n d):Sh (n+1) (.list ds):=⟨by simp only [PyData.canLay0]; exact(zcy h).1,by simp only [PyData.depth]; have:=(zcy h).2; omega⟩
theorem zhz {n:Nat}{ds:List PyData}(h:∀d∈ds,Sh n d):Sh (n+1) (.tuple ds):=⟨by simp only [PyData.canLay0]; exact(zcy h).1,by simp only [PyData.depth]; have:=(zcy h).2; omega⟩
theorem z2o {n:Nat}(a b:Int):Sh (n+1) (z2m a b):=zhz fun d hd=>by
 simp only [y0k,y1c,or_false] at hd
 rcases hd with rfl | rfl<;>exact zk6 _
theorem Sh.shaped {d:PyData}(h:Sh 60 d):y66 d=true:=by
 unfold y66
 rw [h.1,decide_eq_true (y19 h.2 (by decide))]
 rfl
theorem Sh.le {m n:Nat}{d:PyData}(h:Sh m d)(k:m≤n):Sh n d:=⟨h.1,y19 h.2 k⟩
theorem z4r {d:PyData}(h:Sh 60 d):PyData.eqv d d=true:=PySem.SeqAt.eqv_refl d h.1
section
variable {X:Cx}
def zob (K:y02)(x y:V)(H:Hp)(Q:VK):Prop:=∃d d',Is K H x d∧Is K H y d'∧Sh 60 d∧Sh 60 d'∧Q (.bl (PyData.eqv d d')) H
def zof (K:y02)(x y:V)(H:Hp)(Q:VK):Prop:=∃d d',Is K H x d∧Is K H y d'∧Sh 60 d∧Sh 60 d'∧Q (.bl (!PyData.eqv d d')) H
theorem zo2 {k:Nat}{A:Around}(hr:Room k A):A.units+64<cLine:=by have:=hr.un; omega
theorem znh {k:Nat}(hr:Room k X.A):OpR X (compareOp .Eq) (zob X.K):=by
 intro pins s σ H x y v u Q I rx ry h
 obtain⟨d,d',h1,h2,s1,s2,q⟩:=h
 obtain⟨as,ra⟩:=Is.reads I d x v h1 rx
 obtain⟨bs,rb⟩:=Is.reads I d' y u h2 ry
 exact PySem.SeqAt.compareEq_shaped ra rb s1.shaped s2.shaped (zo2 hr) ⟨.bl (PyData.eqv d d'),H,I,rfl,q⟩
theorem z9q {k:Nat}(hr:Room k X.A):OpR X (compareOp .NotEq) (zof X.K):=by
 intro pins s σ H x y v u Q I rx ry h
 obtain⟨d,d',h1,h2,s1,s2,q⟩:=h
 obtain⟨as,ra⟩:=Is.reads I d x v h1 rx
 obtain⟨bs,rb⟩:=Is.reads I d' y u h2 ry
 exact PySem.SeqAt.compareNe_shaped ra rb s1.shaped s2.shaped (zo2 hr) ⟨.bl (!PyData.eqv d d'),H,I,rfl,q⟩
def zfb:TS:=fun _ _ _=>False
theorem zi1 {st:Stmt}:PS X st zfb:=fun _ _ _ _ _ _ h=>h.elim
def zbl (c:TT)(tb:TS)(D:Ends)(σ:St)(H:Hp):Prop:=∃W:Nat→St→Hp→Prop,(∃m,W m σ H)∧∀m σ H,W m σ H →
 c σ H fun b H1=>if b=true then tb { D with nx:=fun σ' H'=>∃m',m'<m∧W m' σ' H',ct:=fun σ' H'=>∃m',m'<m∧W m' σ' H',bk:=D.nx } σ H1 else D.nx σ H1
theorem z3y {c:Expr}{body:List Stmt}{tc:TT}{tb:TS}{pos:Pos}(hc:PT X c tc)(hb:PSs X body tb)(hp:PassesOwn (model X.prog X.w) X.A X.env X.xe:=by exact PassesOwn.never):PS X (.While c body [] pos) (zbl tc tb):=by
 intro pins s σ H D I h
 obtain⟨W,⟨m0,w0⟩,turn⟩:=h
 refine wpAny_While (codeAny_whileLoop (fun n s'=>∃ σ' H',Inv X pins σ' H' s'∧W n σ' H') ?_ m0 ⟨σ,H,I,w0⟩)
 rintro n s1 ⟨σ1,H1,I1,w1⟩
 refine wpAny_passesOwn hp (thn (hc pins s1 σ1 H1 _ I1 (turn n σ1 H1 w1)) fun b s2 h2=>?_)
 obtain⟨H2,I2,q2⟩:=h2
 cases b with
 | true =>
  rw [if_pos rfl] at q2 ⊢
  refine wpAny_passesOwn hp (thn (hb pins s2 σ1 H2 _ I2 q2) fun f s3 q3=>?_)
  cases f with
  | next =>
   obtain⟨σ3,H3,I3,m',l3,n3⟩:=q3
   exact⟨m',l3,σ3,H3,I3,n3⟩
  | cont =>
   obtain⟨σ3,H3,I3,m',l3,n3⟩:=q3
   exact⟨m',l3,σ3,H3,I3,n3⟩
  | brk=>exact q3
  | ret v=>exact q3
 | false =>
  rw [if_neg y10] at q2 ⊢
  exact wpAny_execs_nil ⟨σ1,H2,I2,q2⟩
end
end L2.EX
set_option Elab.async false
set_option linter.all false
set_option maxRecDepth 100000
namespace L2.EX
open PySem PySem.Spec PyProof.Rows
section
variable {X:Cx}
theorem zfe {A:Around}(h:A.handled=none):A.in1.handled=none:=h
theorem walked {pins:List (Addr×Obj)}{σ:St}{H:Hp}{s:Shared}(I:Inv X pins σ H s){o:Obj}{h':Heap}{tk:Nat}(hk:∀b ob,b ∉ [s.heap.objs.size]→(s.heap.push o).get? b=some ob→h'.get? b=some ob):Inv X pins σ H { s with heap:=h',toks:=tk } :=
 I.kept (t':=tk) fun b ob e=>hk b ob (by
  intro z
  have e1:b=s.heap.objs.size:=y0a.mp z
  have e2:=Heap.lt_size e
  rw [e1] at e2
  exact y2k _ e2) (Heap.get?_push_of_some _ e)
theorem zh5:∀{bs:List Bool} {us:List Value},Vals (bs.map V.bl) us→us=bs.map Value.bool
 | [],_,.nil=>rfl
 | b::bs,_,.cons r t=>by
  cases r
  rw [zh5 t]
  rfl
theorem z3d:∀{ns:List Int} {us:List Value} {i:Nat} {u:Value},Vals (ns.map V.int) us→us[i]?=some u→∃t,u = .int (ns.getD i 0) t
 | [],_,_,_,.nil,h=>by simp at h
 | n::ns,_,0,_,.cons r t,h=>by
  simp at h
  subst h
  exact r
 | n::ns,_,i+1,_,.cons r t,h=>by
  obtain⟨t',e⟩:=z3d (i:=i) t (by simpa using h)
  exact⟨t',by simpa using e⟩
def znw (K:y02)(xs:List V)(H:Hp)(Q:VK):Prop:=match xs with
 | [.ref p]=>∃bs:List Bool,SqL K H p (bs.map V.bl)∧Q (.bl (bs.any id)) H
 | _=>False
theorem zfo (bs:List Bool):((y0c bs.length).any fun i=>bs.getD i false)=bs.any id:=by
 rw [y2m,y1h,y1h]
 constructor
 ·rintro⟨i,hi,e⟩
  have hl:=y1n.mp hi
  refine⟨true,?_,rfl⟩
  have:bs[i]?=some true:=by
   rw [y0o,y01 hl] at e
   rw [y01 hl]
   exact congrArg some e
  exact y03 this
 ·rintro⟨b,hb,e⟩
  obtain⟨i,hi⟩:=y0f hb
  refine⟨i,y1n.mpr (y00.mp hi).1,?_⟩
  rw [y0o,hi]
  exact e
theorem zjt (hc:X.calm=true:=by rfl):z43 X (.builtin "any") (znw X.K):=by
 intro pins s σ H xs us Q I r h
 unfold znw at h
 split at h
 ·rename_i p
  obtain⟨bs,hS,q⟩:=h
  obtain⟨u,rfl,ru⟩:=z7r r
  cases ru
  obtain⟨its,rv,pl,hz⟩:=I.list hS
  have e:=zh5 rv
  subst e
  have hlt:p<s.heap.objs.size:=by
   obtain⟨o,n,e,_⟩:=pl
   exact Heap.lt_size e
  refine call_any_walk (wpAny_pyIter_list pl.isList ?_)
  refine⟨s.heap.objs.size,_,_,_,_,_,fun i=>bs.getD i false,rfl,Walks.list (zfe (I.ok.hd hc)) s.heap.objs.size p (y0x hlt) _,⟨⟨_,Heap.get?_push_size _ rfl,rfl,rfl⟩,pl.isList.push _⟩,fun i v s' Q' E' hv hq=>?_,fun h' tk hk=>?_⟩
  ·have hv':(bs.map Value.bool)[i]?=some v:=by simpa using hv
   rw [y0b] at hv'
   cases hb:bs[i]? with
   | none=>rw [hb] at hv'; cases hv'
   | some b =>
    rw [hb] at hv'
    cases hv'
    have hq':Q' (bs.getD i false) s':=hq
    rw [y0o,hb] at hq'
    exact wpAny_truthy_bool hq'
  ·refine⟨.bl (bs.any id),H,walked I hk,?_,q⟩
   rw [←zfo bs]
   simp [RelV]
 ·exact h.elim
@[reducible] def zpy (K:y02)(xs:List V)(H:Hp)(Q:VK):Prop:=match xs with
 | [.ref p]=>∃ns:List Int,(SqL K H p (ns.map V.int))∧Q (.int ns.sum) H
 | _=>False
theorem z83 (ns:List Int):∀n,n≤ns.length→preSum (fun i=>ns.getD i 0) n=(ns.take n).sum
 | 0,_=>by simp [preSum]
 | n+1,h=>by
  have ih:=z83 ns n (by omega)
  have hn:n<ns.length:=by omega
  have e:ns.take (n+1)=ns.take n ++ [ns[n]]:=(y51 hn).symm
  rw [preSum,ih,y0o,y01 hn,e,y1t]
  simp
theorem zdw (ns:List Int):preSum (fun i=>ns.getD i 0) ns.length=ns.sum:=by
 rw [z83 ns _ (y07 _),List.take_length]
theorem za2 (hc:X.calm=true:=by rfl):z43 X (.builtin "sum") (zpy X.K):=by
 intro pins s σ H xs us Q I r h
 unfold zpy at h
 split at h
 ·rename_i p
  obtain⟨ns,hS,q⟩:=h
  obtain⟨u,rfl,ru⟩:=z7r r
  cases ru
  obtain⟨its,rv,pl,hz⟩:=I.list hS
  have hlen:=rv.length
  have hlt:p<s.heap.objs.size:=by
   obtain⟨o,n,e,_⟩:=pl
   exact Heap.lt_size e
  refine call_sum_walkG (wpAny_pyIter_list pl.isList ?_)
  refine⟨s.heap.objs.size,_,_,_,_,_,fun i=>ns.getD i 0,rfl,Walks.list (zfe (I.ok.hd hc)) s.heap.objs.size p (y0x hlt) _,⟨⟨_,Heap.get?_push_size _ rfl,rfl,rfl⟩,pl.isList.push _⟩,fun b hb=>?_,fun i v hv=>?_,fun h' tk t' hk=>?_⟩
  ·rw [Heap.size_push]
   simp only [y0k,y1c,or_false] at hb
   rcases hb with rfl | rfl
   ·exact y2z _
   ·exact y50 hlt
  ·exact z3d rv (by simpa using hv)
  ·refine⟨.int ns.sum,H,walked I hk,⟨t',?_⟩,q⟩
   have e:its.toArray.size=ns.length:=by simpa using hlen.symm
   rw [e,zdw]
 ·exact h.elim
@[reducible] def zmk (K:y02)(xs:List V)(H:Hp)(Q:VK):Prop:=match xs with
 | [.ref p]=>∃ns:List Int,SqL K H p (ns.map V.int)∧ns ≠ []∧∀z,z∈ns→(∀y∈ns,z≤y)→Q (.int z) H
 | _=>False
theorem z8y (bt:Nat→Nat→Bool):∀k,argBest bt k≤k
 | 0=>y07 _
 | k+1=>by
  have:=z8y bt k
  unfold argBest
  split<;>omega
theorem z5w (ns:List Int):∀k,∀j≤k,ns.getD (argBest (fun i j=>decide (ns.getD i 0<ns.getD j 0)) k) 0≤ns.getD j 0
 | 0,j,h=>by
  have:j=0:=by omega
  subst this
  exact y23 _
 | k+1,j,h=>by
  have ih:=z5w ns k
  unfold argBest
  split
  ·rename_i c
   have c':=of_decide_eq_true c
   by_cases e:j=k+1
   ·subst e; exact y23 _
   ·have:=ih j (by omega)
    omega
  ·rename_i c
   by_cases e:j=k+1
   ·subst e
    have:¬ns.getD (k+1) 0<ns.getD (argBest (fun i j=>decide (ns.getD i 0<ns.getD j 0)) k) 0:=fun z=>c (decide_eq_true z)
    omega
   ·exact ih j (by omega)
theorem zns (hc:X.calm=true:=by rfl):z43 X (.builtin "min") (zmk X.K):=by
 intro pins s σ H xs us Q I r h
 unfold zmk at h
 split at h
 ·rename_i p
  obtain⟨ns,hS,hne,q⟩:=h
  obtain⟨u,rfl,ru⟩:=z7r r
  cases ru
  obtain⟨its,rv,pl,hz⟩:=I.list hS
  have hlen:=rv.length
  have esz:its.toArray.size=ns.length:=by simpa using hlen.symm
  have hpos:0<ns.length:=y0t.mpr hne
  have hlt:p<s.heap.objs.size:=by
   obtain⟨o,n,e,_⟩:=pl
   exact Heap.lt_size e
  refine call_min_walk (wpAny_pyIter_list pl.isList ?_)
  refine⟨s.heap.objs.size,_,_,_,_,_,fun i j=>decide (ns.getD i 0<ns.getD j 0),rfl,Walks.list (zfe (I.ok.hd hc)) s.heap.objs.size p (y0x hlt) _,⟨⟨_,Heap.get?_push_size _ rfl,rfl,rfl⟩,pl.isList.push _⟩,fun b hb=>?_,by omega,fun i j vi vj s' Q' E' hi hj hq=>?_,fun v h' tk hv hk=>?_⟩
  ·rw [Heap.size_push]
   simp only [y0k,y1c,or_false] at hb
   rcases hb with rfl | rfl
   ·exact y2z _
   ·exact y50 hlt
  ·obtain⟨t1,rfl⟩:=z3d rv (by simpa using hi)
   obtain⟨t2,rfl⟩:=z3d rv (by simpa using hj)
   exact lt_int hq
  ·have hv':its[argBest (fun i j=>decide (ns.getD i 0<ns.getD j 0)) (its.length - 1)]?=some v:=by simpa using hv
   obtain⟨t,rfl⟩:=z3d rv hv'
   have esz':its.length=ns.length:=by simpa using esz
   rw [esz']
   have hb:=z8y (fun i j=>decide (ns.getD i 0<ns.getD j 0)) (ns.length - 1)
   refine⟨.int _,H,walked I hk,⟨t,rfl⟩,q _ ?_ fun y hy=>?_⟩
   ·rw [y0o,y01 (by omega)]
    exact y48 _
   ·obtain⟨j,hj⟩:=y0f hy
    have hjl:=(y00.mp hj).1
    have:=z5w ns (ns.length - 1) j (by omega)
    rw [show ns.getD j 0=y by rw [y0o,hj]; rfl] at this
    exact this
 ·exact h.elim
end
end L2.EX
namespace PM
structure Net where
 G:Nat
 nE:Nat
 ends:List (Nat×Nat)
 at':List (List Nat)
structure Net.WF (N:Net):Prop where
 gle:N.G≤N.nE
 len:N.at'.length=N.nE
 lo:∀(k:Nat) p,N.ends[k]?=some p→p.1<N.G∧N.G≤p.2∧p.2<N.nE
 mem:∀(e:Nat) l k,N.at'[e]?=some l→(k∈l↔∃p,N.ends[k]?=some p∧(p.1=e∨p.2=e))
def inc (p:Nat×Nat)(e:Nat):Bool:=decide (p.1=e∨p.2=e)
def load:List (Nat×Nat)→List Int→Nat→Int
 | p::r,s::q,e=>(if inc p e then s else 0)+load r q e
 | _,_,_=>0
theorem zdd:∀{ends:List (Nat×Nat)} {sent:List Int} {k:Nat} {v s:Int} {p:Nat×Nat} {e:Nat},ends[k]?=some p→sent[k]?=some s→load ends (sent.set k v) e=load ends sent e+(if inc p e then v - s else 0)
 | [],_,_,_,_,_,_,h,_=>by simp at h
 | _::_,[],_,_,_,_,_,_,h=>by simp at h
 | p::r,s::q,0,v,s',p',e,h1,h2=>by
  simp at h1 h2
  subst h1 h2
  simp only [y3t,load]
  split<;>omega
 | p::r,s::q,k+1,v,s',p',e,h1,h2=>by
  have ih:=zdd (ends:=r) (sent:=q) (k:=k) (v:=v) (s:=s') (p:=p') (e:=e) (by simpa using h1) (by simpa using h2)
  simp only [y3u,load,ih]
  omega
def addAll (a:Int)(sent:List Int)(l:List Nat):List Int:=l.foldl (fun s k=>s.set k (s.getD k 0+a)) sent
theorem addAll_len (a:Int):∀(l:List Nat) (sent:List Int),(addAll a sent l).length=sent.length
 | [],_=>rfl
 | k::r,sent=>by
  show(addAll a (sent.set k _) r).length=_
  rw [addAll_len a r,y32]
def z35 (ends:List (Nat×Nat))(e:Nat):List Nat→Int
 | []=>0
 | k::r=>(match ends[k]? with | some p=>if inc p e then 1 else 0 | none=>0)+z35 ends e r
theorem z5a {ends:List (Nat×Nat)}{a:Int}{e:Nat}:∀{l:List Nat} {sent:List Int},sent.length=ends.length→(∀k∈l,k<ends.length)→load ends (addAll a sent l) e=load ends sent e+a*z35 ends e l
 | [],sent,_,_=>by simp [addAll,z35]
 | k::r,sent,hl,hk=>by
  have hk0:k<ends.length:=hk k y0d
  have hs:sent[k]?=some (sent[k]'(by omega)):=y01 (by omega)
  have hp:ends[k]?=some ends[k]:=y01 hk0
  have ih:=z5a (ends:=ends) (a:=a) (e:=e) (l:=r) (sent:=sent.set k (sent.getD k 0+a)) (by simpa using hl) (fun j hj=>hk j (y08 _ hj))
  show load ends (addAll a (sent.set k (sent.getD k 0+a)) r) e=_
  rw [ih,zdd hp hs,z35,hp]
  have hg:sent.getD k 0=sent[k]'(by omega):=by simp [y1j,hs]
  rw [hg]
  by_cases hc:inc ends[k] e=true
  ·simp only [hc,if_true,y4j,y57]; omega
  ·simp only [hc,if_false,y4j,Int.mul_zero]; simp
theorem z5l {a:Int}:∀{l:List Nat} {sent:List Int} {k:Nat} {s:Int},sent[k]?=some s→(addAll a sent l)[k]?=some (s+a*(l.count k:Int))
 | [],sent,k,s,h=>by simp [addAll,h]
 | j::r,sent,k,s,h=>by
  have hk:k<sent.length:=(y00.mp h).1
  show(addAll a (sent.set j (sent.getD j 0+a)) r)[k]?=_
  by_cases e:j=k
  ·subst e
   have h':(sent.set j (sent.getD j 0+a))[j]?=some (s+a):=by
    rw [y0y hk]; simp [y1j,h]
   rw [z5l h',List.count_cons_self]
   push_cast
   rw [y4j]
   simp; omega
  ·have h':(sent.set j (sent.getD j 0+a))[k]?=some s:=by rw [y16 e]; exact h
   rw [z5l h',List.count_cons_of_ne (by simpa using e)]
def alt {α:Type}:Bool→List α→List α
 | _,[]=>[]
 | true,x::r=>x::alt false r
 | false,_::r=>alt true r
theorem alt_mem {α:Type}{x:α}:∀{b:Bool} {l:List α},x∈alt b l→x∈l
 | _,[],h=>by cases ‹Bool›<;>simp [alt] at h
 | true,y::r,h=>by
  rcases y0k.mp h with rfl | h
  ·exact y0d
  ·exact y08 _ (alt_mem h)
 | false,y::r,h=>y08 _ (alt_mem (b:=true) h)
theorem zd1 {α:Type}{x:α}:∀{b:Bool} {l:List α},x∈alt b l→∃i,l[i]?=some x∧i % 2=(if b then 0 else 1)
 | b,[],h=>by cases b<;>simp [alt] at h
 | true,y::r,h=>by
  rcases y0k.mp h with rfl | h
  ·exact⟨0,rfl,rfl⟩
  ·obtain⟨i,h1,h2⟩:=zd1 (b:=false) h
   exact⟨i+1,by simpa using h1,by simp at h2 ⊢; omega⟩
 | false,y::r,h=>by
  obtain⟨i,h1,h2⟩:=zd1 (b:=true) h
  exact⟨i+1,by simpa using h1,by simp at h2 ⊢; omega⟩
theorem zhi {l:List Nat}(hn:l.Nodup)(b:Bool)(k:Nat):(alt b l).count k≤1:=by
 have hs:∀(b:Bool) (l:List Nat),(alt b l).Sublist l:=by
  intro b l
  induction l generalizing b with
  | nil=>cases b<;>simp [alt]
  | cons x r ih =>
   cases b
   ·exact List.Sublist.cons _ (ih true)
   ·exact List.Sublist.cons_cons _ (ih false)
 exact y4c.mp (hn.sublist (hs b l)) k
def Tie (N:Net)(a k b:Nat):Prop:=∃p,N.ends[k]?=some p∧((p.1=a∧p.2=b)∨(p.2=a∧p.1=b))
def zks (N:Net):Nat→List Nat→Nat→Prop
 | e,[],f=>e=f
 | e,k::r,f=>∃b,Tie N e k b∧zks N b r f
def one (c:Prop) [Decidable c]:Int:=if c then 1 else 0
theorem zl8 {N:Net}(W:N.WF){a k b x:Nat}(h:Tie N a k b):(match N.ends[k]? with | some p=>if inc p x then (1:Int) else 0 | none=>0)=one (x=a)+one (x=b):=by
 obtain⟨p,e,h⟩:=h
 have hw:=W.lo k p e
 rw [e]
 simp only [inc,one,decide_eq_true_eq]
 rcases h with ⟨rfl,rfl⟩ | ⟨rfl,rfl⟩
 ·by_cases h1:p.1=x<;>by_cases h2:p.2=x<;>simp [h1,h2,eq_comm]<;>omega
 ·by_cases h1:p.1=x<;>by_cases h2:p.2=x<;>simp [h1,h2,eq_comm]<;>omega
theorem z7m {N:Net}(W:N.WF){f x:Nat}:∀{way:List Nat} {e:Nat},zks N e way f→z35 N.ends x (alt true way) - z35 N.ends x (alt false way)=one (x=e)+(if way.length % 2=0 then - one (x=f) else one (x=f))
 | [],e,h=>by
  have h':e=f:=h
  subst h'
  simp [alt,z35]; omega
 | k::r,e,h=>by
  obtain⟨b,t,c⟩:=h
  have ih:=z7m W (x:=x) c
  have hi:=zl8 W (x:=x) t
  show((match N.ends[k]? with | some p=>if inc p x then (1:Int) else 0 | none=>0)+z35 N.ends x (alt false r)) - z35 N.ends x (alt true r)=_
  rw [hi]
  simp only [y11]
  by_cases hp:r.length % 2=0
  ·rw [if_pos hp] at ih
   rw [if_neg (by omega)]
   omega
  ·rw [if_neg hp] at ih
   rw [if_pos (by omega)]
   omega
structure Flow (N:Net)(cap sent spare:List Int):Prop where
 ls:sent.length=N.ends.length
 lc:cap.length=N.nE
 lp:spare.length=N.nE
 nn:∀(k:Nat) s,sent[k]?=some s→0≤s
 eq:∀(e:Nat) c s,cap[e]?=some c→spare[e]?=some s→s=c - load N.ends sent e
 sp:∀(e:Nat) s,spare[e]?=some s→0≤s
def Go (N:Net)(sent:List Int)(a k:Nat):Prop:=a<N.G∨∃s,sent[k]?=some s∧0<s
def Lv (steps:List Int)(e:Nat):Int:=steps.getD e (-1)
structure Path (N:Net)(steps sent:List Int)(es way:List Nat):Prop where
 len:es.length=way.length+1
 link:∀(i:Nat) k,way[i]?=some k→∃a b,es[i]?=some a∧es[i+1]?=some b∧Tie N a k b∧Go N sent a k∧Lv steps b=Lv steps a+1
theorem zcx {N:Net}:∀{way es:List Nat} {g f:Nat},es.length=way.length+1→es[0]?=some g→es[way.length]?=some f→(∀(i:Nat) k,way[i]?=some k→∃a b,es[i]?=some a∧es[i+1]?=some b∧Tie N a k b)→zks N g way f
 | [],es,g,f,_,h0,h1,_=>by
  have h1':es[0]?=some f:=h1
  rw [h0] at h1'
  exact y14 h1'
 | k::r,[],g,f,hl,_,_,_=>by simp at hl
 | k::r,e::es,g,f,hl,h0,h1,h=>by
  obtain⟨a,b,ea,eb,t⟩:=h 0 k rfl
  have e1:e=g:=by simpa using h0
  have e2:e=a:=by simpa using ea
  subst e1 e2
  refine⟨b,t,zcx (es:=es) (by simpa using hl) (by simpa using eb) (by simpa using h1) fun i k' hk=>?_⟩
  obtain⟨a',b',ea',eb',t'⟩:=h (i+1) k' (by simpa using hk)
  exact⟨a',b',by simpa using ea',by simpa using eb',t'⟩
theorem Path.lev {N:Net}{steps sent:List Int}{es way:List Nat}(P:Path N steps sent es way){g:Nat}(h0:es[0]?=some g):∀{i e:Nat},es[i]?=some e→Lv steps e=Lv steps g+i
 | 0,e,h=>by
  rw [h0] at h
  cases h
  simp
 | i+1,e,h=>by
  have hi:i+1<es.length:=(y00.mp h).1
  have hw:i<way.length:=by have:=P.len; omega
  obtain⟨a,b,ea,eb,_,_,hl⟩:=P.link i way[i] (y01 hw)
  rw [h] at eb
  cases eb
  have:=P.lev h0 ea
  rw [hl,this]
  push_cast
  omega
theorem Tie.side {N:Net}(W:N.WF){a k b:Nat}(t:Tie N a k b):(a<N.G↔¬b<N.G):=by
 obtain⟨p,e,h⟩:=t
 have:=W.lo k p e
 rcases h with ⟨rfl,rfl⟩ | ⟨rfl,rfl⟩<;>omega
theorem Path.side {N:Net}(W:N.WF){steps sent:List Int}{es way:List Nat}(P:Path N steps sent es way){g:Nat}(h0:es[0]?=some g)(hg:g<N.G):∀{i e:Nat},es[i]?=some e→(e<N.G↔i % 2=0)
 | 0,e,h=>by
  rw [h0] at h
  cases h
  simp [hg]
 | i+1,e,h=>by
  have hi:i+1<es.length:=(y00.mp h).1
  have hw:i<way.length:=by have:=P.len; omega
  obtain⟨a,b,ea,eb,t,_,_⟩:=P.link i way[i] (y01 hw)
  rw [h] at eb
  cases eb
  have h1:=P.side W h0 hg ea
  have h2:=t.side W
  by_cases ha:a<N.G
  ·have:¬e<N.G:=h2.mp ha
   have:i % 2=0:=h1.mp ha
   constructor<;>intro q<;>omega
  ·have q1:e<N.G:=Classical.byContradiction fun z=>ha (h2.mpr z)
   have q2:¬i % 2=0:=fun z=>ha (h1.mpr z)
   constructor
   ·intro _; omega
   ·intro _; exact q1
theorem Path.nodup {N:Net}{steps sent:List Int}{es way:List Nat}(P:Path N steps sent es way):way.Nodup:=by
 cases h0:es[0]? with
 | none =>
  have:=P.len
  rw [y3n] at h0
  omega
 | some g =>
  rw [List.Nodup,y2l]
  intro i j hi hj hij e
  obtain⟨a,b,ea,eb,⟨p,ep,hp⟩,_,l1⟩:=P.link i way[i] (y01 hi)
  obtain⟨c,d,ec,ed,⟨q,eq,hq⟩,_,l2⟩:=P.link j way[j] (y01 hj)
  rw [←e,ep] at eq
  cases eq
  have v1:=P.lev h0 ea
  have v2:=P.lev h0 ec
  rcases hp with ⟨rfl,rfl⟩ | ⟨rfl,rfl⟩<;>rcases hq with ⟨rfl,rfl⟩ | ⟨rfl,rfl⟩<;>omega
theorem Path.lt {N:Net}{steps sent:List Int}{es way:List Nat}(P:Path N steps sent es way){k:Nat}(h:k∈way):k<N.ends.length:=by
 obtain⟨i,hi⟩:=y0f h
 obtain⟨a,b,_,_,⟨p,ep,_⟩,_,_⟩:=P.link i k hi
 exact(y00.mp ep).1
def sendBy (a:Int)(sent:List Int)(way:List Nat):List Int:=addAll (-a) (addAll a sent (alt true way)) (alt false way)
theorem send_len (a:Int)(sent:List Int)(way:List Nat):(sendBy a sent way).length=sent.length:=by
 unfold sendBy; rw [addAll_len,addAll_len]
theorem zg6 {N:Net}(W:N.WF){steps sent:List Int}{es way:List Nat}(P:Path N steps sent es way){g f:Nat}{a:Int}(h0:es[0]?=some g)(h1:es[way.length]?=some f)(hg:g<N.G)(hf:¬f<N.G)(hl:sent.length=N.ends.length)(x:Nat) :
  load N.ends (sendBy a sent way) x=load N.ends sent x+a*(one (x=g)+one (x=f)):=by
 have c:=zcx P.len h0 h1 fun i k hk=>let ⟨a,b,e1,e2,t,_⟩:=P.link i k hk; ⟨a,b,e1,e2,t⟩
 have d:=z7m W (x:=x) c
 have hodd:way.length % 2=1:=by
  have:=P.side W h0 hg h1
  have:¬way.length % 2=0:=fun z=>hf (this.mpr z)
  omega
 rw [if_neg (by omega)] at d
 unfold sendBy
 rw [z5a (by rw [addAll_len]; exact hl) (fun k hk=>P.lt (alt_mem hk)),z5a hl (fun k hk=>P.lt (alt_mem hk))]
 rw [←d,Int.mul_sub,y5z]
 omega
theorem zf3 {a:Int}{sent:List Int}{way:List Nat}{k:Nat}{s:Int}(h:sent[k]?=some s):(sendBy a sent way)[k]?=some (s+a*((alt true way).count k:Int) - a*((alt false way).count k:Int)):=by
 unfold sendBy
 rw [z5l (z5l h),y5z]
 rfl
theorem Flow.send {N:Net}(W:N.WF){cap steps sent spare:List Int}{es way:List Nat}(F:Flow N cap sent spare)(P:Path N steps sent es way){g f:Nat}{a x y:Int}(h0:es[0]?=some g)(h1:es[way.length]?=some f)(hg:g<N.G)(hf:¬f<N.G)
  (hx:spare[g]?=some x) (hy:spare[f]?=some y) (ha:0≤a) (hax:a≤x) (hay:a≤y) (hb:∀k∈alt false way,∀s,sent[k]?=some s→a≤s):Flow N cap (sendBy a sent way) ((spare.set g (x - a)).set f (y - a)):=by
 have hne:g≠f:=by omega
 have hgl:g<spare.length:=(y00.mp hx).1
 have hfl:f<spare.length:=(y00.mp hy).1
 refine⟨by rw [send_len]; exact F.ls,F.lc,by simpa using F.lp,fun k s' h=>?_,fun e c s' hc h=>?_,fun e s' h=>?_⟩
 ·have hk:k<sent.length:=by
   have:=(y00.mp h).1
   rw [send_len] at this
   exact this
  have hs:sent[k]?=some sent[k]:=y01 hk
  rw [zf3 hs] at h
  cases h
  have n0:=F.nn k _ hs
  have c1:(0:Int)≤a*((alt true way).count k:Int):=y1r ha (y67 _)
  by_cases hm:k∈alt false way
  ·have hq:=hb k hm _ hs
   have h2:=zhi P.nodup false k
   have c2:a*((alt false way).count k:Int)≤a*1:=y2t (by omega) ha
   omega
  ·have z:(alt false way).count k=0:=y68.mpr hm
   rw [z]
   simp
   omega
 ·rw [zg6 W P h0 h1 hg hf F.ls]
  by_cases e1:e=f
  ·subst e1
   rw [y0y (by simpa using hfl)] at h
   cases h
   have:=F.eq e c y hc hy
   simp [one,Ne.symm hne]
   omega
  ·rw [y16 (Ne.symm e1)] at h
   by_cases e2:e=g
   ·subst e2
    rw [y0y hgl] at h
    cases h
    have:=F.eq e c x hc hx
    simp [one,hne]
    omega
   ·rw [y16 (Ne.symm e2)] at h
    have:=F.eq e c s' hc h
    simp [one,e1,e2]
    omega
 ·by_cases e1:e=f
  ·subst e1
   rw [y0y (by simpa using hfl)] at h
   cases h
   omega
  ·rw [y16 (Ne.symm e1)] at h
   by_cases e2:e=g
   ·subst e2
    rw [y0y hgl] at h
    cases h
    omega
   ·rw [y16 (Ne.symm e2)] at h
    exact F.sp e s' h
structure Steps (N:Net)(sent spare steps:List Int):Prop where
 len:steps.length=N.nE
 zero:∀e,Lv steps e=0→e<N.G∧∃x,spare[e]?=some x∧0<x
 src:∀(g:Nat) x,g<N.G→spare[g]?=some x→0<x→Lv steps g=0
 pred:∀e,1≤Lv steps e→∃a k,Tie N a k e∧Go N sent a k∧Lv steps a+1=Lv steps e
def Room (N:Net)(spare:List Int)(e:Nat):Prop:=N.G≤e∧∃x,spare[e]?=some x∧0<x
def zmx (N:Net)(sent steps:List Int):Prop:=∀a k b,Tie N a k b→Go N sent a k→0≤Lv steps a→0≤Lv steps b
def Leads (N:Net)(sent steps:List Int)(a k b:Nat):Prop:=Tie N a k b∧Go N sent a k∧Lv steps b=Lv steps a+1
def Exh (N:Net)(spare tried:List Int)(e:Nat):Prop:=¬Room N spare e∧∃l,N.at'[e]?=some l∧tried[e]?=some (l.length:Int)
def Dead (N:Net)(sent spare steps tried:List Int):Prop:=∀(e:Nat) l (j:Nat) k t,N.at'[e]?=some l→l[j]?=some k→tried[e]?=some t→(j:Int)<t→∀b,Leads N sent steps e k b→Exh N spare tried b
theorem Tie.mem {N:Net}(W:N.WF){a k b:Nat}{l:List Nat}(t:Tie N a k b)(h:N.at'[a]?=some l):k∈l:=by
 obtain⟨p,e,q⟩:=t
 refine(W.mem a l k h).mpr ⟨p,e,?_⟩
 rcases q with ⟨q,_⟩ | ⟨q,_⟩
 ·exact .inl q
 ·exact .inr q
theorem Dead.next {N:Net}(W:N.WF){sent spare steps tried:List Int}(D:Dead N sent spare steps tried){a k b:Nat}(x:Exh N spare tried a)(h:Leads N sent steps a k b):Exh N spare tried b:=by
 obtain⟨_,l,h1,h2⟩:=x
 have hm:=h.1.mem W h1
 obtain⟨j,hj⟩:=y0f hm
 have hjl:j<l.length:=(y00.mp hj).1
 exact D a l j k _ h1 hj h2 (by omega) b h
theorem Dead.all {N:Net}(W:N.WF){sent spare steps tried:List Int}(S:Steps N sent spare steps)(D:Dead N sent spare steps tried)(h:∀g,Lv steps g=0→Exh N spare tried g):∀(d:Nat) e,Lv steps e=d→Exh N spare tried e
 | 0,e,he=>h e (by simpa using he)
 | d+1,e,he=>by
  obtain⟨a,k,t,g,l⟩:=S.pred e (by rw [he]; push_cast; omega)
  have ha:Lv steps a=d:=by push_cast at he; omega
  exact D.next W (Dead.all W S D h d a ha) ⟨t,g,by omega⟩
theorem Steps.least {N:Net}{sent spare steps:List Int}(S:Steps N sent spare steps)(T:Nat→Prop)(h1:∀(g:Nat) x,g<N.G→spare[g]?=some x→0<x→T g)(h2:∀a k b,Tie N a k b→Go N sent a k→T a→T b):∀(d:Nat) e,Lv steps e=d→T e
 | 0,e,he=>by
  obtain⟨hg,x,hx,h0⟩:=S.zero e (by simpa using he)
  exact h1 e x hg hx h0
 | d+1,e,he=>by
  obtain⟨a,k,t,g,l⟩:=S.pred e (by rw [he]; push_cast; omega)
  exact h2 a k e t g (Steps.least S T h1 h2 d a (by push_cast at he; omega))
structure Rows (N:Net)(sent spare:List Int)(d:Nat)(row:List Nat)(steps:List Int):Prop where
 st:Steps N sent spare steps
 row:∀e,e∈row↔Lv steps e=d
 top:∀e,Lv steps e≤d
 exp:∀a k b,Tie N a k b→Go N sent a k→0≤Lv steps a→Lv steps a<d→0≤Lv steps b
 dry:∀e,0≤Lv steps e→Lv steps e<d→¬Room N spare e
structure Behind (N:Net)(sent:List Int)(d:Nat)(row:List Nat)(steps0:List Int)(done:Nat→Nat→Prop)(steps:List Int)(behind:List Nat):Prop where
 len:steps.length=steps0.length
 old:∀e,0≤Lv steps0 e→Lv steps e=Lv steps0 e
 new:∀e,Lv steps0 e<0→(Lv steps e=d+1∧e∈behind∧∃a k,a∈row∧Tie N a k e∧Go N sent a k)∨(Lv steps e<0∧e ∉ behind)
 beh:∀e∈behind,Lv steps0 e<0
 cl:∀a k b,done a k→Tie N a k b→Go N sent a k→0≤Lv steps b
theorem lv_set {steps:List Int}{i e:Nat}{v:Int}(h:i<steps.length):Lv (steps.set i v) e=if e=i then v else Lv steps e:=by
 unfold Lv
 rw [y0o,y0o]
 by_cases he:e=i
 ·subst he
  rw [y0y h,if_pos rfl]; rfl
 ·rw [y16 (Ne.symm he),if_neg he]
theorem Behind.start {N:Net}{sent:List Int}{d:Nat}{row:List Nat}{steps0:List Int}:Behind N sent d row steps0 (fun _ _=>False) steps0 [] :=
 ⟨rfl,fun _ _=>rfl,fun e h=>.inr ⟨h,by simp⟩,fun e h=>by simp at h,fun _ _ _ h=>h.elim⟩
theorem Behind.weak {N:Net}{sent:List Int}{d:Nat}{row:List Nat}{steps0 steps:List Int}{behind:List Nat}{P Q:Nat→Nat→Prop}(B:Behind N sent d row steps0 P steps behind)(h:∀a k,Q a k→P a k):Behind N sent d row steps0 Q steps behind :=
 ⟨B.len,B.old,B.new,B.beh,fun a k b q=>B.cl a k b (h a k q)⟩
theorem Behind.skip {N:Net}(W:N.WF){sent:List Int}{d:Nat}{row:List Nat}{steps0 steps:List Int}{behind:List Nat}{P:Nat→Nat→Prop}{a k b:Nat}(B:Behind N sent d row steps0 P steps behind)(t:Tie N a k b)(h:0≤Lv steps b∨¬Go N sent a k) :
  Behind N sent d row steps0 (fun x y=>P x y∨(x=a∧y=k)) steps behind:=by
 refine⟨B.len,B.old,B.new,B.beh,fun x y z q t' g=>?_⟩
 rcases q with q | ⟨rfl,rfl⟩
 ·exact B.cl x y z q t' g
 ·have e:z=b:=by
   obtain⟨p,e1,h1⟩:=t
   obtain⟨p',e2,h2⟩:=t'
   rw [e1] at e2
   cases e2
   have:=W.lo y p e1
   rcases h1 with ⟨h1,h1'⟩ | ⟨h1,h1'⟩<;>rcases h2 with ⟨h2,h2'⟩ | ⟨h2,h2'⟩<;>omega
  subst e
  rcases h with h | h
  ·exact h
  ·exact absurd g h
theorem Behind.mark {N:Net}(W:N.WF){sent:List Int}{d:Nat}{row:List Nat}{steps0 steps:List Int}{behind:List Nat}{P:Nat→Nat→Prop}{a k b:Nat}(B:Behind N sent d row steps0 P steps behind)(t:Tie N a k b)(g:Go N sent a k)(ha:a∈row)(hb:Lv steps b<0)(hl:b<steps.length) :
  Behind N sent d row steps0 (fun x y=>P x y∨(x=a∧y=k)) (steps.set b (d+1)) (behind ++ [b]):=by
 have hb0:Lv steps0 b<0:=by
  rcases y2p (Lv steps0 b) 0 with z | z
  ·exact z
  ·have:=B.old b z
   omega
 refine⟨by simpa using B.len,fun e he=>?_,fun e he=>?_,fun e he=>?_,fun x y z q t' g'=>?_⟩
 ·rw [lv_set hl,if_neg (by rintro rfl; omega)]
  exact B.old e he
 ·rw [lv_set hl]
  by_cases e1:e=b
  ·subst e1
   rw [if_pos rfl]
   exact .inl ⟨rfl,by simp,a,k,ha,t,g⟩
  ·rw [if_neg e1]
   rcases B.new e he with ⟨h1,h2,h3⟩ | ⟨h1,h2⟩
   ·exact .inl ⟨h1,by simp [h2],h3⟩
   ·exact .inr ⟨h1,by simp [h2,e1]⟩
 ·rcases y0u.mp he with he | he
  ·exact B.beh e he
  ·have:e=b:=by simpa using he
   subst this
   exact hb0
 ·rw [lv_set hl]
  split
  ·omega
  ·rename_i hz
   rcases q with q | ⟨rfl,rfl⟩
   ·exact B.cl x y z q t' g'
   ·exfalso
    apply hz
    obtain⟨p,e1,h1⟩:=t
    obtain⟨p',e2,h2⟩:=t'
    rw [e1] at e2
    cases e2
    have:=W.lo y p e1
    rcases h1 with ⟨h1,h1'⟩ | ⟨h1,h1'⟩<;>rcases h2 with ⟨h2,h2'⟩ | ⟨h2,h2'⟩<;>omega
theorem Rows.next {N:Net}{sent spare:List Int}{d:Nat}{row:List Nat}{steps0 steps:List Int}{behind:List Nat}(R:Rows N sent spare d row steps0)(B:Behind N sent d row steps0 (fun a _=>a∈row) steps behind)(hd:∀e∈row,¬Room N spare e):Rows N sent spare (d+1) behind steps:=by
 have up:∀e,0≤Lv steps e→0≤Lv steps0 e∨(Lv steps e=d+1∧e∈behind∧∃a k,a∈row∧Tie N a k e∧Go N sent a k):=fun e he=>by
  rcases y2p (Lv steps0 e) 0 with z | z
  ·rcases B.new e z with h | ⟨h,_⟩
   ·exact .inr h
   ·omega
  ·exact .inl z
 refine⟨⟨by rw [B.len]; exact R.st.len,fun e he=>?_,fun g x hg hx h0=>?_,fun e he=>?_⟩,fun e=>⟨fun he=>?_,fun he=>?_⟩,fun e=>?_,fun a k b t g h0 h1=>?_,fun e h0 h1=>?_⟩
 ·rcases up e (by omega) with z | ⟨z,_⟩
  ·exact R.st.zero e (by rw [←B.old e z]; exact he)
  ·omega
 ·have:=R.st.src g x hg hx h0
  rw [B.old g (by omega)]
  exact this
 ·rcases up e (by omega) with z | ⟨z,_,a,k,ha,t,g⟩
  ·obtain⟨a,k,t,g,l⟩:=R.st.pred e (by rw [←B.old e z]; exact he)
   have h1:=B.old e z
   have h2:=B.old a (by omega)
   exact⟨a,k,t,g,by omega⟩
  ·have h1:=(R.row a).mp ha
   have h2:=B.old a (by omega)
   exact⟨a,k,t,g,by omega⟩
 ·rcases B.new e (B.beh e he) with ⟨h,_⟩ | ⟨_,h⟩
  ·push_cast; exact h
  ·exact absurd he h
 ·push_cast at he
  rcases up e (by omega) with z | ⟨_,z,_⟩
  ·have:=B.old e z
   have:=R.top e
   omega
  ·exact z
 ·rcases y2p (Lv steps e) 0 with z | z
  ·omega
  ·rcases up e z with z' | ⟨z',_⟩
   ·have:=B.old e z'
    have:=R.top e
    push_cast; omega
   ·push_cast; omega
 ·push_cast at h1
  rcases up a h0 with z | ⟨z,_⟩
  ·have h2:=B.old a z
   rcases y2p (Lv steps a) d with h3 | h3
   ·have:=R.exp a k b t g z (by omega)
    have:=B.old b this
    omega
   ·exact B.cl a k b ((R.row a).mpr (by omega)) t g
  ·omega
 ·push_cast at h1
  rcases up e h0 with z | ⟨z,_⟩
  ·have h2:=B.old e z
   rcases y2p (Lv steps e) d with h3 | h3
   ·exact R.dry e z (by omega)
   ·exact hd e ((R.row e).mpr (by omega))
  ·omega
def unr (steps:List Int):Nat:=steps.countP fun s=>decide (s<0)
end PM
set_option linter.all false
namespace PM
structure Tr (N:Net)(tried:List Int):Prop where
 len:tried.length=N.nE
 ok:∀(e:Nat) l t,N.at'[e]?=some l→tried[e]?=some t→0≤t∧t≤l.length
theorem set_at {l:List Int}{e b:Nat}{v:Int}(h:b≠e):(l.set e v)[b]?=l[b]?:=y16 (Ne.symm h)
theorem Exh.keep {N:Net}{spare tried:List Int}{e b:Nat}{l:List Nat}{t v:Int}(x:Exh N spare tried b)(h1:N.at'[e]?=some l)(h2:tried[e]?=some t)(h3:t<l.length):Exh N spare (tried.set e v) b:=by
 obtain⟨n,l',h4,h5⟩:=x
 refine⟨n,l',h4,?_⟩
 have hne:b≠e:=by
  rintro rfl
  rw [h1] at h4
  cases h4
  rw [h2] at h5
  cases h5
  omega
 rw [set_at hne]
 exact h5
theorem Dead.step {N:Net}{sent spare steps tried:List Int}(D:Dead N sent spare steps tried){e:Nat}{l:List Nat}{t k:Nat}(h1:N.at'[e]?=some l)(h2:tried[e]?=some (t:Int))(h3:l[t]?=some k)
  (h:∀b,Leads N sent steps e k b→Exh N spare tried b):Dead N sent spare steps (tried.set e ((t:Int)+1)):=by
 have hl:t<l.length:=(y00.mp h3).1
 have he:e<tried.length:=(y00.mp h2).1
 intro e' l' j k' t' g1 g2 g3 g4 b L
 have kp:Exh N spare tried b→Exh N spare (tried.set e ((t:Int)+1)) b:=fun x=>x.keep h1 h2 (by omega)
 by_cases q:e'=e
 ·subst q
  rw [h1] at g1
  cases g1
  rw [y0y he] at g3
  cases g3
  by_cases q:j=t
  ·subst q
   rw [h3] at g2
   cases g2
   exact kp (h b L)
  ·exact kp (D e' l j k' t h1 g2 h2 (by omega) b L)
 ·rw [set_at q] at g3
  exact kp (D e' l' j k' t' g1 g2 g3 g4 b L)
theorem Tr.step {N:Net}{tried:List Int}(T:Tr N tried){e:Nat}{l:List Nat}{t:Nat}(h1:N.at'[e]?=some l)(h2:tried[e]?=some (t:Int))(h3:t<l.length):Tr N (tried.set e ((t:Int)+1)):=by
 have he:e<tried.length:=(y00.mp h2).1
 refine⟨by simpa using T.len,fun e' l' t' g1 g2=>?_⟩
 by_cases q:e'=e
 ·subst q
  rw [h1] at g1
  cases g1
  rw [y0y he] at g2
  cases g2
  constructor<;>omega
 ·rw [set_at q] at g2
  exact T.ok e' l' t' g1 g2
def pot:List (List Nat)→List Int→Nat
 | l::r,t::q=>(l.length - t.toNat)+pot r q
 | _,_=>0
theorem pot_step:∀{at':List (List Nat)} {tried:List Int} {e:Nat} {l:List Nat} {t:Nat},at'[e]?=some l→tried[e]?=some (t:Int)→t<l.length→pot at' (tried.set e ((t:Int)+1))+1=pot at' tried
 | [],_,_,_,_,h,_,_=>by simp at h
 | _::_,[],_,_,_,_,h,_=>by simp at h
 | l::r,x::q,0,l',t,h1,h2,h3=>by
  simp at h1 h2
  subst h1 h2
  simp only [y3t,pot]
  omega
 | l::r,x::q,e+1,l',t,h1,h2,h3=>by
  have ih:=pot_step (at':=r) (tried:=q) (e:=e) (l:=l') (t:=t) (by simpa using h1) (by simpa using h2) h3
  simp only [y3u,pot]
  omega
theorem lv_top:∀(steps:List Int),∃B:Nat,∀e,Lv steps e≤B
 | []=>⟨0,fun e=>by simp [Lv]⟩
 | x::r=>by
  obtain⟨B,h⟩:=lv_top r
  refine⟨B+x.toNat,fun e=>?_⟩
  cases e with
  | zero=>simp [Lv]; omega
  | succ e =>
   have:=h e
   simp [Lv] at this ⊢
   omega
structure Walk (N:Net)(sent spare steps:List Int)(g:Nat)(tried:List Int)(es way:List Nat):Prop where
 tr:Tr N tried
 dead:Dead N sent spare steps tried
 path:es ≠ []→Path N steps sent es way∧es[0]?=some g
 none:es = []→way = []∧Exh N spare tried g
 on:∀(i:Nat) k e,way[i]?=some k→es[i]?=some e→¬Room N spare e∧∃l t,N.at'[e]?=some l∧tried[e]?=some ((t:Nat):Int)∧l[t]?=some k
theorem Tie.uniq {N:Net}(W:N.WF){a k b c:Nat}(t:Tie N a k b)(t':Tie N a k c):b=c:=by
 obtain⟨p,e1,h1⟩:=t
 obtain⟨p',e2,h2⟩:=t'
 rw [e1] at e2
 cases e2
 have:=W.lo k p e1
 rcases h1 with ⟨h1,h1'⟩ | ⟨h1,h1'⟩<;>rcases h2 with ⟨h2,h2'⟩ | ⟨h2,h2'⟩<;>omega
theorem Path.inj {N:Net}{steps sent:List Int}{es way:List Nat}(P:Path N steps sent es way){g:Nat}(h0:es[0]?=some g){i j e:Nat}(h1:es[i]?=some e)(h2:es[j]?=some e):i=j:=by
 have a:=P.lev h0 h1
 have b:=P.lev h0 h2
 omega
theorem Walk.skip {N:Net}{sent spare steps tried:List Int}{g:Nat}{es way:List Nat}(w:Walk N sent spare steps g tried es way){e:Nat}{l:List Nat}{t k:Nat}(he:es.getLast?=some e)(h1:N.at'[e]?=some l)(h2:tried[e]?=some (t:Int))(h3:l[t]?=some k)
  (h:∀b,¬Leads N sent steps e k b):Walk N sent spare steps g (tried.set e ((t:Int)+1)) es way:=by
 have hl:t<l.length:=(y00.mp h3).1
 have hne:es ≠ []:=by
  rintro rfl
  simp at he
 obtain⟨P,h0⟩:=w.path hne
 refine⟨w.tr.step h1 h2 hl,w.dead.step h1 h2 h3 fun b L=>absurd L (h b),w.path,fun q=>absurd q hne,fun i k' e' hk hi=>?_⟩
 obtain⟨n,l',t',g1,g2,g3⟩:=w.on i k' e' hk hi
 refine⟨n,l',t',g1,?_,g3⟩
 have hw:i<way.length:=(y00.mp hk).1
 have hlast:es[way.length]?=some e:=by
  rw [y18] at he
  have:=P.len
  rw [show es.length - 1=way.length by omega] at he
  exact he
 rw [set_at (by rintro rfl; have:=P.inj h0 hi hlast; omega)]
 exact g2
theorem Walk.push {N:Net}{sent spare steps tried:List Int}{g:Nat}{es way:List Nat}(w:Walk N sent spare steps g tried es way){e b:Nat}{l:List Nat}{t k:Nat}(he:es.getLast?=some e)(h1:N.at'[e]?=some l)(h2:tried[e]?=some (t:Int))(h3:l[t]?=some k)
  (h:Leads N sent steps e k b) (hr:¬Room N spare e):Walk N sent spare steps g tried (es ++ [b]) (way ++ [k]):=by
 have hne:es ≠ []:=by
  rintro rfl
  simp at he
 obtain⟨P,h0⟩:=w.path hne
 have hlast:es[way.length]?=some e:=by
  rw [y18] at he
  have:=P.len
  rw [show es.length - 1=way.length by omega] at he
  exact he
 have hpos:0<es.length:=y0t.mpr hne
 refine⟨w.tr,w.dead,fun _=>⟨⟨by simp [P.len],fun i k' hk=>?_⟩,?_⟩,fun q=>absurd q (by simp),fun i k' e' hk hi=>?_⟩
 ·rcases y34 i way.length with q | q | q
  ·rw [y0l q] at hk
   obtain⟨a,c,ea,ec,r⟩:=P.link i k' hk
   have:=P.len
   exact⟨a,c,by rw [y0l (by omega)]; exact ea,by rw [y0l (by omega)]; exact ec,r⟩
  ·subst q
   rw [y0s (y07 _)] at hk
   simp at hk
   subst hk
   have:=P.len
   refine⟨e,b,by rw [y0l (by omega)]; exact hlast,?_,h.1,h.2.1,h.2.2⟩
   rw [y0s (by omega),show way.length+1 - es.length=0 by omega]
   rfl
  ·rw [y0s (by omega)] at hk
   rw [y1a (by simp; omega)] at hk
   cases hk
 ·rw [y0l hpos]
  exact h0
 ·rcases y34 i way.length with q | q | q
  ·rw [y0l q] at hk
   have:=P.len
   rw [y0l (by omega)] at hi
   exact w.on i k' e' hk hi
  ·subst q
   rw [y0s (y07 _)] at hk
   simp at hk
   subst hk
   have:=P.len
   rw [y0l (by omega),hlast] at hi
   cases hi
   exact⟨hr,l,t,h1,h2,h3⟩
  ·rw [y0s (by omega)] at hk
   rw [y1a (by simp; omega)] at hk
   cases hk
theorem Walk.pop {N:Net}(W:N.WF){sent spare steps tried:List Int}{g:Nat}{es way:List Nat}(w:Walk N sent spare steps g tried es way){e f:Nat}{l:List Nat}(hes:es.getLast?=some e)(he:es.dropLast.getLast?=some f)(h1:N.at'[e]?=some l)(h2:tried[e]?=some (l.length:Int))
  (hr:¬Room N spare e):∃(t:Nat) (l':List Nat),N.at'[f]?=some l'∧tried[f]?=some (t:Int)∧t<l'.length∧Walk N sent spare steps g (tried.set f ((t:Int)+1)) es.dropLast way.dropLast:=by
 have hne:es ≠ []:=by
  rintro rfl
  simp at hes
 obtain⟨P,h0⟩:=w.path hne
 have pl:=P.len
 have hlast:es[way.length]?=some e:=by
  rw [y18] at hes
  rw [show es.length - 1=way.length by omega] at hes
  exact hes
 have hd:es.dropLast.length=way.length:=by simp; omega
 have hwpos:0<way.length:=by
  rcases y1v way.length with z | z
  ·rw [z] at hd
   rw [y1k.mp hd] at he
   simp at he
  ·exact z
 have hf:es[way.length - 1]?=some f:=by
  rw [y18,hd] at he
  rw [y2h,if_pos (by omega)] at he
  exact he
 obtain⟨k,hk⟩:∃k,way[way.length - 1]?=some k:=⟨_,y01 (by omega)⟩
 obtain⟨a,b,ea,eb,t,gg,lv⟩:=P.link _ k hk
 rw [hf] at ea
 cases ea
 rw [show way.length - 1+1=way.length by omega,hlast] at eb
 cases eb
 obtain⟨n,l',t',g1,g2,g3⟩:=w.on _ k f hk hf
 have htl:t'<l'.length:=(y00.mp g3).1
 have hx:Exh N spare tried e:=⟨hr,l,h1,h2⟩
 refine⟨t',l',g1,g2,htl,w.tr.step g1 g2 htl,w.dead.step g1 g2 g3 fun b L=>?_,fun _=>⟨⟨by simp; omega,fun i k' hk'=>?_⟩,?_⟩,fun q=>?_,fun i k' e' hk' hi=>?_⟩
 ·have:=t.uniq W L.1
  subst this
  exact hx
 ·rw [y2h] at hk'
  split at hk'
  ·rename_i hi
   obtain⟨a,c,ea,ec,r⟩:=P.link i k' hk'
   exact⟨a,c,by rw [y2h,if_pos (by omega)]; exact ea,by rw [y2h,if_pos (by omega)]; exact ec,r⟩
  ·cases hk'
 ·rw [y2h,if_pos (by omega)]
  exact h0
 ·have:=congrArg y5y q
  simp at this
  omega
 ·rw [y2h] at hk' hi
  split at hk'
  ·rename_i hi'
   rw [if_pos (by omega)] at hi
   obtain⟨n',l2,t2,q1,q2,q3⟩:=w.on i k' e' hk' hi
   refine⟨n',l2,t2,q1,?_,q3⟩
   rw [set_at (by rintro rfl; have:=P.inj h0 hi hf; omega)]
   exact q2
  ·cases hk'
theorem Walk.fin {N:Net}{sent spare steps tried:List Int}{g:Nat}{es way:List Nat}(w:Walk N sent spare steps g tried es way){e:Nat}{l:List Nat}(hes:es.getLast?=some e)(he:es.dropLast = [])(h1:N.at'[e]?=some l)(h2:tried[e]?=some (l.length:Int))
  (hr:¬Room N spare e):way = []∧Walk N sent spare steps g tried [] []:=by
 have hne:es ≠ []:=by
  rintro rfl
  simp at hes
 obtain⟨P,h0⟩:=w.path hne
 have pl:=P.len
 have hl:es.length=1:=by
  have:=congrArg y5y he
  simp at this
  have:0<es.length:=y0t.mpr hne
  omega
 have hw:way = []:=y1k.mp (by omega)
 have hg:e=g:=by
  rw [y18,hl] at hes
  have:es[0]?=some e:=hes
  rw [h0] at this
  cases this
  rfl
 subst hg
 exact⟨hw,w.tr,w.dead,fun q=>absurd rfl q,fun _=>⟨rfl,hr,l,h1,h2⟩,fun i k e' hk=>by simp at hk⟩
theorem Walk.short {N:Net}{sent spare steps tried:List Int}{g:Nat}{es way:List Nat}(w:Walk N sent spare steps g tried es way)(hg:Lv steps g=0){B:Nat}(hB:∀e,Lv steps e≤B):es.length≤B+1:=by
 by_cases hne:es = []
 ·subst hne
  simp
 ·obtain⟨P,h0⟩:=w.path hne
  have hpos:0<es.length:=y0t.mpr hne
  have h:=P.lev h0 (i:=es.length - 1) (y01 (by omega))
  have:=hB (es[es.length - 1]'(by omega))
  omega
def wm (B:Nat)(at':List (List Nat))(tried:List Int)(es:List Nat):Nat:=if es = [] then 0 else pot at' tried*(B+3)+(B+2 - es.length)+1
end PM
set_option linter.all false
namespace PM
theorem zlc {α:Type}{x:α}{way:List α}(h:x∈alt false way):∃i,way[i]?=some x∧i % 2=1:=by
 obtain⟨i,h1,h2⟩:=zd1 h
 exact⟨i,h1,by simpa using h2⟩
theorem zhs {α:Type}{x:α}{way:List α}(h:x∈alt true way):∃i,way[i]?=some x∧i % 2=0:=by
 obtain⟨i,h1,h2⟩:=zd1 h
 exact⟨i,h1,by simpa using h2⟩
theorem Path.back {N:Net}(W:N.WF){steps sent:List Int}{es way:List Nat}(P:Path N steps sent es way){g:Nat}(h0:es[0]?=some g)(hg:g<N.G){k:Nat}(h:k∈alt false way):∃s,sent[k]?=some s∧0<s:=by
 obtain⟨i,hk,hi⟩:=zlc h
 obtain⟨a,b,ea,eb,t,go,_⟩:=P.link i k hk
 have:=P.side W h0 hg ea
 rcases go with go | go
 ·omega
 ·exact go
theorem Leads.before {N:Net}(W:N.WF){steps sent:List Int}{es way:List Nat}(P:Path N steps sent es way){g:Nat}(h0:es[0]?=some g)(hg:g<N.G){x:Int}(hx:0≤x)(hl:sent.length=N.ends.length){a k b:Nat}(L:Leads N (sendBy x sent way) steps a k b):Leads N sent steps a k b:=by
 obtain⟨t,go,lv⟩:=L
 refine⟨t,?_,lv⟩
 rcases go with go | ⟨s',h1,h2⟩
 ·exact .inl go
 by_cases ha:a<N.G
 ·exact .inl ha
 have hk:k<sent.length:=by
  have:=(y00.mp h1).1
  rw [send_len] at this
  exact this
 have hs:sent[k]?=some sent[k]:=y01 hk
 refine .inr ⟨_,hs,?_⟩
 rw [zf3 hs] at h1
 cases h1
 have c2:(0:Int)≤x*((alt false way).count k:Int):=y1r hx (y67 _)
 by_cases hm:k∈alt true way
 ·exfalso
  obtain⟨i,hk',hi⟩:=zhs hm
  obtain⟨c,d,ec,ed,t',_,lv'⟩:=P.link i k hk'
  have hc:c<N.G:=(P.side W h0 hg ec).mpr hi
  obtain⟨p,e1,q1⟩:=t
  obtain⟨p',e2,q2⟩:=t'
  rw [e1] at e2
  cases e2
  have:=W.lo k p e1
  have hcb:c=b∧d=a:=by
   rcases q1 with ⟨q1,q1'⟩ | ⟨q1,q1'⟩<;>rcases q2 with ⟨q2,q2'⟩ | ⟨q2,q2'⟩<;>constructor<;>omega
  obtain⟨rfl,rfl⟩:=hcb
  omega
 ·have z:(alt true way).count k=0:=y68.mpr hm
  rw [z] at h2
  simp at h2
  omega
theorem Room.le {N:Net}{spare spare':List Int}(h:∀(e:Nat) x y,spare[e]?=some x→spare'[e]?=some y→y≤x)(hl:spare.length=spare'.length){e:Nat}(r:Room N spare' e):Room N spare e:=by
 obtain⟨h1,y,h2,h3⟩:=r
 have he:e<spare.length:=by
  have:=(y00.mp h2).1
  omega
 have hx:spare[e]?=some spare[e]:=y01 he
 have:=h e _ _ hx h2
 exact⟨h1,_,hx,by omega⟩
theorem Dead.send {N:Net}(W:N.WF){steps sent spare spare' tried:List Int}{es way:List Nat}(P:Path N steps sent es way){g:Nat}(h0:es[0]?=some g)(hg:g<N.G){x:Int}(hx:0≤x)(hl:sent.length=N.ends.length)
  (h:∀(e:Nat) x y,spare[e]?=some x→spare'[e]?=some y→y≤x) (hl':spare.length=spare'.length) (D:Dead N sent spare steps tried):Dead N (sendBy x sent way) spare' steps tried:=by
 intro e l j k t h1 h2 h3 h4 b L
 obtain⟨n,r⟩:=D e l j k t h1 h2 h3 h4 b (L.before W P h0 hg hx hl)
 exact⟨fun q=>n (q.le h hl'),r⟩
theorem zbi:∀{l:List Int} {i:Nat} {x v:Int},l[i]?=some x→(l.set i v).sum=l.sum+v - x
 | [],_,_,_,h=>by simp at h
 | y::r,0,x,v,h=>by
  simp at h
  subst h
  simp only [y3t,y0n]
  omega
 | y::r,i+1,x,v,h=>by
  have ih:=zbi (l:=r) (i:=i) (x:=x) (v:=v) (by simpa using h)
  simp only [y3u,y0n,ih]
  omega
theorem sum_nn:∀{l:List Int},(∀(i:Nat) x,l[i]?=some x→0≤x)→0≤l.sum
 | [],_=>by simp
 | y::r,h=>by
  have h0:=h 0 y rfl
  have ih:=sum_nn (l:=r) fun i x hx=>h (i+1) x (by simpa using hx)
  simp only [y0n]
  omega
structure Sent (N:Net)(cap:List Int)(sent spare:List Int)(way:List Nat)(g f:Nat)(a:Int)(spare':List Int):Prop where
 flow:Flow N cap (sendBy a sent way) spare'
 le:∀(e:Nat) x y,spare[e]?=some x→spare'[e]?=some y→y≤x
 sum:spare'.sum=spare.sum - 2*a
theorem Flow.sent {N:Net}(W:N.WF){cap steps sent spare:List Int}{es way:List Nat}(F:Flow N cap sent spare)(P:Path N steps sent es way){g f:Nat}{a x y:Int}(h0:es[0]?=some g)(h1:es[way.length]?=some f)(hg:g<N.G)(hf:¬f<N.G)
  (hx:spare[g]?=some x) (hy:spare[f]?=some y) (ha:0≤a) (hax:a≤x) (hay:a≤y) (hb:∀k∈alt false way,∀s,sent[k]?=some s→a≤s):Sent N cap sent spare way g f a ((spare.set g (x - a)).set f (y - a)):=by
 have hne:f≠g:=by omega
 have hgl:g<spare.length:=(y00.mp hx).1
 have hfl:f<spare.length:=(y00.mp hy).1
 have hy':(spare.set g (x - a))[f]?=some y:=by rw [set_at hne]; exact hy
 refine⟨F.send W P h0 h1 hg hf hx hy ha hax hay hb,fun e u v hu hv=>?_,?_⟩
 ·by_cases e1:e=f
  ·subst e1
   rw [y0y (by simpa using hfl)] at hv
   cases hv
   rw [hy] at hu
   cases hu
   omega
  ·rw [set_at e1] at hv
   by_cases e2:e=g
   ·subst e2
    rw [y0y hgl] at hv
    cases hv
    rw [hx] at hu
    cases hu
    omega
   ·rw [set_at e2,hu] at hv
    cases hv
    omega
 ·rw [zbi hy',zbi hx]
  omega
structure Phase (N:Net)(cap steps sent0 spare0:List Int)(done:List Nat)(sent spare tried:List Int):Prop where
 flow:Flow N cap sent spare
 tr:Tr N tried
 dead:Dead N sent spare steps tried
 le:∀(e:Nat) x y,spare0[e]?=some x→spare[e]?=some y→y≤x
 prog:(sent=sent0∧spare=spare0∧∀g∈done,Exh N spare tried g)∨spare.sum<spare0.sum
theorem Phase.walked {N:Net}{cap steps sent0 spare0 sent spare tried tried':List Int}{done:List Nat}(p:Phase N cap steps sent0 spare0 done sent spare tried)(T:Tr N tried')(D:Dead N sent spare steps tried')(h:∀b,Exh N spare tried b→Exh N spare tried' b) :
  Phase N cap steps sent0 spare0 done sent spare tried' :=
 ⟨p.flow,T,D,p.le,p.prog.imp (fun ⟨a,b,c⟩=>⟨a,b,fun g hg=>h g (c g hg)⟩) id⟩
theorem Phase.sent {N:Net}(W:N.WF){cap steps sent0 spare0 sent spare tried spare':List Int}{done:List Nat}(p:Phase N cap steps sent0 spare0 done sent spare tried){es way:List Nat}(P:Path N steps sent es way){g f:Nat}{a:Int}(h0:es[0]?=some g)(hg:g<N.G)(ha:0<a)
  (S:Sent N cap sent spare way g f a spare'):Phase N cap steps sent0 spare0 done (sendBy a sent way) spare' tried:=by
 have hl:spare.length=spare'.length:=by rw [p.flow.lp,S.flow.lp]
 refine⟨S.flow,p.tr,p.dead.send W P h0 hg (y1p ha) p.flow.ls S.le hl,fun e x y hx hy=>?_,.inr ?_⟩
 ·have he:e<spare.length:=by
   have:=(y00.mp hy).1
   omega
  have hz:spare[e]?=some spare[e]:=y01 he
  have h1:=p.le e _ _ hx hz
  have h2:=S.le e _ _ hz hy
  omega
 ·have:=S.sum
  rcases p.prog with ⟨_,rfl,_⟩ | q
  ·omega
  ·omega
theorem Phase.one {N:Net}{cap steps sent0 spare0 sent spare tried:List Int}{done:List Nat}(p:Phase N cap steps sent0 spare0 done sent spare tried){g:Nat}(h:Exh N spare tried g∨spare.sum<spare0.sum):Phase N cap steps sent0 spare0 (done ++ [g]) sent spare tried:=by
 refine⟨p.flow,p.tr,p.dead,p.le,?_⟩
 rcases p.prog with ⟨a,b,c⟩ | q
 ·rcases h with h | h
  ·refine .inl ⟨a,b,fun x hx=>?_⟩
   rcases y0u.mp hx with hx | hx
   ·exact c x hx
   ·have:x=g:=by simpa using hx
    subst this
    exact h
  ·exact .inr h
 ·exact .inr q
theorem Phase.less {N:Net}(W:N.WF){cap steps sent0 spare0 sent spare tried:List Int}{done:List Nat}(p:Phase N cap steps sent0 spare0 done sent spare tried)(S:Steps N sent0 spare0 steps)(hd:∀g,Lv steps g=0→g∈done){e:Nat}(he:0≤Lv steps e)(hr:Room N spare0 e):spare.sum<spare0.sum:=by
 rcases p.prog with ⟨rfl,rfl,c⟩ | q
 ·exact absurd hr (Dead.all W S p.dead (fun g hg=>c g (hd g hg)) (Lv steps e).toNat e (by omega)).1
 ·exact q
structure Done (N:Net)(cap sent spare steps:List Int):Prop where
 flow:Flow N cap sent spare
 st:Steps N sent spare steps
 cl:zmx N sent steps
 dry:∀e,0≤Lv steps e→¬Room N spare e
theorem Rows.done {N:Net}{cap sent spare steps:List Int}{d:Nat}{row:List Nat}(R:Rows N sent spare d row steps)(F:Flow N cap sent spare)(h:row = []∨∃e∈row,Room N spare e)(hd:∀e,0≤Lv steps e→¬Room N spare e):Done N cap sent spare steps:=by
 have hr:row = []:=by
  rcases h with h | ⟨e,he,hr⟩
  ·exact h
  ·exact absurd hr (hd e (by rw [(R.row e).mp he]; omega))
 subst hr
 refine⟨F,R.st,fun a k b t g h0=>?_,hd⟩
 have h1:=R.top a
 have h2:Lv steps a≠d:=fun q=>by
  have:=(R.row a).mpr q
  simp at this
 exact R.exp a k b t g h0 (by omega)
def nr (steps:List Int)(e:Nat):Bool:=decide (0≤Lv steps e)
def z4q (f:Nat→Int):Nat→Int
 | 0=>0
 | n+1=>z4q f n+f n
theorem z99 (f g:Nat→Int):∀n,z4q (fun e=>f e+g e) n=z4q f n+z4q g n
 | 0=>rfl
 | n+1=>by
  simp only [z4q,z99 f g n]
  omega
theorem z5d:∀n,z4q (fun _=>0) n=0
 | 0=>rfl
 | n+1=>by simp [z4q,z5d n]
theorem z9j (a:Nat)(v:Int):∀n,z4q (fun e=>if e=a then v else 0) n=if a<n then v else 0
 | 0=>rfl
 | n+1=>by
  simp only [z4q,z9j a v n]
  by_cases h1:a<n
  ·have h2:n≠a:=by omega
   have h3:a<n+1:=by omega
   simp [h1,h2,h3]
  ·by_cases h2:n=a
   ·subst h2
    simp
   ·have h3:¬a<n+1:=by omega
    simp [h1,h2,h3]
theorem z2t {f g:Nat→Int}:∀{n},(∀e<n,f e=g e)→z4q f n=z4q g n
 | 0,_=>rfl
 | n+1,h=>by
  simp only [z4q]
  rw [z2t (n:=n) fun e he=>h e (by omega),h n (by omega)]
theorem z7h {S:Nat→Bool}{n:Nat}:∀{ends:List (Nat×Nat)} {sent:List Int},(∀p∈ends,p.1≠p.2∧p.1<n∧p.2<n)→sent.length=ends.length →
  z4q (fun e=>if S e then load ends sent e else 0) n=((ends.zip sent).map fun q=>(if S q.1.1 then q.2 else 0)+(if S q.1.2 then q.2 else 0)).sum
 | [],[],_,_=>by
  simp [load,z5d]
 | [],_::_,_,h=>by simp at h
 | _::_,[],_,h=>by simp at h
 | p::r,s::q,h,hl=>by
  have ih:=z7h (S:=S) (n:=n) (ends:=r) (sent:=q) (fun x hx=>h x (y08 _ hx)) (by simpa using hl)
  obtain⟨h1,h2,h3⟩:=h p y0d
  have e:(fun e=>if S e then load (p::r) (s::q) e else 0)=fun e=>((if e=p.1 then (if S p.1 then s else 0) else 0)+(if e=p.2 then (if S p.2 then s else 0) else 0))+(if S e then load r q e else 0):=by
   funext e
   simp only [load,inc]
   by_cases a:e=p.1
   ·subst a
    by_cases c:S p.1=true<;>simp [c,h1]
   ·by_cases b:e=p.2
    ·subst b
     by_cases c:S p.2=true<;>simp [c,a]
    ·have a':¬p.1=e:=fun z=>a z.symm
     have b':¬p.2=e:=fun z=>b z.symm
     simp [a,b,a',b']
  rw [e,z99,z99,ih,z9j,z9j,if_pos h2,if_pos h3]
  simp
theorem z1r {α:Type}{f g:α→Int}:∀{l:List α},(∀x∈l,f x=g x)→(l.map f).sum=(l.map g).sum
 | [],_=>rfl
 | x::r,h=>by
  simp only [y0m,y0n]
  rw [h x y0d,z1r fun y hy=>h y (y08 _ hy)]
theorem zbo:∀{α:Type} {xs:List α} {ys:List Int},ys.length=xs.length→((xs.zip ys).map fun q=>q.2).sum=ys.sum
 | _,[],[],_=>rfl
 | _,[],_::_,h=>by simp at h
 | _,_::_,[],h=>by simp at h
 | _,x::r,y::q,h=>by
  have ih:=zbo (xs:=r) (ys:=q) (by simpa using h)
  simp only [List.zip_cons_cons,y0m,y0n,ih]
end PM
set_option linter.all false
namespace PM
theorem z8r {α:Type}{f g:α→Int}:∀{l:List α},(∀x∈l,f x≤g x)→(l.map f).sum≤(l.map g).sum
 | [],_=>by simp
 | x::r,h=>by
  have:=h x y0d
  have:=z8r (f:=f) (g:=g) (l:=r) fun y hy=>h y (y08 _ hy)
  simp only [y0m,y0n]
  omega
theorem zjd {α:Type}{f g:α→Int}:∀{l:List α},(∀x∈l,f x≤g x)→(l.map g).sum≤(l.map f).sum→∀x∈l,f x=g x
 | [],_,_=>fun _ h=>by simp at h
 | x::r,h,e=>by
  have h0:=h x y0d
  have hr:∀y∈r,f y≤g y:=fun y hy=>h y (y08 _ hy)
  have h1:=z8r hr
  simp only [y0m,y0n] at e
  have ih:=zjd hr (by omega)
  intro y hy
  rcases y0k.mp hy with rfl | hy
  ·omega
  ·exact ih y hy
theorem z9m {f g:Nat→Int}:∀{n},(∀e<n,f e≤g e)→z4q f n≤z4q g n
 | 0,_=>y23 _
 | n+1,h=>by
  have:=z9m (f:=f) (g:=g) (n:=n) fun e he=>h e (by omega)
  have:=h n (by omega)
  simp only [z4q]
  omega
theorem zbd {f g:Nat→Int}:∀{n},(∀e<n,f e≤g e)→z4q g n≤z4q f n→∀e<n,f e=g e
 | 0,_,_=>fun e he=>by omega
 | n+1,h,q=>by
  have h0:∀e<n,f e≤g e:=fun e he=>h e (by omega)
  have h1:=z9m h0
  have h2:=h n (by omega)
  simp only [z4q] at q
  have ih:=zbd h0 (by omega)
  intro e he
  by_cases c:e=n
  ·subst c
   omega
  ·exact ih e (by omega)
def side (N:Net)(S:Nat→Bool)(e:Nat):Bool:=if e<N.G then !S e else S e
theorem Flow.load_le {N:Net}{cap sent spare:List Int}(F:Flow N cap sent spare){e:Nat}(he:e<N.nE):load N.ends sent e≤cap.getD e 0∧(spare.getD e 0=cap.getD e 0 - load N.ends sent e):=by
 have hc:cap[e]?=some (cap[e]'(by rw [F.lc]; exact he)):=y01 _
 have hs:spare[e]?=some (spare[e]'(by rw [F.lp]; exact he)):=y01 _
 have q:=F.eq e _ _ hc hs
 have n0:=F.sp e _ hs
 have:cap.getD e 0=cap[e]'(by rw [F.lc]; exact he):=by simp [y1j,hc]
 have:spare.getD e 0=spare[e]'(by rw [F.lp]; exact he):=by simp [y1j,hs]
 omega
theorem Net.WF.two {N:Net}(W:N.WF):∀p∈N.ends,p.1≠p.2∧p.1<N.nE∧p.2<N.nE:=fun p hp=>by
 obtain⟨k,hk⟩:=y0f hp
 have:=W.lo k p hk
 have:=W.gle
 refine⟨?_,?_,?_⟩<;>omega
theorem Done.ties {N:Net}{cap sent spare steps:List Int}(D:Done N cap sent spare steps):∀a k b,Tie N a k b→a<N.G→nr steps a=true→nr steps b=true:=fun a k b t hg h =>
 decide_eq_true (D.cl a k b t (.inl hg) (of_decide_eq_true h))
theorem Done.sub {N:Net}{cap sent spare steps:List Int}(D:Done N cap sent spare steps){S:Nat→Bool}(h1:∀(g:Nat) x,g<N.G→spare[g]?=some x→0<x→S g=true)(h2:∀a k b,Tie N a k b→Go N sent a k→S a=true→S b=true){e:Nat}(h:nr steps e=true):S e=true:=by
 have h':0≤Lv steps e:=of_decide_eq_true h
 exact D.st.least (fun e=>S e=true) h1 h2 (Lv steps e).toNat e (by omega)
end PM
set_option linter.all false
namespace PM
def z3n (f:Nat→Int)(S:Nat→Bool)(n:Nat):Int:=z4q (fun e=>if S e then f e else 0) n
theorem zkr {f g:Nat→Int}{S:Nat→Bool}{n:Nat}(h:∀e<n,S e=true→f e≤g e):z3n f S n≤z3n g S n:=z9m fun e he=>by
 by_cases c:S e=true
 ·simp only [c,if_true]; exact h e he c
 ·simp [c]
theorem zc6 {f g:Nat→Int}{S:Nat→Bool}{n:Nat}(h:∀e<n,S e=true→f e=g e):z3n f S n=z3n g S n:=z2t fun e he=>by
 by_cases c:S e=true
 ·simp only [c,if_true]; exact h e he c
 ·simp [c]
theorem z61 {N:Net}(W:N.WF){cap sent spare:List Int}(F:Flow N cap sent spare)(S T:Nat→Bool)(hS:∀e,S e=true→e<N.G)(hT:∀e,T e=true→¬e<N.G) :
  z3n (load N.ends sent) S N.nE=((N.ends.zip sent).map fun q=>if S q.1.1 then q.2 else 0).sum∧z3n (load N.ends sent) T N.nE=((N.ends.zip sent).map fun q=>if T q.1.2 then q.2 else 0).sum:=by
 constructor
 ·unfold z3n
  rw [z7h W.two F.ls]
  refine z1r fun q hq=>?_
  obtain⟨k,hk⟩:=y0f hq
  obtain⟨p,s⟩:=q
  obtain⟨hp,_⟩:=y1o.mp hk
  have:=W.lo k p hp
  have hn:S p.2=false:=by
   rcases y1f (S p.2) with z | z
   ·have:=hS _ z; omega
   ·exact z
  simp [hn]
 ·unfold z3n
  rw [z7h W.two F.ls]
  refine z1r fun q hq=>?_
  obtain⟨k,hk⟩:=y0f hq
  obtain⟨p,s⟩:=q
  obtain⟨hp,_⟩:=y1o.mp hk
  have:=W.lo k p hp
  have hn:T p.1=false:=by
   rcases y1f (T p.1) with z | z
   ·exact absurd this.1 (hT _ z)
   ·exact z
  simp [hn]
theorem Done.full {N:Net}(W:N.WF){cap sent spare steps:List Int}(D:Done N cap sent spare steps){e:Nat}(he:e<N.nE)(h:(e<N.G∧nr steps e=false)∨(¬e<N.G∧nr steps e=true)):load N.ends sent e=cap.getD e 0:=by
 have q:=(D.flow.load_le he).2
 have hs:spare[e]?=some (spare[e]'(by rw [D.flow.lp]; exact he)):=y01 _
 have n0:=D.flow.sp e _ hs
 have hg:spare.getD e 0=spare[e]'(by rw [D.flow.lp]; exact he):=by simp [y1j,hs]
 have hz:¬ 0<(spare[e]'(by rw [D.flow.lp]; exact he)):=fun z=>by
  rcases h with ⟨h1,h2⟩ | ⟨h1,h2⟩
  ·have:=D.st.src e _ h1 hs z
   have:¬ 0≤Lv steps e:=of_decide_eq_false h2
   omega
  ·exact D.dry e (of_decide_eq_true h2) ⟨by omega,_,hs,z⟩
 omega
theorem Done.none_sent {N:Net}(W:N.WF){cap sent spare steps:List Int}(D:Done N cap sent spare steps){k:Nat}{p:Nat×Nat}{s:Int}(hp:N.ends[k]?=some p)(hs:sent[k]?=some s)(h1:nr steps p.1=false)(h2:nr steps p.2=true):s=0:=by
 have n0:=D.flow.nn k s hs
 rcases y2p 0 s with z | z
 ·have t:Tie N p.2 k p.1:=⟨p,hp,.inr ⟨rfl,rfl⟩⟩
  have:=D.cl p.2 k p.1 t (.inr ⟨s,hs,z⟩) (of_decide_eq_true h2)
  have:¬ 0≤Lv steps p.1:=of_decide_eq_false h1
  omega
 ·omega
theorem Done.hi {N:Net}(W:N.WF){cap sent spare steps:List Int}(D:Done N cap sent spare steps)(S T:Nat→Bool)(hS:∀e,S e=true→e<N.G∧nr steps e=false)(hT:∀e,T e=true→¬e<N.G)
  (h:∀(k:Nat) (p:Nat×Nat),N.ends[k]?=some p→S p.1=true→nr steps p.2=false→T p.2=true):z3n (fun e=>cap.getD e 0) S N.nE≤z3n (fun e=>cap.getD e 0) T N.nE:=by
 obtain⟨l1,l2⟩:=z61 W D.flow S T (fun e he=>(hS e he).1) hT
 have e1:z3n (fun e=>cap.getD e 0) S N.nE=z3n (load N.ends sent) S N.nE:=zc6 fun e he c=>(D.full W he (.inl (hS e c))).symm
 have e2:z3n (load N.ends sent) T N.nE≤z3n (fun e=>cap.getD e 0) T N.nE:=zkr fun e he _=>(D.flow.load_le he).1
 rw [e1,l1]
 refine y3c ?_ e2
 rw [l2]
 refine z8r fun q hq=>?_
 obtain⟨k,hk⟩:=y0f hq
 obtain⟨p,s⟩:=q
 obtain⟨hp,hs⟩:=y1o.mp hk
 have n0:=D.flow.nn k s hs
 by_cases a:S p.1=true
 ·rcases y1f (nr steps p.2) with z | z
  ·have:=D.none_sent W hp hs (hS _ a).2 z
   subst this
   simp
  ·have:=h k p hp a z
   simp [a,this]
 ·by_cases b:T p.2=true<;>simp [a,b]<;>omega
theorem Done.lo {N:Net}(W:N.WF){cap sent spare steps:List Int}(D:Done N cap sent spare steps)(S T:Nat→Bool)(hS:∀e,S e=true→e<N.G)(hT:∀e,T e=true→¬e<N.G∧nr steps e=true)
  (h:∀(k:Nat) (p:Nat×Nat),N.ends[k]?=some p→nr steps p.1=true→T p.2=true→S p.1=true) (hne:∃e,e<N.nE∧T e=true):z3n (fun e=>cap.getD e 0) T N.nE<z3n (fun e=>cap.getD e 0) S N.nE:=by
 obtain⟨l1,l2⟩:=z61 W D.flow S T hS (fun e he=>(hT e he).1)
 have e1:z3n (fun e=>cap.getD e 0) T N.nE=z3n (load N.ends sent) T N.nE:=zc6 fun e he c=>(D.full W he (.inr (hT e c))).symm
 have le2:∀e<N.nE,(if S e then load N.ends sent e else 0)≤(if S e then cap.getD e 0 else 0):=fun e he=>by
  by_cases c:S e=true
  ·simp only [c,if_true]; exact(D.flow.load_le he).1
  ·simp [c]
 have e2:z3n (load N.ends sent) S N.nE≤z3n (fun e=>cap.getD e 0) S N.nE:=z9m le2
 have tm:∀q∈N.ends.zip sent,(if T q.1.2 then q.2 else 0)≤(if S q.1.1 then q.2 else 0):=fun q hq=>by
  obtain⟨k,hk⟩:=y0f hq
  obtain⟨p,s⟩:=q
  obtain⟨hp,hs⟩:=y1o.mp hk
  have n0:=D.flow.nn k s hs
  by_cases b:T p.2=true
  ·rcases y1f (nr steps p.1) with z | z
   ·have:=h k p hp z b
    simp [b,this]
   ·have:=D.none_sent W hp hs z (hT _ b).2
    subst this
    simp
  ·by_cases a:S p.1=true<;>simp [a,b]<;>omega
 have e3:=z8r tm
 rw [←l1,←l2] at e3
 rcases y2p (z3n (fun e=>cap.getD e 0) T N.nE) (z3n (fun e=>cap.getD e 0) S N.nE) with z | z
 ·exact z
 exfalso
 have q1:=zbd le2 (by show z3n _ S _≤z3n _ S _; omega)
 have q2:=zjd tm (by rw [←l1,←l2]; omega)
 obtain⟨t,ht,hTt⟩:=hne
 have near:=(hT t hTt).2
 have sub:=D.sub (S:=fun e=>nr steps e && !S e && !T e) (fun g x hg hx h0=>?_) (fun a k b tie go ha=>?_) near
 ·simp [hTt] at sub
 ·have n:nr steps g=true:=decide_eq_true (by rw [D.st.src g x hg hx h0]; exact y23 _)
  have hgl:g<N.nE:=by have:=W.gle; omega
  have nT:T g=false:=by
   rcases y1f (T g) with z | z
   ·exact absurd hg (hT g z).1
   ·exact z
  have nS:S g=false:=by
   rcases y1f (S g) with z | z
   ·have:=q1 g hgl
    simp only [z,if_true] at this
    have w:=(D.flow.load_le hgl).2
    have:spare.getD g 0=x:=by simp [y1j,hx]
    omega
   ·exact z
  simp [n,nT,nS]
 ·simp only [y1d,y52] at ha ⊢
  obtain⟨⟨a1,a2⟩,a3⟩:=ha
  have nb:nr steps b=true:=decide_eq_true (D.cl a k b tie go (of_decide_eq_true a1))
  obtain⟨p,hp,q⟩:=tie
  have hlo:=W.lo k p hp
  refine⟨⟨nb,?_⟩,?_⟩
  ·rcases y1f (S b) with z | z
   ·exfalso
    have hb:=hS b z
    have hab:p.2=a∧p.1=b:=by
     rcases q with ⟨q1,q2⟩ | q
     ·omega
     ·exact q
    obtain⟨rfl,rfl⟩:=hab
    rcases go with go | ⟨s,hs,h0⟩
    ·omega
    ·have hm:(p,s)∈N.ends.zip sent:=y03 (i:=k) (y1o.mpr ⟨hp,hs⟩)
     have:=q2 _ hm
     simp only [z,a3,if_true] at this
     simp at this
     omega
   ·exact z
  ·rcases y1f (T b) with z | z
   ·exfalso
    have hb:=(hT b z).1
    have hab:p.1=a∧p.2=b:=by
     rcases q with q | ⟨q1,q2⟩
     ·exact q
     ·omega
    obtain⟨rfl,rfl⟩:=hab
    have:=h k p hp a1 z
    rw [a2] at this
    cases this
   ·exact z
theorem zif {N:Net}(W:N.WF){cap sent spare:List Int}(F:Flow N cap sent spare):z3n (load N.ends sent) (fun e=>decide (e<N.G)) N.nE=sent.sum∧z3n (load N.ends sent) (fun e=>!decide (e<N.G)) N.nE=sent.sum:=by
 obtain⟨l1,l2⟩:=z61 W F (fun e=>decide (e<N.G)) (fun e=>!decide (e<N.G)) (fun e h=>of_decide_eq_true h) (fun e h=>by simpa using h)
 have c1:((N.ends.zip sent).map fun q=>if (decide (q.1.1<N.G))=true then q.2 else 0).sum=sent.sum:=by
  rw [←zbo F.ls]
  refine z1r fun q hq=>?_
  obtain⟨k,hk⟩:=y0f hq
  obtain⟨p,s⟩:=q
  obtain⟨hp,hs⟩:=y1o.mp hk
  have:=W.lo k p hp
  simp [this.1]
 have c2:((N.ends.zip sent).map fun q=>if (!decide (q.1.2<N.G))=true then q.2 else 0).sum=sent.sum:=by
  rw [←zbo F.ls]
  refine z1r fun q hq=>?_
  obtain⟨k,hk⟩:=y0f hq
  obtain⟨p,s⟩:=q
  obtain⟨hp,hs⟩:=y1o.mp hk
  have:=W.lo k p hp
  have:¬p.2<N.G:=by omega
  simp [this]
 exact⟨l1.trans c1,l2.trans c2⟩
theorem Done.far {N:Net}(W:N.WF){cap sent spare steps:List Int}(D:Done N cap sent spare steps)(hs:z3n (fun e=>cap.getD e 0) (fun e=>decide (e<N.G)) N.nE≤z3n (fun e=>cap.getD e 0) (fun e=>!decide (e<N.G)) N.nE)
  (hn:∃e,nr steps e=true):∃e,¬e<N.G∧e<N.nE∧nr steps e=false:=by
 apply Classical.byContradiction
 intro hc
 have hall:∀e,¬e<N.G→e<N.nE→nr steps e=true:=fun e h1 h2=>by
  rcases y1f (nr steps e) with z | z
  ·exact z
  ·exact absurd ⟨e,h1,h2,z⟩ hc
 obtain⟨a1,a2⟩:=zif W D.flow
 have e1:z3n (fun e=>cap.getD e 0) (fun e=>!decide (e<N.G)) N.nE=sent.sum:=by
  rw [←a2]
  refine zc6 fun e he c=>(D.full W he (.inr ⟨?_,hall e ?_ he⟩)).symm
  ·simpa using c
  ·simpa using c
 have le:∀e<N.nE,(if (decide (e<N.G))=true then load N.ends sent e else 0)≤(if (decide (e<N.G))=true then cap.getD e 0 else 0):=fun e he=>by
  by_cases c:(decide (e<N.G))=true
  ·simp only [c,if_true]; exact(D.flow.load_le he).1
  ·simp [c]
 have q:=zbd le (by show z3n _ _ _≤z3n _ _ _; rw [a1]; omega)
 obtain⟨e,he⟩:=hn
 have hl:0≤Lv steps e:=of_decide_eq_true he
 have:∀(d:Nat) e,Lv steps e=d→False:=by
  intro d
  induction d with
  | zero =>
   intro e h
   obtain⟨hg,x,hx,h0⟩:=D.st.zero e (by simpa using h)
   have hgl:e<N.nE:=by have:=W.gle; omega
   have:=q e hgl
   simp only [hg,decide_true,if_true] at this
   have w:=(D.flow.load_le hgl).2
   have:spare.getD e 0=x:=by simp [y1j,hx]
   omega
  | succ d ih =>
   intro e h
   obtain⟨a,k,t,g,l⟩:=D.st.pred e (by rw [h]; push_cast; omega)
   exact ih a (by push_cast at h; omega)
 exact this (Lv steps e).toNat e (by omega)
end PM
set_option linter.all false
namespace PM
theorem z8j (f:Nat→Int):∀n,z4q f (n+1)=f 0+z4q (fun e=>f (e+1)) n
 | 0=>by simp [z4q]
 | n+1=>by
  rw [z4q,z8j f n]
  simp only [z4q]
  omega
theorem z60 (f:Nat→Int)(a:Nat):∀b,z4q f (a+b)=z4q f a+z4q (fun e=>f (a+e)) b
 | 0=>by simp [z4q]
 | b+1=>by
  rw [←Nat.add_assoc,z4q,z60 f a b]
  simp only [z4q]
  omega
theorem z7q {φ:Nat→Int}:∀(l:List Nat),z4q (fun e=>φ (l.getD e 0)) l.length=(l.map φ).sum
 | []=>rfl
 | x::r=>by
  rw [y11,z8j]
  have ih:=z7q (φ:=φ) r
  simp only [y0m,y0n,←ih]
  congr 1
def netOf (g t:Nat)(ties:List (Nat×Nat))(at':List (List Nat)):Net:=⟨g,g+t,ties.map fun p=>(p.1,g+p.2),at'⟩
theorem zgq {f:Nat→Int}{A:Nat→Bool}{l:List Nat}{t:Nat}{φ:Nat→Int}(h:∀e<l.length,f e = φ (l.getD e 0)):z3n f (fun e=>decide (e<l.length)&&A (l.getD e 0)) (l.length+t)=(l.map fun c=>if A c then φ c else 0).sum:=by
 unfold z3n
 rw [z60,←z7q (φ:=fun c=>if A c then φ c else 0)]
 have z:z4q (fun e=>if (decide (l.length+e<l.length)&&A (l.getD (l.length+e) 0))=true then f (l.length+e) else 0) t=0:=by
  refine(z2t fun e _=>?_).trans (z5d t)
  have:¬l.length+e<l.length:=by omega
  simp [this]
 rw [z,y3d]
 refine z2t fun e he=>?_
 simp [he,h e he]
theorem zfr {f:Nat→Int}{A:Nat→Bool}{l:List Nat}{g:Nat}{φ:Nat→Int}(h:∀e<l.length,f (g+e) = φ (l.getD e 0)):z3n f (fun e=>!decide (e<g)&&A (l.getD (e - g) 0)) (g+l.length)=(l.map fun c=>if A c then φ c else 0).sum:=by
 unfold z3n
 rw [z60,←z7q (φ:=fun c=>if A c then φ c else 0)]
 have z:z4q (fun e=>if (!decide (e<g)&&A (l.getD (e - g) 0))=true then f e else 0) g=0:=by
  refine(z2t fun e he=>?_).trans (z5d g)
  simp [he]
 rw [z,y3r]
 refine z2t fun e he=>?_
 have:¬g+e<g:=by omega
 have k:g+e - g=e:=by omega
 simp [this,k,h e he]
section
variable {wk:Nat→Int}{dr:Nat→List Nat}{hands chores:List Nat}
def TiesOk (dr:Nat→List Nat)(hands chores:List Nat)(ties:List (Nat×Nat)):Prop:=∀g t:Nat,(g,t)∈ties↔∃c h,chores[g]?=some c∧hands[t]?=some h∧h∈dr c
structure Cut (wk:Nat→Int)(dr:Nat→List Nat)(hands chores:List Nat)(m W:Int)(nc nh:Nat→Bool):Prop where
 up:∀c∈chores,∀h∈hands,h∈dr c→nc c=true→nh h=true
 hi:∀T:Nat→Bool,(chores.map fun c=>if (!nc c&&hands.all fun h=>(nh h || !(dr c).contains h||T h)) then wk c*m else 0).sum≤(hands.map fun h=>if (!nh h&&T h) then W else 0).sum
 lo:∀T:Nat→Bool,(∃h∈hands,nh h=true∧T h=true)→(hands.map fun h=>if (nh h&&T h) then W else 0).sum<(chores.map fun c=>if (nc c&&hands.any fun h=>((dr c).contains h&&T h)) then wk c*m else 0).sum
 far:(∃h∈hands,nh h=true)→∃h∈hands,nh h=false
theorem getD_of {l:List Nat}{i x:Nat}(h:l[i]?=some x):l.getD i 0=x:=by simp [y1j,h]
theorem get_of_lt {l:List Nat}{i:Nat}(h:i<l.length):l[i]?=some (l.getD i 0):=by
 rw [y01 h]; simp [y1j,y01 h]
theorem zq4 {m:Int}{W:Int}:(∀e<chores.length,(chores.map (fun c=>wk c*m)++y06 hands.length W).getD e 0=wk (chores.getD e 0)*m)∧∀e<hands.length,(chores.map (fun c=>wk c*m)++y06 hands.length W).getD (chores.length+e) 0=W:=by
 constructor
 ·intro e he
  rw [y0o,y0l (by simpa using he),y0b,get_of_lt he]
  rfl
 ·intro e he
  rw [y0o,y0s (by simp),y04,Nat.add_sub_cancel_left,y1i,if_pos he]
  rfl
theorem cut_of {m W:Int}{ties:List (Nat×Nat)}{at':List (List Nat)}{sent spare steps:List Int}{nc nh:Nat→Bool}(hok:TiesOk dr hands chores ties)(WF:(netOf chores.length hands.length ties at').WF)
  (D:Done (netOf chores.length hands.length ties at') (chores.map (fun c=>wk c*m)++y06 hands.length W) sent spare steps) (hc:∀(i c:Nat),chores[i]?=some c→nc c=nr steps i) (hh:∀(i h:Nat),hands[i]?=some h→nh h=nr steps (chores.length+i))
  (hsum:(chores.map fun c=>wk c*m).sum=(hands.map fun _=>W).sum):Cut wk dr hands chores m W nc nh:=by
 obtain⟨cp1,cp2⟩:=zq4 (wk:=wk) (hands:=hands) (chores:=chores) (m:=m) (W:=W)
 have tie:∀(k:Nat) (p:Nat×Nat),(netOf chores.length hands.length ties at').ends[k]?=some p→∃t c h,p.2=chores.length+t∧chores[p.1]?=some c∧hands[t]?=some h∧h∈dr c:=fun k p hp=>by
  have hp':(ties.map fun p=>(p.1,chores.length+p.2))[k]?=some p:=hp
  rw [y0b] at hp'
  cases q:ties[k]? with
  | none=>rw [q] at hp'; cases hp'
  | some x =>
   rw [q] at hp'
   cases hp'
   obtain⟨c,h,h1,h2,h3⟩:=(hok x.1 x.2).mp (y03 q)
   exact⟨x.2,c,h,rfl,h1,h2,h3⟩
 have mk:∀(g t c h:Nat),chores[g]?=some c→hands[t]?=some h→h∈dr c→∃k:Nat,(netOf chores.length hands.length ties at').ends[k]?=some (g,chores.length+t):=fun g t c h h1 h2 h3=>by
  obtain⟨k,hk⟩:=y0f ((hok g t).mpr ⟨c,h,h1,h2,h3⟩)
  refine⟨k,?_⟩
  show(ties.map fun p=>(p.1,chores.length+p.2))[k]?=_
  rw [y0b,hk]
  rfl
 refine⟨fun c hc' h hh' hd hn=>?_,fun T=>?_,fun T hT=>?_,fun hn=>?_⟩
 ·obtain⟨g,hg⟩:=y0f hc'
  obtain⟨t,ht⟩:=y0f hh'
  obtain⟨k,hk⟩:=mk g t c h hg ht hd
  rw [hh t h ht]
  refine D.ties g k (chores.length+t) ⟨_,hk,.inl ⟨rfl,rfl⟩⟩ (y00.mp hg).1 ?_
  rw [←hc g c hg]
  exact hn
 ·have q:=D.hi WF (fun e=>decide (e<chores.length)&&(fun c=>!nc c&&hands.all fun h=>(nh h || !(dr c).contains h||T h)) (chores.getD e 0)) (fun e=>!decide (e<chores.length)&&(fun h=>!nh h&&T h) (hands.getD (e - chores.length) 0)) (fun e he=>?_) (fun e he=>?_) (fun k p hp hS hn=>?_)
  ·have g1:=zgq (f:=fun e=>(chores.map (fun c=>wk c*m)++y06 hands.length W).getD e 0) (A:=fun c=>!nc c&&hands.all fun h=>(nh h || !(dr c).contains h||T h)) (l:=chores) (t:=hands.length) (φ:=fun c=>wk c*m) cp1
   have g2:=zfr (f:=fun e=>(chores.map (fun c=>wk c*m)++y06 hands.length W).getD e 0) (A:=fun h=>!nh h&&T h) (l:=hands) (g:=chores.length) (φ:=fun _=>W) cp2
   exact y3c (y3e g1.symm) (y3c q (y3e g2))
  ·rw [y1d] at he
   have h1:e<chores.length:=of_decide_eq_true he.1
   refine⟨h1,?_⟩
   have h2:=he.2
   simp only [y1d,y52] at h2
   rw [←hc e _ (get_of_lt h1)]
   exact h2.1
  ·rw [y1d] at he
   show ¬e<chores.length
   simpa using he.1
  ·obtain⟨t,c,h,e2,h1,h2,h3⟩:=tie k p hp
   rw [y1d] at hS
   have hS2:=hS.2
   rw [getD_of h1] at hS2
   simp only [y1d,y27,y5k,y52] at hS2
   have nn:nh h=false:=by rw [hh t h h2,←e2]; exact hn
   have hx:=hS2.2 h (y03 h2)
   have hT:T h=true:=by
    rcases hx with (z | z) | z
    ·rw [nn] at z; cases z
    ·rw [y21.mpr h3] at z; cases z
    ·exact z
   have hlt:¬p.2<chores.length:=by omega
   have hsub:p.2 - chores.length=t:=by omega
   show(!decide (p.2<chores.length)&&(!nh (hands.getD (p.2 - chores.length) 0)&&T (hands.getD (p.2 - chores.length) 0)))=true
   rw [hsub,getD_of h2,nn,hT,decide_eq_false hlt]
   rfl
 ·have q:=D.lo WF (fun e=>decide (e<chores.length)&&(fun c=>nc c&&hands.any fun h=>((dr c).contains h&&T h)) (chores.getD e 0)) (fun e=>!decide (e<chores.length)&&decide (e<chores.length+hands.length)&&(fun h=>nh h&&T h) (hands.getD (e - chores.length) 0)) (fun e he=>?_) (fun e he=>?_) (fun k p hp hn hS=>?_) ?_
  ·have g1:=zgq (f:=fun e=>(chores.map (fun c=>wk c*m)++y06 hands.length W).getD e 0) (A:=fun c=>nc c&&hands.any fun h=>((dr c).contains h&&T h)) (l:=chores) (t:=hands.length) (φ:=fun c=>wk c*m) cp1
   have g2:=zfr (f:=fun e=>(chores.map (fun c=>wk c*m)++y06 hands.length W).getD e 0) (A:=fun h=>nh h&&T h) (l:=hands) (g:=chores.length) (φ:=fun _=>W) cp2
   have e2:z3n (fun e=>(chores.map (fun c=>wk c*m)++y06 hands.length W).getD e 0) (fun e=>!decide (e<chores.length)&&decide (e<chores.length+hands.length)&&(fun h=>nh h&&T h) (hands.getD (e - chores.length) 0)) (chores.length+hands.length)
    =z3n (fun e=>(chores.map (fun c=>wk c*m)++y06 hands.length W).getD e 0) (fun e=>!decide (e<chores.length)&&(fun h=>nh h&&T h) (hands.getD (e - chores.length) 0)) (chores.length+hands.length):=by
    refine z2t fun e he=>?_
    simp [he]
   exact Int.lt_of_le_of_lt (y3e (g2.symm.trans e2.symm)) (y3v q (y3e g1))
  ·rw [y1d] at he
   exact of_decide_eq_true he.1
  ·rw [y1d,y1d] at he
   have h1:¬e<chores.length:=by simpa using he.1.1
   have h0:e<chores.length+hands.length:=of_decide_eq_true he.1.2
   refine⟨h1,?_⟩
   have h2:=he.2
   simp only [y1d] at h2
   have h3:=hh (e - chores.length) _ (get_of_lt (by omega))
   rw [show chores.length+(e - chores.length)=e by omega] at h3
   rw [←h3]
   exact h2.1
  ·obtain⟨t,c,h,e2,h1,h2,h3⟩:=tie k p hp
   rw [y1d] at hS
   have hS2:=hS.2
   have hsub:p.2 - chores.length=t:=by omega
   rw [hsub,getD_of h2] at hS2
   simp only [y1d] at hS2
   have hlt:p.1<chores.length:=(y00.mp h1).1
   have nc1:nc c=true:=by rw [hc p.1 c h1]; exact hn
   have an:(hands.any fun h=>((dr c).contains h&&T h))=true:=y1h.mpr ⟨h,y03 h2,by rw [y21.mpr h3,hS2.2]; rfl⟩
   simp only [hlt,decide_true,y78,getD_of h1,nc1,an]
  ·obtain⟨h,h1,h2,h3⟩:=hT
   obtain⟨t,ht⟩:=y0f h1
   have htl:=(y00.mp ht).1
   refine⟨chores.length+t,by show _<chores.length+hands.length; omega,?_⟩
   have:¬chores.length+t<chores.length:=by omega
   have k2:chores.length+t - chores.length=t:=by omega
   have k3:chores.length+t<chores.length+hands.length:=by omega
   show(!decide (chores.length+t<chores.length)&&decide (chores.length+t<chores.length+hands.length)&&(nh (hands.getD (chores.length+t - chores.length) 0)&&T (hands.getD (chores.length+t - chores.length) 0)))=true
   rw [k2,getD_of ht,h2,h3,decide_eq_false this,decide_eq_true k3]
   rfl
 ·obtain⟨h,h1,h2⟩:=hn
  obtain⟨t,ht⟩:=y0f h1
  have hside:z3n (fun e=>(chores.map (fun c=>wk c*m)++y06 hands.length W).getD e 0) (fun e=>decide (e<(netOf chores.length hands.length ties at').G)) (netOf chores.length hands.length ties at').nE≤z3n (fun e=>(chores.map (fun c=>wk c*m)++y06 hands.length W).getD e 0) (fun e=>!decide (e<(netOf chores.length hands.length ties at').G)) (netOf chores.length hands.length ties at').nE:=by
   show z3n _ _ (chores.length+hands.length)≤z3n _ _ (chores.length+hands.length)
   have g1:=zgq (f:=fun e=>(chores.map (fun c=>wk c*m)++y06 hands.length W).getD e 0) (A:=fun _=>true) (l:=chores) (t:=hands.length) (φ:=fun c=>wk c*m) cp1
   have g2:=zfr (f:=fun e=>(chores.map (fun c=>wk c*m)++y06 hands.length W).getD e 0) (A:=fun _=>true) (l:=hands) (g:=chores.length) (φ:=fun _=>W) cp2
   simp only [Bool.and_true,if_true] at g1 g2
   have g1':z3n (fun e=>(chores.map (fun c=>wk c*m)++y06 hands.length W).getD e 0) (fun e=>decide (e<(netOf chores.length hands.length ties at').G)) (chores.length+hands.length)=_:=g1
   have g2':z3n (fun e=>(chores.map (fun c=>wk c*m)++y06 hands.length W).getD e 0) (fun e=>!decide (e<(netOf chores.length hands.length ties at').G)) (chores.length+hands.length)=_:=g2
   rw [g1',g2',hsum]
   exact y23 _
  obtain⟨e,e1,e2,e3⟩:=D.far WF hside ⟨chores.length+t,by rw [←hh t h ht]; exact h2⟩
  have e1':¬e<chores.length:=e1
  have e2':e<chores.length+hands.length:=e2
  have hg:=get_of_lt (l:=hands) (i:=e - chores.length) (by omega)
  refine⟨_,y03 hg,?_⟩
  rw [hh _ _ hg,show chores.length+(e - chores.length)=e by omega]
  exact e3
end
end PM
set_option linter.all false
namespace PM
abbrev Cr:=List Nat×List Nat
section
variable (wk:Nat→Int)(dr:Nat→List Nat)
def zec (c:Cr)(T:Nat→Bool):Int:=(c.2.map fun x=>if (c.1.any fun h=>((dr x).contains h&&T h)) then wk x else 0).sum
def z6q (c:Cr)(T:Nat→Bool):Int:=(c.2.map fun x=>if (c.1.all fun h=>(!(dr x).contains h||T h)) then wk x else 0).sum
def cnt (c:Cr)(T:Nat→Bool):Int:=(c.1.map fun h=>if T h then 1 else 0).sum
def tot (c:Cr):Int:=(c.2.map wk).sum
def Lo (c:Cr)(p q:Int):Prop:=∀T:Nat→Bool,(∃h∈c.1,T h=true)→p*cnt c T<q*zec wk dr c T
def Hi (c:Cr)(p q:Int):Prop:=∀T:Nat→Bool,q*z6q wk dr c T≤p*cnt c T
def zpg (x y:Cr):Prop:=∃p q:Int,0<q∧Lo wk dr x p q∧Hi wk dr y p q
end
def nearOf (c:Cr)(nc nh:Nat→Bool):Cr:=(c.1.filter nh,c.2.filter nc)
def restOf (c:Cr)(nc nh:Nat→Bool):Cr:=(c.1.filter fun h=>!nh h,c.2.filter fun x=>!nc x)
theorem z2j {p:Nat→Bool}{f:Nat→Int}:∀(l:List Nat),((l.filter p).map f).sum=(l.map fun x=>if p x then f x else 0).sum
 | []=>rfl
 | x::r=>by
  rw [y37]
  by_cases h:p x=true
  ·simp [h,z2j r]
  ·simp [h,z2j r]
theorem mul_sum (k:Int)(f:Nat→Int):∀(l:List Nat),k*(l.map f).sum=(l.map fun x=>k*f x).sum
 | []=>by simp
 | x::r=>by
  simp only [y0m,y0n,y4j,mul_sum k f r]
theorem any_filter {p q:Nat→Bool}(l:List Nat):((l.filter p).any q)=l.any fun h=>(p h&&q h):=by
 rw [List.any_filter]
theorem all_filter {p q:Nat→Bool}(l:List Nat):((l.filter p).all q)=l.all fun h=>(!p h||q h):=by
 rw [List.all_filter]
theorem z9y {p q:Nat→Bool}{l:List Nat}(h:∀x∈l,p x=q x):l.any p=l.any q:=by
 rw [y2m,y1h,y1h]
 constructor
 ·rintro⟨x,hx,e⟩; exact⟨x,hx,by rw [←h x hx]; exact e⟩
 ·rintro⟨x,hx,e⟩; exact⟨x,hx,by rw [h x hx]; exact e⟩
theorem zb2 {p q:Nat→Bool}{l:List Nat}(h:∀x∈l,p x=q x):l.all p=l.all q:=by
 rw [y2m,y27,y27]
 constructor
 ·intro g x hx; rw [←h x hx]; exact g x hx
 ·intro g x hx; rw [h x hx]; exact g x hx
section
variable {wk:Nat→Int}{dr:Nat→List Nat}{c:Cr}{m W:Int}{nc nh:Nat→Bool}
theorem zch (T:Nat→Bool):cnt (nearOf c nc nh) T=cnt c (fun h=>nh h&&T h):=by
 unfold cnt nearOf
 rw [z2j]
 refine z1r fun h _=>?_
 by_cases a:nh h=true<;>simp [a]
theorem zcj (T:Nat→Bool):cnt (restOf c nc nh) T=cnt c (fun h=>!nh h&&T h):=by
 unfold cnt restOf
 rw [z2j]
 refine z1r fun h _=>?_
 by_cases a:nh h=true<;>simp [a]
theorem zh1:cnt c (fun _=>true)=c.1.length:=by
 have g:∀l:List Nat,(l.map fun _=>(1:Int)).sum=l.length:=fun l=>by
  induction l with
  | nil=>rfl
  | cons x r ih =>
   simp only [y0m,y0n,y11,ih]
   omega
 unfold cnt
 simp only [if_true]
 exact g _
theorem zmv (T:Nat→Bool):W*cnt c T=(c.1.map fun h=>if T h then W else 0).sum:=by
 unfold cnt
 rw [mul_sum]
 refine z1r fun h _=>?_
 by_cases a:T h=true<;>simp [a]
theorem Cut.touch_near (C:Cut wk dr c.1 c.2 m W nc nh)(T:Nat→Bool):zec wk dr (nearOf c nc nh) T=(c.2.map fun x=>if (nc x&&c.1.any fun h=>((dr x).contains h&&T h)) then wk x else 0).sum:=by
 unfold zec nearOf
 rw [z2j]
 refine z1r fun x hx=>?_
 by_cases a:nc x=true
 ·have e:(c.1.filter nh).any (fun h=>((dr x).contains h&&T h))=c.1.any (fun h=>((dr x).contains h&&T h)):=by
   rw [any_filter]
   refine z9y fun h hh=>?_
   by_cases d:(dr x).contains h=true
   ·rw [C.up x hx h hh (y21.mp d) a]; rfl
   ·have d':(dr x).contains h=false:=by simpa using d
    rw [d']; simp
  rw [a,e]
  simp
 ·simp [a]
theorem Cut.lo_near (C:Cut wk dr c.1 c.2 m W nc nh):Lo wk dr (nearOf c nc nh) W m:=by
 intro T hT
 obtain⟨h,h1,h2⟩:=hT
 have h1':h∈c.1.filter nh:=h1
 obtain⟨h3,h4⟩:=y15.mp h1'
 have q:=C.lo T ⟨h,h3,h4,h2⟩
 rw [zch,zmv,C.touch_near,mul_sum]
 refine y3v q (y3e (z1r fun x _=>?_))
 split<;>simp [y1g]
theorem Cut.hi_rest (C:Cut wk dr c.1 c.2 m W nc nh):Hi wk dr (restOf c nc nh) W m:=by
 intro T
 have q:=C.hi T
 rw [zcj,zmv]
 refine y3c (y3e ?_) q
 unfold z6q restOf
 rw [z2j,mul_sum]
 refine z1r fun x hx=>?_
 have e:(c.1.filter fun h=>!nh h).all (fun h=>(!(dr x).contains h||T h))=c.1.all (fun h=>(nh h || !(dr x).contains h||T h)):=by
  rw [all_filter]
  refine zb2 fun h _=>?_
  by_cases a:nh h=true<;>simp [a]
 rw [e]
 by_cases a:nc x=true
 ·simp [a]
 ·have a':nc x=false:=by simpa using a
  by_cases b:c.1.all (fun h=>(nh h || !(dr x).contains h||T h))=true
  ·rw [b,a']
   simp [y1g]
  ·rw [eq_false_of_ne_true b,a']
   simp
theorem zja (hw:∀x∈c.2,0≤wk x)(T:Nat→Bool):zec wk dr c T≤tot wk c:=by
 unfold zec tot
 refine z8r fun x hx=>?_
 have:=hw x hx
 split<;>omega
theorem ze7:z6q wk dr c (fun _=>true)=tot wk c:=by
 unfold z6q tot
 refine z1r fun x _=>?_
 have:(c.1.all fun h=>(!(dr x).contains h||true))=true:=by simp
 rw [if_pos this]
theorem Lo.avg {p q:Int}(h:Lo wk dr c p q)(hq:0<q)(hne:c.1 ≠ [])(hw:∀x∈c.2,0≤wk x):p*c.1.length<q*tot wk c:=by
 obtain⟨x,hx⟩:=List.exists_mem_of_ne_nil _ hne
 have:=h (fun _=>true) ⟨x,hx,rfl⟩
 rw [zh1] at this
 exact y3v this (y2t (zja hw _) (y1p hq))
theorem Hi.avg {p q:Int}(h:Hi wk dr c p q):q*tot wk c≤p*c.1.length:=by
 have:=h (fun _=>true)
 rw [zh1,ze7] at this
 exact this
theorem Cut.lo_rest (C:Cut wk dr c.1 c.2 m W nc nh){p q:Int}(h:Lo wk dr c p q):Lo wk dr (restOf c nc nh) p q:=by
 intro T hT
 obtain⟨k,h1,h2⟩:=hT
 have h1':k∈c.1.filter fun h=>!nh h:=h1
 obtain⟨h3,h4⟩:=y15.mp h1'
 have g:=h (fun h=>!nh h&&T h) ⟨k,h3,by rw [h4,h2]; rfl⟩
 rw [zcj]
 refine y3v g (y3e ?_)
 congr 1
 unfold zec restOf
 rw [z2j]
 refine z1r fun x hx=>?_
 by_cases a:nc x=true
 ·have e:c.1.any (fun h=>((dr x).contains h&&(!nh h&&T h)))=false:=by
   rw [y6a]
   intro h hh
   by_cases d:(dr x).contains h=true
   ·rw [C.up x hx h hh (y21.mp d) a]; simp
   ·have d':(dr x).contains h=false:=by simpa using d
    rw [d']; simp
  rw [e]
  simp [a]
 ·have e:(c.1.filter fun h=>!nh h).any (fun h=>((dr x).contains h&&T h))=c.1.any (fun h=>((dr x).contains h&&(!nh h&&T h))):=by
   rw [any_filter]
   refine z9y fun h _=>?_
   cases (dr x).contains h<;>cases nh h<;>cases T h<;>rfl
  rw [e]
  simp [a]
theorem Cut.hi_near (C:Cut wk dr c.1 c.2 m W nc nh){p q:Int}(hq:0<q)(hw:∀x∈c.2,0≤wk x)(h:Hi wk dr c p q):Hi wk dr (nearOf c nc nh) p q:=by
 intro T
 have g:=h (fun h=>nh h&&T h)
 rw [zch]
 refine y3c (y2t ?_ (y1p hq)) g
 unfold z6q nearOf
 rw [z2j]
 refine z8r fun x hx=>?_
 have w0:=hw x hx
 by_cases a:nc x=true
 ·have e:(c.1.filter nh).all (fun h=>(!(dr x).contains h||T h))=c.1.all (fun h=>(!(dr x).contains h||(nh h&&T h))):=by
   rw [all_filter]
   refine zb2 fun h hh=>?_
   by_cases d:(dr x).contains h=true
   ·rw [C.up x hx h hh (y21.mp d) a,d]; simp
   ·have d':(dr x).contains h=false:=by simpa using d
    rw [d']; simp
  rw [e,if_pos a]
  exact y23 _
 ·rw [if_neg a]
  split<;>omega
end
structure Crowds (wk:Nat→Int)(dr:Nat→List Nat)(many chores:Nat)(L:List Cr):Prop where
 ord:∀(i:Nat) x y,L[i]?=some x→L[i+1]?=some y→zpg wk dr x y
 ne:∀c∈L,c.1 ≠ []
 own:∀c∈L,∀x∈c.2,∃h∈c.1,h∈dr x
 up:∀(i:Nat) c,L[i]?=some c→∀x∈c.2,∀h∈dr x,∃(j:Nat) (d:Cr),j≤i∧L[j]?=some d∧h∈d.1
 hs:∀h:Nat,(L.map fun c=>c.1.count h).sum=if h<many then 1 else 0
 cs:∀x:Nat,(L.map fun c=>c.2.count x).sum=if x<chores then 1 else 0
 hr:∀c∈L,c.1.Pairwise (· < ·)
 cr:∀c∈L,c.2.Pairwise (· < ·)
theorem z78 {p:Nat→Bool}{l:List Nat}(h:Nat):(l.filter p).count h+(l.filter fun x=>!p x).count h=l.count h:=by
 induction l with
 | nil=>rfl
 | cons x r ih =>
  rw [y37,y37]
  by_cases a:p x=true
  ·simp only [a,if_true,Bool.not_true,y4s,if_false,y5m]
   omega
  ·have a':p x=false:=by simpa using a
   simp only [a',y4s,if_false,Bool.not_false,if_true,y5m]
   omega
theorem z2c {α:Type}{A B:List α}{c:α}(i:Nat):(A++c::B)[i]?=if i<A.length then A[i]? else if i=A.length then some c else B[i - A.length - 1]?:=by
 split
 ·rename_i h; exact y0l h
 ·rename_i h
  rw [y0s (by omega)]
  split
  ·rename_i h2; subst h2; simp
  ·rename_i h2
   rw [show i - A.length=(i - A.length - 1)+1 by omega]
   simp
theorem z4u {α:Type}{A B:List α}{c d:α}(i:Nat):(A++c::d::B)[i]?=if i<A.length then A[i]? else if i=A.length then some c else if i=A.length+1 then some d else B[i - A.length - 2]?:=by
 rw [z2c]
 split
 ·rfl
 ·split
  ·rfl
  ·rename_i h1 h2
   split
   ·rename_i h3
    subst h3
    simp
   ·rename_i h3
    rw [show i - A.length - 1=(i - A.length - 2)+1 by omega]
    simp
theorem Crowds.cut {wk:Nat→Int}{dr:Nat→List Nat}{many chores:Nat}{A B:List Cr}{c:Cr}(hw:∀x,0<wk x)(K:Crowds wk dr many chores (A++c::B)){nc nh:Nat→Bool}(C:Cut wk dr c.1 c.2 c.1.length (tot wk c) nc nh)(hn:∃h∈c.1,nh h=true) :
  Crowds wk dr many chores (A++nearOf c nc nh::restOf c nc nh::B):=by
 have hc:c∈A++c::B:=by simp
 have hcn:=K.ne c hc
 have m0:(0:Int)<c.1.length:=by
  have:=y0t.mpr hcn
  omega
 have w0:∀x∈c.2,0≤wk x:=fun x _=>y1p (hw x)
 have mem:∀d,d∈A++nearOf c nc nh::restOf c nc nh::B→d=nearOf c nc nh∨d=restOf c nc nh∨d∈A++c::B:=fun d hd=>by
  rcases y0u.mp hd with h | h
  ·exact .inr (.inr (y0u.mpr (.inl h)))
  ·rcases y0k.mp h with h | h
   ·exact .inl h
   ·rcases y0k.mp h with h | h
    ·exact .inr (.inl h)
    ·exact .inr (.inr (y0u.mpr (.inr (y08 _ h))))
 obtain⟨hf,hf1,hf2⟩:=C.far hn
 obtain⟨hh,hh1,hh2⟩:=hn
 have nowork:∀x∈c.2,nc x=false→∃h∈c.1,nh h=false∧h∈dr x:=fun x hx hnx=>by
  apply Classical.byContradiction
  intro hno
  have q:=C.hi (fun _=>false)
  have z:(c.1.map fun h=>if (!nh h&&false)=true then tot wk c else 0).sum=0:=by
   have:(c.1.map fun h=>if (!nh h&&false)=true then tot wk c else 0)=c.1.map fun _=>0:=by
    refine y0v fun h _=>?_
    simp
   rw [this]
   clear this
   induction c.1 with
   | nil=>rfl
   | cons a r ih=>simp [ih]
  rw [z] at q
  have pos:(0:Int)<wk x*c.1.length:=y3p (hw x) m0
  have one:wk x*c.1.length≤(c.2.map fun y=>if (!nc y&&c.1.all fun h=>(nh h || !(dr y).contains h||false))=true then wk y*c.1.length else 0).sum:=by
   have nn:∀y∈c.2,(0:Int)≤(if (!nc y&&c.1.all fun h=>(nh h || !(dr y).contains h||false))=true then wk y*c.1.length else 0):=fun y _=>by
    split
    ·exact y1r (y1p (hw y)) (y1p m0)
    ·exact y23 _
   have at':(if (!nc x&&c.1.all fun h=>(nh h || !(dr x).contains h||false))=true then wk x*c.1.length else 0)=wk x*c.1.length:=by
    have:c.1.all (fun h=>(nh h || !(dr x).contains h||false))=true:=by
     rw [y27]
     intro h hh'
     by_cases a:nh h=true
     ·simp [a]
     ·by_cases d:(dr x).contains h=true
      ·exact absurd ⟨h,hh',by simpa using a,y21.mp d⟩ hno
      ·have d':(dr x).contains h=false:=by simpa using d
       rw [d']; simp
    rw [this,hnx]
    rfl
   have key:∀(l:List Nat) (f:Nat→Int),(∀y∈l,0≤f y)→x∈l→f x≤(l.map f).sum:=by
    intro l f hl hm
    induction l with
    | nil=>simp at hm
    | cons a r ih =>
     simp only [y0m,y0n]
     have ha:=hl a y0d
     have hr:∀y∈r,0≤f y:=fun y hy=>hl y (y08 _ hy)
     have hs:0≤(r.map f).sum:=sum_nn fun i v hv=>by
      obtain⟨y,hy,rfl⟩:=y22.mp (y03 hv)
      exact hr y hy
     rcases y0k.mp hm with rfl | hm
     ·omega
     ·have:=ih hr hm
      omega
   exact y3c (y3e at'.symm) (key c.2 (fun y=>if (!nc y&&c.1.all fun h=>(nh h || !(dr y).contains h||false))=true then wk y*c.1.length else 0) nn hx)
  omega
 refine⟨fun i x y hx hy=>?_,fun d hd=>?_,fun d hd=>?_,fun i d hd x hx h hh'=>?_,fun h=>?_,fun x=>?_,fun d hd=>?_,fun d hd=>?_⟩
 ·rw [z4u] at hx hy
  have old:=fun (i:Nat) (x y:Cr) (h1:(A++c::B)[i]?=some x) (h2:(A++c::B)[i+1]?=some y)=>K.ord i x y h1 h2
  rcases y34 (i+1) A.length with h | h | h
  ·rw [if_pos (by omega)] at hx
   rw [if_pos (by omega)] at hy
   exact old i x y (by rw [z2c,if_pos (by omega)]; exact hx) (by rw [z2c,if_pos (by omega)]; exact hy)
  ·rw [if_pos (by omega)] at hx
   rw [if_neg (by omega),if_pos (by omega)] at hy
   cases hy
   obtain⟨p,q,q0,l,u⟩:=old i x c (by rw [z2c,if_pos (by omega)]; exact hx) (by rw [z2c,if_neg (by omega),if_pos (by omega)])
   exact⟨p,q,q0,l,C.hi_near q0 w0 u⟩
  ·rcases y34 i A.length with h' | h' | h'
   ·omega
   ·rw [if_neg (by omega),if_pos h'] at hx
    rw [if_neg (by omega),if_neg (by omega),if_pos (by omega)] at hy
    cases hx
    cases hy
    exact⟨tot wk c,c.1.length,m0,C.lo_near,C.hi_rest⟩
   ·rw [if_neg (by omega),if_neg (by omega)] at hx
    rw [if_neg (by omega),if_neg (by omega),if_neg (by omega)] at hy
    by_cases h2:i=A.length+1
    ·rw [if_pos h2] at hx
     cases hx
     obtain⟨p,q,q0,l,u⟩:=old A.length c y (by rw [z2c,if_neg (by omega),if_pos rfl]) (by rw [z2c,if_neg (by omega),if_neg (by omega)]; rw [show i+1 - A.length - 2=A.length+1 - A.length - 1 by omega] at hy; exact hy)
     exact⟨p,q,q0,C.lo_rest l,u⟩
    ·rw [if_neg h2] at hx
     refine old (i - 1) x y ?_ ?_
     ·rw [z2c,if_neg (by omega),if_neg (by omega),show i - 1 - A.length - 1=i - A.length - 2 by omega]
      exact hx
     ·rw [z2c,if_neg (by omega),if_neg (by omega),show i - 1+1 - A.length - 1=i+1 - A.length - 2 by omega]
      exact hy
 ·rcases mem d hd with rfl | rfl | h
  ·intro z
   have:hh∈(nearOf c nc nh).1:=y15.mpr ⟨hh1,hh2⟩
   rw [z] at this
   simp at this
  ·intro z
   have:hf∈(restOf c nc nh).1:=y15.mpr ⟨hf1,by rw [hf2]; rfl⟩
   rw [z] at this
   simp at this
  ·exact K.ne d h
 ·rcases mem d hd with rfl | rfl | h
  ·intro x hx
   have hx':x∈c.2.filter nc:=hx
   obtain⟨h1,h2⟩:=y15.mp hx'
   obtain⟨h,h3,h4⟩:=K.own c hc x h1
   exact⟨h,y15.mpr ⟨h3,C.up x h1 h h3 h4 h2⟩,h4⟩
  ·intro x hx
   have hx':x∈c.2.filter fun x=>!nc x:=hx
   obtain⟨h1,h2⟩:=y15.mp hx'
   obtain⟨h,h3,h4,h5⟩:=nowork x h1 (by simpa using h2)
   exact⟨h,y15.mpr ⟨h3,by rw [h4]; rfl⟩,h5⟩
  ·exact K.own d h
 ·-- where a doer stands
  have place:∀(j:Nat) (d:Cr) (lim:Nat),(A++c::B)[j]?=some d→h∈d.1→(j<A.length→j≤lim)→(j=A.length→A.length+1≤lim∨(nh h=true∧A.length≤lim))→(A.length<j→j+1≤lim)→∃(j:Nat) (d:Cr),j≤lim∧(A++nearOf c nc nh::restOf c nc nh::B)[j]?=some d∧h∈d.1:=by
   intro j d lim hj hd' b1 b2 b3
   rw [z2c] at hj
   rcases y34 j A.length with q | q | q
   ·rw [if_pos q] at hj
    exact⟨j,d,b1 q,by rw [z4u,if_pos q]; exact hj,hd'⟩
   ·rw [if_neg (by omega),if_pos q] at hj
    cases hj
    by_cases a:nh h=true
    ·refine⟨A.length,nearOf c nc nh,?_,by rw [z4u,if_neg (by omega),if_pos rfl],y15.mpr ⟨hd',a⟩⟩
     rcases b2 q with z | z
     ·omega
     ·exact z.2
    ·rcases b2 q with z | z
     ·exact⟨A.length+1,restOf c nc nh,z,by rw [z4u,if_neg (by omega),if_neg (by omega),if_pos rfl],y15.mpr ⟨hd',by simpa using a⟩⟩
     ·exact absurd z.1 a
   ·rw [if_neg (by omega),if_neg (by omega)] at hj
    exact⟨j+1,d,b3 q,by rw [z4u,if_neg (by omega),if_neg (by omega),if_neg (by omega),show j+1 - A.length - 2=j - A.length - 1 by omega]; exact hj,hd'⟩
  rw [z4u] at hd
  rcases y34 i A.length with q | q | q
  ·rw [if_pos q] at hd
   obtain⟨j,e,h1,h2,h3⟩:=K.up i d (by rw [z2c,if_pos q]; exact hd) x hx h hh'
   exact place j e i h2 h3 (fun _=>h1) (fun z=>by omega) (fun z=>by omega)
  ·rw [if_neg (by omega),if_pos q] at hd
   cases hd
   have hx':x∈c.2.filter nc:=hx
   obtain⟨g1,g2⟩:=y15.mp hx'
   obtain⟨j,e,h1,h2,h3⟩:=K.up i c (by rw [z2c,if_neg (by omega),if_pos q]) x g1 h hh'
   refine place j e i h2 h3 (fun _=>h1) (fun z=>.inr ⟨?_,by omega⟩) (fun z=>by omega)
   rw [z2c,if_neg (by omega),if_pos z] at h2
   cases h2
   exact C.up x g1 h h3 hh' g2
  ·rw [if_neg (by omega),if_neg (by omega)] at hd
   by_cases h2:i=A.length+1
   ·rw [if_pos h2] at hd
    cases hd
    have hx':x∈c.2.filter fun x=>!nc x:=hx
    obtain⟨g1,g2⟩:=y15.mp hx'
    obtain⟨j,e,h1,h2',h3⟩:=K.up A.length c (by rw [z2c,if_neg (by omega),if_pos rfl]) x g1 h hh'
    exact place j e i h2' h3 (fun _=>by omega) (fun z=>.inl (by omega)) (fun z=>by omega)
   ·rw [if_neg h2] at hd
    obtain⟨j,e,h1,h2',h3⟩:=K.up (i - 1) d (by rw [z2c,if_neg (by omega),if_neg (by omega),show i - 1 - A.length - 1=i - A.length - 2 by omega]; exact hd) x hx h hh'
    exact place j e i h2' h3 (fun _=>by omega) (fun z=>.inl (by omega)) (fun z=>by omega)
 ·have:=K.hs h
  rw [←this]
  simp only [y0h,y0m,y1t,y0n]
  have:=z78 (p:=nh) (l:=c.1) h
  have e1:(nearOf c nc nh).1=c.1.filter nh:=rfl
  have e2:(restOf c nc nh).1=c.1.filter fun x=>!nh x:=rfl
  rw [e1,e2]
  omega
 ·have:=K.cs x
  rw [←this]
  simp only [y0h,y0m,y1t,y0n]
  have:=z78 (p:=nc) (l:=c.2) x
  have e1:(nearOf c nc nh).2=c.2.filter nc:=rfl
  have e2:(restOf c nc nh).2=c.2.filter fun x=>!nc x:=rfl
  rw [e1,e2]
  omega
 ·rcases mem d hd with rfl | rfl | h
  ·exact(K.hr c hc).filter _
  ·exact(K.hr c hc).filter _
  ·exact K.hr d h
 ·rcases mem d hd with rfl | rfl | h
  ·exact(K.cr c hc).filter _
  ·exact(K.cr c hc).filter _
  ·exact K.cr d h
theorem Crowds.fall {wk:Nat→Int}{dr:Nat→List Nat}{many chores:Nat}{L:List Cr}(hw:∀x,0<wk x)(K:Crowds wk dr many chores L){i:Nat}{x y:Cr}(hx:L[i]?=some x)(hy:L[i+1]?=some y):tot wk y*x.1.length<tot wk x*y.1.length:=by
 obtain⟨p,q,q0,l,u⟩:=K.ord i x y hx hy
 have a:=l.avg q0 (K.ne x (y03 hx)) (fun z _=>y1p (hw z))
 have b:=u.avg
 have x0:(0:Int)<x.1.length:=by
  have:=y0t.mpr (K.ne x (y03 hx))
  omega
 have y0:(0:Int)<y.1.length:=by
  have:=y0t.mpr (K.ne y (y03 hy))
  omega
 have a1:q*tot wk y*x.1.length≤p*y.1.length*x.1.length:=y2o b (y1p x0)
 have a2:p*x.1.length*y.1.length<q*tot wk x*y.1.length:=y2c a y0
 have a3:q*(tot wk y*x.1.length)<q*(tot wk x*y.1.length):=by
  have e1:q*(tot wk y*x.1.length)=q*tot wk y*x.1.length:=(y28 _ _ _).symm
  have e2:q*(tot wk x*y.1.length)=q*tot wk x*y.1.length:=(y28 _ _ _).symm
  have e3:p*(y.1.length:Int)*x.1.length=p*x.1.length*y.1.length:=by rw [y28,y1g (y.1.length:Int),←y28]
  omega
 exact Int.lt_of_mul_lt_mul_left a3 (y1p q0)
end PM
set_option Elab.async false
set_option linter.all false
set_option maxRecDepth 100000
namespace L2.EX
open PySem PySem.Spec PyProof.Rows
def zjw (xs:List V)(lo hi st:Option Int):List V:=(sliceRange (sliceBounds lo hi st xs.length).1 (sliceBounds lo hi st xs.length).2.1 (sliceBounds lo hi st xs.length).2.2).filterMap (xs[·]?)
theorem Vals.pick {xs:List V}{us:List Value}(r:Vals xs us):∀ix:List Nat,Vals (ix.filterMap (xs[·]?)) (ix.filterMap (us[·]?))
 | []=>.nil
 | i::ix=>by
  have ih:=Vals.pick r ix
  cases h:xs[i]? with
  | none =>
   have h':=r.none_of h
   simp only [y2i,h,h']
   exact ih
  | some x =>
   obtain⟨u,h',q⟩:=r.get h
   simp only [y2i,h,h']
   exact .cons q ih
section
variable {X:Cx}{e ste:Expr}{te:TE}{lo hi:Option Expr}{tl th ts:TO}{pos p2:Pos}
def zow (K:y02)(te:TE)(tl th ts:TO)(σ:St)(H:Hp)(Q:VK):Prop:=te σ H fun x H1=>tl σ H1 fun l H2=>th σ H2 fun u H3=>ts σ H3 fun st H4=>match x with
 | .ref a=>∃xs,SqL K H4 a xs∧st≠some 0∧∀p,H4 p=none→Q (.ref p) (upd H4 p (.lst (zjw xs l u st)))
 | _=>False
theorem zbj (he:PE X e te)(hl:PO X lo tl)(hu:PO X hi th)(hs:PO X (some ste) ts):PE X (.Subscript e (.Slice lo hi (some ste) p2) pos) (zow X.K te tl th ts):=by
 intro pins s σ H Q I h
 refine Subscript_ (thn (he pins s σ H _ I h) fun v s1 ⟨x,H1,I1,r1,q1⟩=>?_)
 refine wpAny_Slice (thn (hl pins s1 σ H1 _ I1 q1) fun vl s2 ⟨l,H2,I2,pl,q2⟩=>thn (hu pins s2 σ H2 _ I2 q2) fun vu s3 ⟨u,H3,I3,pu,q3⟩=>thn (hs pins s3 σ H3 _ I3 q3) fun vs s4 h4=>?_)
 obtain⟨st,H4,I4,ps,q4⟩:=h4
 have I5:Inv X pins σ H4 { s4 with heap:=s4.heap.push { cls:=.type "slice",data:=.fields #[vl,vu,vs] } }:=I4.kept (t':=s4.toks) fun b ob q=>Heap.get?_push_of_some _ q
 obtain⟨a,rfl⟩:∃a,x = .ref a:=by cases x<;>first | exact⟨_,rfl⟩ | exact q4.elim
 obtain⟨xs,hx,h0,q⟩:=q4
 cases r1
 obtain⟨its,r,ht,hz⟩:=I5.list hx
 have hlen:=r.length
 show wpAny (model X.prog X.w) X.A (subscriptTail e (.Slice lo hi (some ste) p2) (.ref a) (.ref s4.heap.objs.size)) (EP X pins σ Q) X.xe { s4 with heap:=s4.heap.push { cls:=.type "slice",data:=.fields #[vl,vu,vs] } }
 refine tail_any (ops:=[.ref a,.ref s4.heap.objs.size]) ht.isList.typeIs slot_list_getitem.lookup ?_ (by with_unfolding_all rfl)
 refine wpAny_getItem_list_slice ht.isList (Heap.IsSliceOf.new ..) pl pu ps h0 ?_ (by rw [y0q]<;>omega)
 have e2:slicePick its.toArray l u st=((sliceRange (sliceBounds l u st xs.length).1 (sliceBounds l u st xs.length).2.1 (sliceBounds l u st xs.length).2.2).filterMap (its[·]?)).toArray:=by
  unfold slicePick
  rw [y0q,←hlen]
  simp
 rw [e2]
 have hz':(zjw xs l u st).length≤sizeLine:=by
  have h1:=slicePick_size_le its.toArray l u st
  rw [e2] at h1
  have h2:=(Vals.pick r (sliceRange (sliceBounds l u st xs.length).1 (sliceBounds l u st xs.length).2.1 (sliceBounds l u st xs.length).2.2)).length
  simp only [y0q] at h1
  have:(zjw xs l u st).length=((sliceRange (sliceBounds l u st xs.length).1 (sliceBounds l u st xs.length).2.1 (sliceBounds l u st xs.length).2.2).filterMap (its[·]?)).length:=h2
  omega
 refine⟨.ref _,_,I5.laid (t':=s4.toks) (o:=.lst (zjw xs l u st)) (fun b ob q=>Heap.get?_push_of_some _ q) (y07 _) ?_,rfl,q _ (I5.hok.fresh (y07 _))⟩
 exact⟨hz',_,0,Vals.pick r _,Heap.get?_push_size _ rfl⟩
end
theorem z8n {α:Type}{x y:α}{r:List α}:∀(c k:Nat),((y0c c).map (fun i=>k+2+2*i)).filterMap ((x::y::r)[·]?)=((y0c c).map (fun i=>k+2*i)).filterMap (r[·]?):=by
 intro c k
 rw [y69,y69]
 congr 1
 funext i
 simp only [Function.comp]
 rw [show k+2+2*i=(k+2*i)+1+1 by omega]
 simp
theorem z82 {α:Type}:∀(xs:List α),((y0c ((xs.length+1) / 2)).map (fun i=>0+2*i)).filterMap (xs[·]?)=PM.alt true xs∧((y0c (xs.length / 2)).map (fun i=>1+2*i)).filterMap (xs[·]?)=PM.alt false xs
 | []=>⟨by simp [PM.alt],by simp [PM.alt]⟩
 | [x]=>⟨by simp [PM.alt],by simp [PM.alt]⟩
 | x::y::r=>by
  obtain⟨h1,h2⟩:=z82 r
  have e1:((x::y::r).length+1) / 2=(r.length+1) / 2+1:=by simp only [y11]; omega
  have e2:(x::y::r).length / 2=r.length / 2+1:=by simp only [y11]; omega
  constructor
  ·rw [e1,y5h,y0m,y2a,y2i]
   have e:((fun i=>0+2*i)∘Nat.succ)=fun i=>0+2+2*i:=by funext i; simp only [Function.comp]; omega
   rw [e,z8n,h1]
   rfl
  ·rw [e2,y5h,y0m,y2a,y2i]
   have e:((fun i=>1+2*i)∘Nat.succ)=fun i=>1+2+2*i:=by funext i; simp only [Function.comp]; omega
   rw [e,z8n,h2]
   rfl
theorem zfk (xs:List V):zjw xs (some 0) none (some 2)=PM.alt true xs:=by
 rw [←(z82 xs).1]
 unfold zjw sliceRange
 congr 1
 have e1:(sliceBounds (some 0) none (some 2) xs.length).1=0:=by
  have:max (0:Int) (min 0 (xs.length:Int))=0:=by omega
  simpa [sliceBounds] using this
 have e2:(sliceBounds (some 0) none (some 2) xs.length).2.1=xs.length:=by simp [sliceBounds]
 have e3:(sliceBounds (some 0) none (some 2) xs.length).2.2=2:=by simp [sliceBounds]
 rw [e1,e2,e3]
 have c:(if (2:Int)>0 then (if (0:Int)<(xs.length:Int) then ((xs.length:Int) - 0+2 - 1) / 2 else 0) else (if (0:Int)>(xs.length:Int) then (0 - (xs.length:Int) - 2 - 1) / (-2) else 0)).toNat=(xs.length+1) / 2:=by
  rw [if_pos (by decide)]
  split<;>omega
 show(y0c (y45 _)).map _=_
 rw [c]
 refine y0v fun k _=>?_
 omega
theorem zcq (xs:List V):zjw xs (some 1) none (some 2)=PM.alt false xs:=by
 rw [←(z82 xs).2]
 unfold zjw sliceRange
 congr 1
 have e2:(sliceBounds (some 1) none (some 2) xs.length).2.1=xs.length:=by simp [sliceBounds]
 have e3:(sliceBounds (some 1) none (some 2) xs.length).2.2=2:=by simp [sliceBounds]
 rw [e2,e3]
 rcases y1v xs.length with z | z
 ·have c:xs.length / 2=0:=by omega
  rw [c,z]
  rfl
 ·have e1:(sliceBounds (some 1) none (some 2) xs.length).1=1:=by
   have:max (0:Int) (min 1 (xs.length:Int))=1:=by omega
   simpa [sliceBounds] using this
  rw [e1]
  have c:(if (2:Int)>0 then (if (1:Int)<(xs.length:Int) then ((xs.length:Int) - 1+2 - 1) / 2 else 0) else (if (1:Int)>(xs.length:Int) then (1 - (xs.length:Int) - 2 - 1) / (-2) else 0)).toNat=xs.length / 2:=by
   rw [if_pos (by decide)]
   split<;>omega
  show(y0c (y45 _)).map _=_
  rw [c]
  refine y0v fun k _=>?_
  omega
end L2.EX
set_option Elab.async false
set_option linter.all false
set_option maxRecDepth 100000
namespace L2.EX
open PySem PySem.Spec PyProof.Rows
def CNx (Pv:Nat→List V→Hp→Prop)(n i:Nat)(ys:List V)(H:Hp):Prop:=∃m',m'<n+1 - i∧m'=n - i∧i≤n∧Pv i ys H
theorem CNx.mk {Pv:Nat→List V→Hp→Prop}{n i:Nat}{ys:List V}{H:Hp}(h:Pv i ys H)(hi:i≤n):CNx Pv n i ys H:=⟨n - i,by omega,rfl,hi,h⟩
section
variable {K:y02}{g:TG}{tt:TT}{te:TE}{σ0:St}{Q:VK}{H:Hp}
theorem z1q {a:Addr}{xs:List V}(Pv:Nat→List V→Hp→Prop)(h0:Pv 0 [] H)(hz:xs.length<sizeLine)(hl:∀i ys H,i≤xs.length→Pv i ys H→SqL K H a xs∧ys.length≤i)
  (hs:∀i x ys H,xs[i]?=some x→Pv i ys H→g x σ0 H fun σ2 H2=>tt σ2 H2 fun b H3=>if b=true then te σ2 H3 fun y H4=>CNx Pv xs.length (i+1) (ys ++ [y]) H4 else CNx Pv xs.length (i+1) ys H3)
  (hd:∀ys H,Pv xs.length ys H→∀l,H l=none→Q (.ref l) (upd H l (.lst ys))):z6r (Itl K a) g tt te σ0 Q H:=by
 refine⟨fun i m ys H=>m=xs.length - i∧i≤xs.length∧Pv i ys H,⟨xs.length,by simp,y2j _,h0⟩,?_⟩
 rintro i m ys H ⟨rfl,hi,p⟩
 obtain⟨q,yl⟩:=hl i ys H hi p
 by_cases hlt:i<xs.length
 ·refine .inr ⟨⟨xs,xs[i],q,by simp [hlt]⟩,by omega,fun x H' y=>?_⟩
  obtain⟨e1,e2⟩:=y
  have e3:=e2 xs q
  subst e1
  have hx:xs[i]?=some x:=e3
  have z:=hs i x ys H' hx p
  rw [show xs.length - i=xs.length+1 - (i+1) by omega]
  exact z
 ·have e:i=xs.length:=by omega
  subst e
  exact .inl ⟨⟨xs,q,y07 _⟩,by omega,hd ys H p⟩
theorem zac {a:Addr}{xs:List V}(Pv:Nat→List V→Hp→Prop)(h0:Pv 0 [] H)(hz:xs.length<sizeLine)(hl:∀i ys H,i≤xs.length→Pv i ys H→SqL K H a xs∧ys.length≤i)
  (hs:∀i x ys H p,xs[i]?=some x→Pv i ys H→H p=none→g (.ref p) σ0 (upd H p (.tup [.int i,x])) fun σ2 H2=>tt σ2 H2 fun b H3=>if b=true then te σ2 H3 fun y H4=>CNx Pv xs.length (i+1) (ys ++ [y]) H4 else CNx Pv xs.length (i+1) ys H3)
  (hd:∀ys H,Pv xs.length ys H→∀l,H l=none→Q (.ref l) (upd H l (.lst ys))):z6r (Ite K a) g tt te σ0 Q H:=by
 refine⟨fun i m ys H=>m=xs.length - i∧i≤xs.length∧Pv i ys H,⟨xs.length,by simp,y2j _,h0⟩,?_⟩
 rintro i m ys H ⟨rfl,hi,p⟩
 obtain⟨q,yl⟩:=hl i ys H hi p
 by_cases hlt:i<xs.length
 ·refine .inr ⟨⟨xs,xs[i],q,by simp [hlt]⟩,by omega,fun x H' y=>?_⟩
  obtain⟨t,v,ht,e1,e2,e3⟩:=y
  subst e1 e2
  have z:=hs i v ys H t (e3 xs q) p ht
  rw [show xs.length - i=xs.length+1 - (i+1) by omega]
  exact z
 ·have e:i=xs.length:=by omega
  subst e
  exact .inl ⟨⟨xs,q,y07 _⟩,by omega,hd ys H p⟩
theorem z6k {lo:Int}{n:Nat}(Pv:Nat→List V→Hp→Prop)(h0:Pv 0 [] H)(hz:n<sizeLine)(hl:∀i ys H,i≤n→Pv i ys H→ys.length≤i)
  (hs:∀i ys H,i<n→Pv i ys H→g (.int (lo+i)) σ0 H fun σ2 H2=>tt σ2 H2 fun b H3=>if b=true then te σ2 H3 fun y H4=>CNx Pv n (i+1) (ys ++ [y]) H4 else CNx Pv n (i+1) ys H3)
  (hd:∀ys H,Pv n ys H→∀l,H l=none→Q (.ref l) (upd H l (.lst ys))):z6r (Itr lo n) g tt te σ0 Q H:=by
 refine⟨fun i m ys H=>m=n - i∧i≤n∧Pv i ys H,⟨n,by simp,y2j _,h0⟩,?_⟩
 rintro i m ys H ⟨rfl,hi,p⟩
 have yl:=hl i ys H hi p
 by_cases hlt:i<n
 ·refine .inr ⟨hlt,by omega,fun x H' y=>?_⟩
  obtain⟨e1,e2⟩:=y
  subst e1 e2
  have z:=hs i ys _ hlt p
  rw [show n - i=n+1 - (i+1) by omega]
  exact z
 ·have e:i=n:=by omega
  subst e
  exact .inl ⟨y07 _,by omega,hd ys H p⟩
end
section
variable {X:Cx}{scope:Scope}{N:List Str}{c:CC}{e:Expr}
theorem pgC {g g':TG}(h:PG (z0q X scope N c) e g)(q:g=g'):PG (z0q X scope N c) e g':=q▸h
theorem peC {g g':TE}(h:PE (z0q X scope N c) e g)(q:g=g'):PE (z0q X scope N c) e g':=q▸h
theorem ptC {g g':TT}(h:PT (z0q X scope N c) e g)(q:g=g'):PT (z0q X scope N c) e g':=q▸h
end
end L2.EX
set_option Elab.async false
set_option linter.all false
set_option maxRecDepth 100000
namespace L2.EX
open PySem PySem.Spec PyProof.Rows
def ItAt (t:Bool)(h:Heap)(i a:Addr)(k:Nat):Prop:=if t then h.IsTupleIter i a k else h.IsListIter i a k
def SeqAt (t:Bool)(h:Heap)(a:Addr)(xs:Array Value):Prop:=if t then h.IsTuple a xs else h.IsList a xs
theorem ItAt.at {t:Bool}{h h':Heap}{i a:Addr}{k:Nat}(x:ItAt t h i a k)(e:∀o,h.get? i=some o→h'.get? i=some o):ItAt t h' i a k:=by
 cases t
 ·exact Heap.IsListIter.at x e
 ·exact Heap.IsTupleIter.at x e
theorem SeqAt.at {t:Bool}{h h':Heap}{a:Addr}{xs:Array Value}(x:SeqAt t h a xs)(e:∀o,h.get? a=some o→h'.get? a=some o):SeqAt t h' a xs:=by
 cases t
 ·obtain⟨o,ho,r⟩:=x
  exact⟨o,e _ ho,r⟩
 ·obtain⟨o,ho,r⟩:=x
  exact⟨o,e _ ho,r⟩
section
variable {prog:Program}{w:World}{A:Around}{E:Value→Shared→Prop}{s:Shared}
theorem z7k {it t:Addr}{i:Nat}{items:Array Value}{x:Value}{Q:Value→Shared→Prop}(hit:s.heap.IsTupleIter it t i)(ht:s.heap.IsTuple t items)(hx:items[i]?=some x)
  (hQ:∀h',h'.IsTupleIter it t (i+1)→Heap.SameBut it s.heap h'→Q x { s with heap:=h' }):wpAny (model prog w) A (Builtin.SmallTypes.nextOf (.ref it)) Q E s:=by
 obtain⟨o,ho,hc,hd⟩:=id hit
 obtain⟨p,hp,_,n,hdp⟩:=ht
 unfold Builtin.SmallTypes.nextOf
 refine wpAny_bind (wpAny_callSpecial?_slot (name:=Str.ofString "__next__") hit.typeIs F.slot_tuple_iterator_next (wpAny_call_entry F.slot_tuple_iterator_next hit.typeIs F.entry_tuple_iterator_next ?_ (F.args_tuple_iterator_next_1 _)))
 refine wpAny_bind (m:=field (.ref it) 0) (wpAny_field ho hd (x:=.ref t) rfl ?_)
 refine wpAny_bind (m:=field (.ref it) 1) (wpAny_field ho hd (x:=.int i 0) rfl ?_)
 refine wpAny_bind (m:=seqItems? (.ref t)) (wpAny_seqItems hp hdp ?_)
 simp only [y41,hx]
 refine wpAny_bind (wpAny_setField ho hd (by simp) (wpAny_pure ⟨x,rfl,wpAny_pure (hQ _ ?_ (Heap.SameBut.update ..))⟩))
 exact⟨_,Heap.get?_update_self _ ho (Obj.isFreed_of_fields (Obj.data_mapFields hd _)),(Obj.cls_mapFields ..).trans hc,by rw [Obj.data_mapFields hd]; simp [rawInt]⟩
theorem z8g {it t:Addr}{i:Nat}{items:Array Value}{Q:Value→Shared→Prop}(hh:A.handled=none)(hit:s.heap.IsTupleIter it t i)(ht:s.heap.IsTuple t items)(hx:items[i]?=none)
  (hE:∀h' e,Heap.ExtBut it s.heap h'→(∃o,h'.get? e=some o∧o.cls = .type "StopIteration")→E (.ref e) { s with heap:=h' }):wpAny (model prog w) A (Builtin.SmallTypes.nextOf (.ref it)) Q E s:=by
 obtain⟨o,ho,hc,hd⟩:=id hit
 obtain⟨p,hp,_,n,hdp⟩:=ht
 unfold Builtin.SmallTypes.nextOf
 refine wpAny_bind (wpAny_callSpecial?_slot (name:=Str.ofString "__next__") hit.typeIs F.slot_tuple_iterator_next (wpAny_call_entry F.slot_tuple_iterator_next hit.typeIs F.entry_tuple_iterator_next ?_ (F.args_tuple_iterator_next_1 _)))
 refine wpAny_bind (m:=field (.ref it) 0) (wpAny_field ho hd (x:=.ref t) rfl ?_)
 refine wpAny_bind (m:=field (.ref it) 1) (wpAny_field ho hd (x:=.int i 0) rfl ?_)
 refine wpAny_bind (m:=seqItems? (.ref t)) (wpAny_seqItems hp hdp ?_)
 simp only [y41,hx]
 refine wpAny_bind (wpAny_rule (wpAny_bind (wpAny_setField ho hd (by simp) ?_)))
 refine wpAny_bind (m:=newExc (.type "StopIteration") []) ?_
 simp only [newExc,newTuple]
 refine wpAny_bind (wpAny_newObj_type ?_ (by size_fits))
 refine wpAny_bind (m:=firstArgMember _ _) (wpAny_of_eq (a:=Value.none) (by first | rfl | (simp only [firstArgMember]; rfl)) ?_)
 refine wpAny_newObj_type ?_ (by size_fits)
 simp only [raiseNew]
 refine wpAny_bind (wpAny_handled ?_)
 first | rw [show A.in1.handled=none from hh] | rw [hh]
 refine wpAny_bind (wpAny_pure (wpAny_throw ?_))
 exact hE _ _ (((Heap.SameBut.update ..).extBut.push _).push _) ⟨_,Heap.get?_push_size _ rfl,rfl⟩
theorem zbx {t:Bool}{i a:Addr}{k:Nat}{xs:Array Value}{x:Value}{Q:Value→Shared→Prop}(hit:ItAt t s.heap i a k)(hs:SeqAt t s.heap a xs)(hx:xs[k]?=some x)
  (hQ:∀h',ItAt t h' i a (k+1)→Heap.SameBut i s.heap h'→Q x { s with heap:=h' }):wpAny (model prog w) A (Builtin.SmallTypes.nextOf (.ref i)) Q E s:=by
 cases t
 ·exact wpAny_nextOf_list_item hit hs hx hQ
 ·exact z7k hit hs hx hQ
theorem zdq {t:Bool}{i a:Addr}{k:Nat}{xs:Array Value}{Q:Value→Shared→Prop}(hh:A.handled=none)(hit:ItAt t s.heap i a k)(hs:SeqAt t s.heap a xs)(hx:xs[k]?=none)
  (hE:∀h' e,Heap.ExtBut i s.heap h'→(∃o,h'.get? e=some o∧o.cls = .type "StopIteration")→E (.ref e) { s with heap:=h' }):wpAny (model prog w) A (Builtin.SmallTypes.nextOf (.ref i)) Q E s:=by
 cases t
 ·exact wpAny_nextOf_list_end hh hit hs hx hE
 ·exact z8g hh hit hs hx hE
end
end L2.EX
set_option Elab.async false
set_option linter.all false
set_option maxRecDepth 100000
namespace L2.EX
open PySem PySem.Spec PyProof.Rows
abbrev z3x (h:Heap)(T:Addr)(vs:List Value):Prop:=h.get? T=some { cls:=.type "tuple",data:=.seq vs.toArray }
abbrev zgy (b:Nat)(m:Nat):List Value:=(y4k 0 m).map fun j=>Value.ref (b+j)
abbrev zg2 (h:Heap)(e:Addr):Prop:=∃o,h.get? e=some o∧o.cls = .type "StopIteration"
def Kp (b:Nat)(m:Nat)(c:Nat):Prop:=c<b∨c=b+m∨b+m+2<c
def zjc (b:Nat)(m:Nat)(h h':Heap):Prop:=∀(c:Nat) o,Kp b m c→h.get? c=some o→h'.get? c=some o
structure ZSt (b:Nat)(src:List (Bool×Addr))(k:Nat)(f0:Value)(h:Heap):Prop where
 zip:IsZip h (b+src.length+2) (b+src.length) (b+src.length+1) f0
 its:z3x h (b+src.length) (zgy b src.length)
 own:∃old,old.length=src.length∧z3x h (b+src.length+1) old
 it:∀(j:Nat) p,src[j]?=some p→ItAt p.1 h (b+j) p.2 k
section
variable {prog:Program}{w:World}{A:Around}{E:Value→Shared→Prop}
theorem zq1 {T:Addr}{old:List Value}{j:Nat}{x:Value}{s:Shared}{Q:Unit→Shared→Prop}(hT:z3x s.heap T old)(hz:old.length≤sizeLine)(h:∀h',z3x h' T (old.set j x)→Heap.SameBut T s.heap h'→Q () { s with heap:=h' }) :
  wpAny (model prog w) A (updateSeq T (·.setIfInBounds j x)) Q E s:=by
 refine wpAny_updateSeq hT rfl (h _ ?_ (Heap.SameBut.update ..)) (by simpa using hz) (by simp; omega)
 show Heap.get? _ _=_
 rw [Heap.get?_update_self _ hT rfl]
 simp [Obj.mapSeq]
abbrev zpf {β:Type}(prog:Program)(w:World)(A:Around)(f:Value×Nat→β→Sem (ForInStep β))(b0:β)(E:Value→Shared→Prop)(b:Nat)(src:List (Bool×Addr))(xss:Nat→Array Value)(k:Nat):Prop :=
 ∀(j:Nat) (p:Bool×Addr) (s:Shared) (old:List Value) (Qf:ForInStep β→Shared→Prop),src[j]?=some p→ItAt p.1 s.heap (b+j) p.2 k→SeqAt p.1 s.heap p.2 (xss j)→old.length=src.length→z3x s.heap (b+src.length+1) old→IsZip s.heap (b+src.length+2) (b+src.length) (b+src.length+1) .ellipsis →
  (∀x h',(xss j)[k]?=some x→ItAt p.1 h' (b+j) p.2 (k+1)→z3x h' (b+src.length+1) (old.set j x)→(∀(c:Nat) o,c≠b+src.length+1→c≠b+j→s.heap.get? c=some o→h'.get? c=some o)→h'.objs.size=s.heap.objs.size→Qf (.yield b0) { s with heap:=h' }) →
  ((xss j)[k]?=none→∀h' e,zjc b src.length s.heap h'→zg2 h' e→E (.ref e) { s with heap:=h' })→wpAny (model prog w) A (f (.ref (b+j),j) b0) Qf E s
theorem zgo {β:Type}{f:Value×Nat→β→Sem (ForInStep β)}{b0:β}{b:Nat}{src:List (Bool×Addr)}{xss:Nat→Array Value}{k:Nat}(hlow:∀p∈src,p.2<b)(hb:zpf prog w A f b0 E b src xss k) :
  ∀(r j:Nat),j+r=src.length→∀(done rest:List Value) (s:Shared) (Q:β→Shared→Prop),done.length=j→rest.length=r→z3x s.heap (b+src.length+1) (done++rest)→IsZip s.heap (b+src.length+2) (b+src.length) (b+src.length+1) .ellipsis →
   (∀(i:Nat) p,src[i]?=some p→ItAt p.1 s.heap (b+i) p.2 (if i<j then k+1 else k))→(∀(i:Nat) p,src[i]?=some p→SeqAt p.1 s.heap p.2 (xss i)) →
   (∀h' vals,vals.length=r→(∀i:Nat,i<r→(xss (j+i))[k]?=vals[i]?)→z3x h' (b+src.length+1) (done++vals)→IsZip h' (b+src.length+2) (b+src.length) (b+src.length+1) .ellipsis→(∀(i:Nat) p,src[i]?=some p→ItAt p.1 h' (b+i) p.2 (k+1))→zjc b src.length s.heap h'→h'.objs.size=s.heap.objs.size→Q b0 { s with heap:=h' }) →
   ((∃i:Nat,i<src.length∧(xss i)[k]?=none)→∀h' e,zjc b src.length s.heap h'→zg2 h' e→E (.ref e) { s with heap:=h' }) →
   wpAny (model prog w) A (forIn ((y4k j r).map fun i=>(Value.ref (b+i),i)) b0 f) Q E s
 | 0,j,hj,done,rest,s,Q,hd,hr,hT,hz,hi,hs,hQ,hE=>by
  show wpAny _ _ (forIn [] b0 f) _ _ _
  rw [List.forIn_nil]
  have er:rest = []:=y1k.mp hr
  subst er
  refine wpAny_pure (hQ s.heap [] rfl (fun i hi=>absurd hi (y5n _)) hT hz (fun i p hp=>?_) (fun c o _ e=>e) rfl)
  have:=(y00.mp hp).1
  have z:=hi i p hp
  rw [if_pos (show i<j by omega)] at z
  exact z
 | r+1,j,hj,done,[],s,Q,hd,hr,hT,hz,hi,hs,hQ,hE=>by simp at hr
 | r+1,j,hj,done,o::rest,s,Q,hd,hr,hT,hz,hi,hs,hQ,hE=>by
  have hjl:j<src.length:=by omega
  have hp:src[j]?=some src[j]:=by simp [hjl]
  have hlp:src[j].2<b:=hlow _ (y48 hjl)
  have h1:=hi j _ hp
  rw [if_neg (y2k _)] at h1
  rw [List.range'_succ,y0m,y5l]
  refine wpAny_bind (hb j src[j] s (done++o::rest) _ hp h1 (hs j _ hp) (by simp only [y09,y11] at hr ⊢; omega) hT hz (fun x h' hx i1 t1 kk sz=>?_) (fun hx h' e kk st=>hE ⟨j,hjl,hx⟩ h' e kk st))
  have eset:(done++o::rest).set j x=(done ++ [x])++rest:=by
   subst hd
   simp
  rw [eset] at t1
  refine zgo hlow hb r (j+1) (by omega) (done ++ [x]) rest { s with heap:=h' } Q (by simp [hd]) (by simpa using hr) t1 (kk _ _ (by omega) (by omega) hz) (fun i p hip=>?_) (fun i p hip=>?_) (fun h2 vals vl vx t2 z2 i2 k2 s2=>?_) (fun hex h2 e k2 st=>hE hex h2 e (fun c o hc g=>k2 c o hc (kk c o (by unfold Kp at hc; omega) (by unfold Kp at hc; omega) g)) st)
  ·have hil:=(y00.mp hip).1
   by_cases e:i=j
   ·subst e
    rw [if_pos (show i<i+1 by omega)]
    rw [hp] at hip
    cases hip
    exact i1
   ·have z:=(hi i p hip).at (h':=h') fun o g=>kk _ _ (by omega) (by omega) g
    by_cases e2:i<j
    ·rw [if_pos e2] at z
     rw [if_pos (show i<j+1 by omega)]
     exact z
    ·rw [if_neg e2] at z
     rw [if_neg (show ¬i<j+1 by omega)]
     exact z
  ·have hil:=(y00.mp hip).1
   have:=hlow p (y03 hip)
   exact(hs i p hip).at fun o g=>kk _ _ (y0x (y0p this (by omega))) (y0x (y0p this (by omega))) g
  ·refine hQ h2 (x::vals) (by simp [vl]) (fun i hi'=>?_) (by simpa using t2) z2 i2 (fun c o hc g=>k2 c o hc (kk c o (by unfold Kp at hc; omega) (by unfold Kp at hc; omega) g)) (by rw [s2]; exact sz)
   cases i with
   | zero=>simpa using hx
   | succ i =>
    have:=vx i (by omega)
    rw [show j+(i+1)=j+1+i by omega]
    simpa using this
end
end L2.EX
set_option Elab.async false
set_option linter.all false
set_option maxRecDepth 100000
namespace L2.EX
open PySem PySem.Spec PyProof.Rows
theorem ze0 (b m:Nat):(zgy b m).toArray.toList.zipIdx=(y4k 0 m).map fun i=>(Value.ref (b+i),i):=by
 apply y3j
 intro i
 simp only [zgy,List.getElem?_zipIdx,y0b,Option.map_map]
 by_cases h:i<m
 ·simp [h]
 ·simp [h]
section
variable {prog:Program}{w:World}{A:Around}{E:Value→Shared→Prop}{s:Shared}
theorem zi9 {b:Nat}{src:List (Bool×Addr)}{xss:Nat→Array Value}{k:Nat}{Q:Value→Shared→Prop}(hh:A.handled=none)(hne:src.length≠0)(hm:src.length≤100)(hlow:∀p∈src,p.2<b)(st:ZSt b src k .none s.heap)
  (hs:∀(i:Nat) p,src[i]?=some p→SeqAt p.1 s.heap p.2 (xss i))
  (hQ:∀h' vals,vals.length=src.length→(∀i:Nat,i<src.length→(xss i)[k]?=vals[i]?)→ZSt b src (k+1) (rawInt s.heap.objs.size) h'→z3x h' s.heap.objs.size vals→h'.objs.size=s.heap.objs.size+1→zjc b src.length s.heap h'→Q (.ref s.heap.objs.size) { s with heap:=h' })
  (hE:(∃i:Nat,i<src.length∧(xss i)[k]?=none)→∀h' e,zjc b src.length s.heap h'→zg2 h' e→E (.ref e) { s with heap:=h' }) :
  wpAny (model prog w) A (Builtin.«zip.__next__» ⟨[.ref (b+src.length+2)],[]⟩) (fun fin s'=>∃v,fin = .done (.ret v)∧Q v s') E s:=by
 obtain⟨hz,hTI,⟨old,hol,hTO⟩,hit⟩:=st
 refine wpAny_bind (m:=field (.ref (b+src.length+2)) 2) (wpAny_field hz rfl (x:=.bool false) rfl ?_)
 refine wpAny_bind (m:=field (.ref (b+src.length+2)) 3) (wpAny_field hz rfl (x:=.ref (b+src.length)) rfl ?_)
 refine wpAny_bind (wpAny_seqItems hTI rfl ?_)
 show wpAny _ _ (if (zgy b src.length).toArray.isEmpty=true then _ else _) _ _ _
 rw [if_neg (by simp only [List.isEmpty_toArray,List.isEmpty_iff,zgy,List.map_eq_nil_iff,List.range'_eq_nil_iff]; exact hne)]
 refine wpAny_bind (m:=Builtin.SmallTypes.ownedTupleIsFree (.ref (b+src.length+2))) ?_
 unfold Builtin.SmallTypes.ownedTupleIsFree
 refine wpAny_bind (wpAny_field hz rfl (x:=.none) rfl (wpAny_pure ?_))
 simp only [if_true]
 refine wpAny_bind (wpAny_rule ?_)
 refine wpAny_bind (wpAny_field hz rfl (x:=.ref (b+src.length+1)) rfl ?_)
 refine wpAny_bind (wpAny_setField_rec hz (by simp) fun h1 hz1 hs1=>?_)
 replace hz1:IsZip h1 (b+src.length+2) (b+src.length) (b+src.length+1) .ellipsis:=hz1
 refine wpAny_bind ?_
 rw [ze0]
 have k1:∀(c:Nat) o,c≠b+src.length+2→s.heap.get? c=some o→h1.get? c=some o:=fun c o hc e=>hs1.extBut _ _ hc e
 have kp1:zjc b src.length s.heap h1:=fun c o hc e=>k1 c o (by unfold Kp at hc; omega) e
 refine zgo (b:=b) (src:=src) (xss:=xss) (k:=k) hlow ?_ src.length 0 (by omega) [] old { s with heap:=h1 } _ rfl hol (k1 _ _ (by omega) hTO) hz1 (fun i p hip=>?_) (fun i p hip=>?_) (fun h2 vals vl vx t2 z2 i2 k2 s2=>?_) (fun hex h2 e k2 stp=>hE hex h2 e (fun c o hc g=>k2 c o hc (kp1 c o hc g)) stp)
 ·intro j p s old Qf hp hi hq hl hT hzz hi' he'
  have hjl:=(y00.mp hp).1
  refine wpAny_bind (wpAny_onRaise ?_)
  refine wpAny_bind (m:=Builtin.SmallTypes.nextOf (.ref (b+j))) ?_
  cases hx:(xss j)[k]? with
  | none =>
   refine zdq hh hi hq hx fun h2 e k2 stp=>?_
   obtain⟨oe,hoe,hce⟩:=stp
   have hz2:IsZip h2 (b+src.length+2) (b+src.length) (b+src.length+1) .ellipsis:=k2 _ _ (show b+src.length+2≠b+j by omega) hzz
   have hez:e≠b+src.length+2:=fun x=>by subst x; rw [hz2] at hoe; cases hoe; simp at hce
   exact wpAny_setField_rec hz2 (by simp) fun h3 _ s3=>he' hx h3 e (fun c o hc g=>s3.extBut _ _ (show c≠b+src.length+2 by unfold Kp at hc; omega) (k2 _ _ (show c≠b+j by unfold Kp at hc; omega) g)) ⟨oe,s3.extBut _ _ hez hoe,hce⟩
  | some x =>
   refine zbx hi hq hx fun h2 i2 s2=>wpAny_pure ?_
   have hT2:z3x h2 (b+src.length+1) old:=s2.extBut _ _ (show b+src.length+1≠b+j by omega) hT
   refine wpAny_bind (wpAny_seqItems hT2 rfl ?_)
   refine wpAny_bind (zq1 (s:={ s with heap:=h2 }) hT2 (y19 (by omega) (show 100≤sizeLine by decide)) fun h3 hT3 s3=>?_)
   refine wpAny_bind (wpAny_letGo (wpAny_pure ?_))
   refine hi' x h3 hx (i2.at fun o g=>s3.extBut _ _ (show b+j≠b+src.length+1 by omega) g) hT3 (fun c o c1 c2 g=>s3.extBut _ _ c1 (s2.extBut _ _ c2 g)) (by rw [s3.1,s2.1])
 ·rw [if_neg (y5n i)]
  have hil:=(y00.mp hip).1
  exact(hit i p hip).at fun o g=>k1 _ _ (by omega) g
 ·have:=hlow p (y03 hip)
  exact(hs i p hip).at fun o g=>k1 _ _ (y0x (y0p this (by omega))) g
 ·have t2':z3x h2 (b+src.length+1) vals:=t2
  refine wpAny_bind (wpAny_seqItems t2' rfl ?_)
  refine wpAny_bind (wpAny_newTuple ?_ (y19 (show vals.toArray.toList.length≤100 by rw [List.toList_toArray]; omega) (show 100≤sizeLine by decide)))
  have hsz:h2.objs.size=s.heap.objs.size:=by rw [s2]; exact hs1.1
  refine wpAny_bind (m:=Builtin.SmallTypes.ownedTupleHandOut (.ref (b+src.length+2)) (.ref h2.objs.size)) ?_
  unfold Builtin.SmallTypes.ownedTupleHandOut
  have z3:IsZip (h2.push { cls:=.type "tuple",data:=.seq vals.toArray.toList.toArray }) (b+src.length+2) (b+src.length) (b+src.length+1) .ellipsis:=Heap.get?_push_of_some _ z2
  have lt:b+src.length+2<h2.objs.size:=Heap.lt_size z2
  refine wpAny_bind (wpAny_setField_rec z3 (by simp) fun h4 z4 s4=>?_)
  replace z4:IsZip h4 (b+src.length+2) (b+src.length) (b+src.length+1) (rawInt h2.objs.size):=z4
  refine wpAny_setField_rec z4 (by simp) fun h5 z5 s5=>?_
  replace z5:IsZip h5 (b+src.length+2) (b+src.length) (b+src.length+1) (rawInt h2.objs.size):=z5
  have up:∀(c:Nat) o,c≠b+src.length+2→h2.get? c=some o→h5.get? c=some o:=fun c o c1 g=>s5.extBut _ _ c1 (s4.extBut _ _ c1 (Heap.get?_push_of_some _ g))
  have tN:z3x h5 h2.objs.size vals:=s5.extBut _ _ (show h2.objs.size≠b+src.length+2 by omega) (s4.extBut _ _ (show h2.objs.size≠b+src.length+2 by omega) (Heap.get?_push_size _ rfl))
  have sz5:h5.objs.size=h2.objs.size+1:=by rw [s5.1,s4.1,Heap.size_push]
  rw [hsz] at z5 tN sz5
  refine wpAny_pure ⟨_,rfl,?_⟩
  show Q (.ref h2.objs.size) _
  rw [hsz]
  refine hQ h5 vals vl (fun i hi=>by have:=vx i hi; rwa [Nat.zero_add] at this) ⟨z5,up _ _ (by omega) (k2 _ _ (.inr (.inl rfl)) (k1 _ _ (by omega) hTI)),⟨vals,vl,up _ _ (by omega) t2'⟩,fun j p hp=>(i2 j p hp).at fun o g=>up _ _ ?_ g⟩ tN sz5 (fun c o hc g=>up c o (by unfold Kp at hc; omega) (k2 c o hc (kp1 c o hc g)))
  have hil:=(y00.mp hp).1
  omega
theorem z8s {b:Nat}{src:List (Bool×Addr)}{xss:Nat→Array Value}{k:Nat}{Q:Option Value→Shared→Prop}(hh:A.handled=none)(hne:src.length≠0)(hm:src.length≤100)(hlow:∀p∈src,p.2<b)(st:ZSt b src k .none s.heap)
  (hs:∀(i:Nat) p,src[i]?=some p→SeqAt p.1 s.heap p.2 (xss i))
  (hQ:∀h' vals,vals.length=src.length→(∀i:Nat,i<src.length→(xss i)[k]?=vals[i]?)→ZSt b src (k+1) (rawInt s.heap.objs.size) h'→z3x h' s.heap.objs.size vals→h'.objs.size=s.heap.objs.size+1→zjc b src.length s.heap h'→Q (some (.ref s.heap.objs.size)) { s with heap:=h' })
  (hE:(∃i:Nat,i<src.length∧(xss i)[k]?=none)→∀h',zjc b src.length s.heap h'→Q none { s with heap:=h' }) :
  wpAny (model prog w) A (pyNext (.ref (b+src.length+2))) Q E s:=by
 have hT:s.TypeIs (.ref (b+src.length+2)) "zip":=⟨_,st.zip,rfl⟩
 unfold pyNext
 refine wpAny_bind (wpAny_attempt (wpAny_callSpecial?_slot (name:=Str.ofString "__next__") hT F.slot_zip_next
  (wpAny_call_entry F.slot_zip_next hT F.entry_zip_next (zi9 hh hne hm hlow st hs (fun h' vals a1 a2 a3 a4 a5 a6=>wpAny_pure (hQ h' vals a1 a2 a3 a4 a5 a6)) fun hex h' e kk stp=>?_) (F.args_zip_next_1 _))))
 obtain⟨o,ho,hc⟩:=stp
 exact wpAny_bind (wpAny_isInstance (T:="StopIteration") (b:=true) ⟨o,ho,hc⟩ isSubtype_stop (wpAny_pure (hE hex h' kk)))
end
end L2.EX
set_option Elab.async false
set_option linter.all false
set_option maxRecDepth 100000
namespace L2.EX
open PySem PySem.Spec PyProof.Rows
abbrev z3r (t:Bool)(a:Addr):Obj:={ cls:=.type (if t then "tuple_iterator" else "list_iterator"),data:=.fields #[.ref a,.int 0 0] }
abbrev zft (I O:Addr):Obj:={ cls:=.type "zip",data:=.fields #[.none,.bool false,.bool false,.ref I,.ref O] }
abbrev z4l (vs:List Value):Obj:={ cls:=.type "tuple",data:=.seq vs.toArray }
section
variable {prog:Program}{w:World}{A:Around}{E:Value→Shared→Prop}{s:Shared}
theorem z8v {t:Bool}{a:Addr}{xs:Array Value}{Q:Value→Shared→Prop}(h:SeqAt t s.heap a xs)(hQ:Q (.ref s.heap.objs.size) { s with heap:=s.heap.push (z3r t a) }):wpAny (model prog w) A (pyIter (.ref a)) Q E s:=by
 cases t
 ·exact wpAny_pyIter_list h hQ
 ·exact wpAny_pyIter_tuple h hQ
end
theorem SeqAt.push {t:Bool}{h:Heap}{a:Addr}{xs:Array Value}(x:SeqAt t h a xs)(o:Obj):SeqAt t (h.push o) a xs:=x.at fun _ g=>Heap.get?_push_of_some _ g
abbrev z2H (h:Heap)(p q:Bool×Addr):Heap:=(((((h.push (z3r p.1 p.2)).push (z3r q.1 q.2)).push (z4l [.ref h.objs.size,.ref (h.push (z3r p.1 p.2)).objs.size])).push (z4l [.none,.none])).push (zft ((h.push (z3r p.1 p.2)).push (z3r q.1 q.2)).objs.size (((h.push (z3r p.1 p.2)).push (z3r q.1 q.2)).push (z4l [.ref h.objs.size,.ref (h.push (z3r p.1 p.2)).objs.size])).objs.size))
abbrev z2A (h:Heap)(p q:Bool×Addr):Addr:=((((h.push (z3r p.1 p.2)).push (z3r q.1 q.2)).push (z4l [.ref h.objs.size,.ref (h.push (z3r p.1 p.2)).objs.size])).push (z4l [.none,.none])).objs.size
theorem zik (p q:Bool×Addr)(xs ys:Array Value) :
  Meets (Builtin.«zip.__new__» ⟨[.type "zip",.ref p.2,.ref q.2],[]⟩) (fun _ R s=>SeqAt p.1 s.heap p.2 xs∧SeqAt q.1 s.heap q.2 ys∧R (.ok (.ret (.ref (z2A s.heap p q)))) { s with heap:=z2H s.heap p q }) :=
 .of_wp fun prog w A R s h=>by
  obtain⟨hp,g,d,tk,os⟩:=s
  obtain⟨h1,h2,h⟩:=h
  have hsub:=sub_zip
  have hL1:SeqAt p.1 (Shared.heap ⟨hp,g,d,tk,os⟩) p.2 xs:=h1
  have hL2:SeqAt q.1 (Shared.heap ⟨hp.push (z3r p.1 p.2),g,d,tk,os⟩) q.2 ys:=SeqAt.push h2 _
  wp_walk using z8v hL1,z8v hL2
  exact⟨_,rfl,h⟩
end L2.EX
set_option Elab.async false
set_option linter.all false
set_option maxRecDepth 100000
namespace L2.EX
open PySem PySem.Spec PyProof.Rows
def SqS (K:y02)(t:Bool)(H:Hp)(a:Addr)(xs:List V):Prop:=if t then SqT K H a xs else SqL K H a xs
abbrev zp8 (K:y02)(src:List (Bool×Addr))(i:Nat)(H:Hp):Prop:=∀(j:Nat) p,src[j]?=some p→∃xs x,SqS K p.1 H p.2 xs∧xs[i]?=some x
abbrev zqc (K:y02)(src:List (Bool×Addr))(i:Nat)(H:Hp)(v:V)(H':Hp):Prop:=∃T xs,H T=none∧v = .ref T∧H'=upd H T (.tup xs)∧xs.length=src.length∧∀(j:Nat) p,src[j]?=some p→∀ys,SqS K p.1 H p.2 ys→ys[i]?=xs[j]?
abbrev znj (K:y02)(src:List (Bool×Addr))(i:Nat)(H:Hp):Prop:=(∀(j:Nat) p,src[j]?=some p→∃xs,SqS K p.1 H p.2 xs)∧∃(j:Nat) (p:Bool×Addr) (xs:List V),src[j]?=some p∧SqS K p.1 H p.2 xs∧xs.length≤i
def Itz (K:y02)(src:List (Bool×Addr)):It:=⟨zp8 K src,zqc K src,znj K src⟩
section
variable {X:Cx}{pins:List (Addr×Obj)}{σ:St}{H:Hp}{s:Shared}
theorem Inv.sqs {t:Bool}{a:Addr}{xs:List V}(I:Inv X pins σ H s)(h:SqS X.K t H a xs):∃its:Array Value,Vals xs its.toList∧SeqAt t s.heap a its:=by
 cases t
 ·obtain⟨its,rv,p,_⟩:=I.list h
  exact⟨its.toArray,rv,p.isList⟩
 ·obtain⟨its,rv,p,_⟩:=I.tuple h
  exact⟨its.toArray,rv,show s.heap.IsTuple a its.toArray from p⟩
theorem Inv.sqs_inj {t:Bool}{a:Addr}{xs ys:List V}(I:Inv X pins σ H s)(h:SqS X.K t H a xs)(h':SqS X.K t H a ys):xs=ys:=by
 cases t
 ·exact I.list_inj h h'
 ·exact I.tuple_inj h h'
end
theorem zbe:∀{xs:List V} {us:List Value},xs.length=us.length→(∀(j:Nat) x u,xs[j]?=some x→us[j]?=some u→RelV x u)→Vals xs us
 | [],[],_,_=>.nil
 | [],_::_,h,_=>by simp at h
 | _::_,[],h,_=>by simp at h
 | x::xs,u::us,h,r=>.cons (r 0 x u rfl rfl) (zbe (by simpa using h) fun j y v h1 h2=>r (j+1) y v (by simpa using h1) (by simpa using h2))
theorem zht {t:Bool}{h:Heap}{i a:Addr}{k:Nat}(x:ItAt t h i a k):∃o,h.get? i=some o∧∀v,o.data ≠ .cell v:=by
 cases t
 ·obtain⟨o,e,c,d⟩:=x
  exact⟨o,e,fun v z=>by rw [d] at z; cases z⟩
 ·obtain⟨o,e,c,d⟩:=x
  exact⟨o,e,fun v z=>by rw [d] at z; cases z⟩
theorem ZSt.obj {b:Nat}{src:List (Bool×Addr)}{k:Nat}{f0:Value}{h:Heap}(st:ZSt b src k f0 h)(c:Nat)(h1:b≤c)(h2:c<b+src.length+3):∃o,h.get? c=some o∧∀v,o.data ≠ .cell v:=by
 by_cases e:c<b+src.length
 ·have hj:c - b<src.length:=by omega
  have:=zht (st.it (c - b) src[c - b] (by simp [hj]))
  rwa [show b+(c - b)=c by omega] at this
 ·rcases (by omega:c=b+src.length∨c=b+src.length+1∨c=b+src.length+2) with rfl | rfl | rfl
  ·exact⟨_,st.its,fun v z=>by cases z⟩
  ·obtain⟨old,_,ho⟩:=st.own
   exact⟨_,ho,fun v z=>by cases z⟩
  ·exact⟨_,st.zip,fun v z=>by cases z⟩
theorem ZSt.keep {b:Nat}{src:List (Bool×Addr)}{k:Nat}{f0:Value}{h h':Heap}(st:ZSt b src k f0 h)(kk:∀(c:Nat),b≤c→c<b+src.length+3→∀o,h.get? c=some o→h'.get? c=some o):ZSt b src k f0 h':=by
 obtain⟨old,ol,ho⟩:=st.own
 refine⟨kk _ (by omega) (by omega) _ st.zip,kk _ (by omega) (by omega) _ st.its,⟨old,ol,kk _ (by omega) (by omega) _ ho⟩,fun j p hp=>(st.it j p hp).at fun o g=>kk _ (by omega) ?_ _ g⟩
 have:=(y00.mp hp).1
 omega
theorem fp_mem {b m c:Nat}:c∈y4k b (m+3)↔b≤c∧c<b+m+3:=by
 rw [List.mem_range'_1]
 omega
theorem zi3 {P:Program}{w:World}{K:y02}{elts:List Expr}{kt:Nat}{tp:Pos}(b:Nat)(src:List (Bool×Addr))(hne:src.length≠0)(hm:src.length≤100)(hlow:∀p∈src,p.2<b) :
  Turn P w K (.Tuple elts kt tp) (Itz K src) (y4k b (src.length+3)) (b+src.length+2) (fun k h=>ZSt b src k .none h) where
 mem:=fp_mem.mpr ⟨by omega,by omega⟩
 obj:=fun k h st c hc=>st.obj c (fp_mem.mp hc).1 (fp_mem.mp hc).2
 keep:=fun k h h' st kk=>st.keep fun c h1 h2 o g=>kk c (fp_mem.mpr ⟨h1,h2⟩) o g
 item:=by
  intro X hP hw hK hc i pins s σ H E I hf st hg
  subst hP hw hK
  have ch:∀j:Nat,∃t:Array Value×V,∀p,src[j]?=some p→∃zs,SqS X.K p.1 H p.2 zs∧Vals zs t.1.toList∧SeqAt p.1 s.heap p.2 t.1∧zs[i]?=some t.2:=fun j=>by
   cases hp:src[j]? with
   | none=>exact⟨(#[],.int 0),fun p z=>by cases z⟩
   | some p =>
    obtain⟨xs,x,hq,hx⟩:=hg j p hp
    obtain⟨its,rv,sq⟩:=Inv.sqs I hq
    exact⟨(its,x),fun p' z=>by cases z; exact⟨xs,hq,rv,sq,hx⟩⟩
  obtain⟨T,hT⟩:=Classical.axiomOfChoice ch
  refine z8s (I.ok.hd hc) hne hm hlow st (xss:=fun j=>(T j).1) (fun j p hp=>(hT j p hp).choose_spec.2.2.1) (fun h' vals vl vx z1 t1 sz kk=>⟨_,rfl,?_⟩) (fun hex=>?_)
  ·refine wpAny_letOwnedTupleGo_zip z1.zip fun h2 hz2 hs2=>?_
   have hlt:b+src.length+2<s.heap.objs.size:=Heap.lt_size st.zip
   have up:∀(c:Nat) o,c≠b+src.length+2→h'.get? c=some o→h2.get? c=some o:=fun c o hc g=>hs2.extBut _ _ hc g
   have k2:∀(c:Addr) o,c ∉ y4k b (src.length+3)→s.heap.get? c=some o→h2.get? c=some o:=fun c o hc g=>by
    have hc':¬(b≤c∧c<b+src.length+3):=fun z=>hc (fp_mem.mpr z)
    have c1:Kp b src.length c:=by
     unfold Kp
     rcases y3q c b with z | z
     ·exact .inl z
     ·exact .inr (.inr (y6n fun z2=>hc' ⟨z,y6f z2⟩))
    refine up c o (fun z=>?_) (kk c o c1 g)
    subst z
    exact hc' ⟨y19 (y5c _ _) (y5c _ _),y2z _⟩
   let xs:List V:=(y0c src.length).map fun j=>(T j).2
   have xl:xs.length=src.length:=by simp [xs]
   have xg:∀j:Nat,j<src.length→xs[j]?=some (T j).2:=fun j hj=>by simp [xs,hj]
   have rv:Vals xs vals:=zbe (by rw [xl,vl]) fun j x u h1 h2=>by
    have hj:j<src.length:=by rw [←xl]; exact(y00.mp h1).1
    obtain⟨zs,q1,q2,q3,q4⟩:=hT j src[j] (by simp [hj])
    obtain⟨u',g1,g2⟩:=q2.get q4
    rw [xg j hj] at h1
    cases h1
    have e:=vx j hj
    rw [h2,←y44,g1] at e
    cases e
    exact g2
   have I2:=z8i (t':=s.toks) (h':=h2) I k2 (fun c hc=>hf c hc) (y07 _) (xs:=xs) (us:=vals) rv (y19 (by rw [xl]; exact hm) (show 100≤sizeLine by decide)) ⟨_,up _ _ (y39 hlt) t1,rfl,_,rfl⟩
   refine⟨.ref s.heap.objs.size,_,I2,rfl,⟨s.heap.objs.size,xs,I.hok.fresh (y07 _),rfl,rfl,xl,fun j p hp ys hy=>?_⟩,?_,fun c hc=>?_⟩
   ·obtain⟨zs,q1,q2,q3,q4⟩:=hT j p hp
    rw [Inv.sqs_inj I hy q1,q4,xg j (y00.mp hp).1]
   ·obtain⟨old,ol,ho⟩:=z1.own
    refine⟨hz2,up _ _ (by omega) z1.its,⟨old,ol,up _ _ (by omega) ho⟩,fun j p hp=>(z1.it j p hp).at fun o g=>up _ _ ?_ g⟩
    have:=(y00.mp hp).1
    omega
   ·rw [z0a (y0x (y0p (fp_mem.mp hc).2 (by omega)))]
    exact(hf c hc).1
  ·exfalso
   obtain⟨j,hj,e⟩:=hex
   obtain⟨zs,q1,q2,q3,q4⟩:=hT j src[j] (by simp [hj])
   obtain⟨u',g1,g2⟩:=q2.get q4
   rw [←y44,g1] at e
   cases e
 done:=by
  intro X hP hw hK hc i pins s σ H E I hf st hg
  subst hP hw hK
  obtain⟨hall,j0,p0,xs0,hp0,hq0,hl0⟩:=hg
  have ch:∀j:Nat,∃t:Array Value,∀p,src[j]?=some p→∃zs,SqS X.K p.1 H p.2 zs∧Vals zs t.toList∧SeqAt p.1 s.heap p.2 t:=fun j=>by
   cases hp:src[j]? with
   | none=>exact⟨#[],fun p z=>by cases z⟩
   | some p =>
    obtain⟨xs,hq⟩:=hall j p hp
    obtain⟨its,rv,sq⟩:=Inv.sqs I hq
    exact⟨its,fun p' z=>by cases z; exact⟨xs,hq,rv,sq⟩⟩
  obtain⟨T,hT⟩:=Classical.axiomOfChoice ch
  refine z8s (I.ok.hd hc) hne hm hlow st (xss:=T) (fun j p hp=>(hT j p hp).choose_spec.2.2) (fun h' vals vl vx z1 t1 sz kk=>?_) (fun hex h' kk=>⟨rfl,z53 (t':=s.toks) I (fun c o hc g=>kk c o ?_ g) fun c hc=>hf c hc⟩)
  ·exfalso
   have hj:=(y00.mp hp0).1
   obtain⟨zs,q1,q2,q3⟩:=hT j0 p0 hp0
   have e:=vx j0 hj
   have el:=q2.length
   rw [Inv.sqs_inj I q1 hq0] at el
   rw [show(T j0)[i]?=none from Array.getElem?_eq_none (by simpa using (show(T j0).toList.length≤i by omega))] at e
   have:j0<vals.length:=by omega
   simp [this] at e
  ·have hc':¬(b≤c∧c<b+src.length+3):=fun z=>hc (fp_mem.mpr z)
   unfold Kp
   rcases y3q c b with z | z
   ·exact .inl z
   ·exact .inr (.inr (y6n fun z2=>hc' ⟨z,y6f z2⟩))
 self:=fun _ _ _ _ _ st h=>wpAny_pyIter_zip st.zip h
end L2.EX
set_option Elab.async false
set_option linter.all false
set_option maxRecDepth 100000
namespace L2.EX
open PySem PySem.Spec PyProof.Rows
theorem zd9 {t:Bool}{h:Heap}{i a:Addr}(g:h.get? i=some (z3r t a)):ItAt t h i a 0:=by
 cases t
 ·exact⟨_,g,rfl,rfl⟩
 ·exact⟨_,g,rfl,rfl⟩
section
variable {prog:Program}{w:World}{A:Around}{E:Value→Shared→Prop}{s:Shared}
theorem zgv {p q:Bool×Addr}{xs ys:Array Value}{Q:Value→Shared→Prop}(h1:SeqAt p.1 s.heap p.2 xs)(h2:SeqAt q.1 s.heap q.2 ys)
  (h:∀h',ZSt s.heap.objs.size [p,q] 0 .none h'→(∀c o,s.heap.get? c=some o→h'.get? c=some o)→Q (.ref (s.heap.objs.size+4)) { s with heap:=h' }):wpAny (model prog w) A (call (.type "zip") [.ref p.2,.ref q.2]) Q E s:=by
 refine callType_new F.called_zip (by decide) (F.typeCall_zip_2 _ _) (F.newCall_zip_2 _ _) (fun obj=>F.args_object_init_3 obj _ _) F.entry_zip_new (zik p q xs ys) ⟨h1,h2,?_⟩
 have e1:(s.heap.push (z3r p.1 p.2)).objs.size=s.heap.objs.size+1:=Heap.size_push ..
 have e2:((s.heap.push (z3r p.1 p.2)).push (z3r q.1 q.2)).objs.size=s.heap.objs.size+2:=by rw [Heap.size_push,e1]
 generalize hA':s.heap.push (z3r p.1 p.2)=hA at e1 e2 ⊢
 have gA:hA.get? s.heap.objs.size=some (z3r p.1 p.2):=by rw [←hA']; exact Heap.get?_push_size _ rfl
 have kA:∀c o,s.heap.get? c=some o→hA.get? c=some o:=fun c o g=>by rw [←hA']; exact Heap.get?_push_of_some _ g
 generalize hB':hA.push (z3r q.1 q.2)=hB at e2 ⊢
 have gB:hB.get? hA.objs.size=some (z3r q.1 q.2):=by rw [←hB']; exact Heap.get?_push_size _ rfl
 have kB:∀c o,hA.get? c=some o→hB.get? c=some o:=fun c o g=>by rw [←hB']; exact Heap.get?_push_of_some _ g
 have e3:(hB.push (z4l [.ref s.heap.objs.size,.ref hA.objs.size])).objs.size=s.heap.objs.size+3:=by rw [Heap.size_push,e2]
 generalize hC':hB.push (z4l [.ref s.heap.objs.size,.ref hA.objs.size])=hC at e3 ⊢
 have gC:hC.get? hB.objs.size=some (z4l [.ref s.heap.objs.size,.ref hA.objs.size]):=by rw [←hC']; exact Heap.get?_push_size _ rfl
 have kC:∀c o,hB.get? c=some o→hC.get? c=some o:=fun c o g=>by rw [←hC']; exact Heap.get?_push_of_some _ g
 have e4:(hC.push (z4l [.none,.none])).objs.size=s.heap.objs.size+4:=by rw [Heap.size_push,e3]
 generalize hD':hC.push (z4l [.none,.none])=hD at e4 ⊢
 have gD:hD.get? hC.objs.size=some (z4l [.none,.none]):=by rw [←hD']; exact Heap.get?_push_size _ rfl
 have kD:∀c o,hC.get? c=some o→hD.get? c=some o:=fun c o g=>by rw [←hD']; exact Heap.get?_push_of_some _ g
 generalize hE':hD.push (zft hB.objs.size hC.objs.size)=hE
 have gE:hE.get? hD.objs.size=some (zft hB.objs.size hC.objs.size):=by rw [←hE']; exact Heap.get?_push_size _ rfl
 have kE:∀c o,hD.get? c=some o→hE.get? c=some o:=fun c o g=>by rw [←hE']; exact Heap.get?_push_of_some _ g
 have eH:z2H s.heap p q=hE:=by subst hE' hD' hC' hB' hA'; rfl
 have eA:z2A s.heap p q=hD.objs.size:=by subst hD' hC' hB' hA'; rfl
 rw [e1] at gB gC
 rw [e2] at gC gE
 rw [e3] at gD gE
 rw [e4] at gE
 show _∧_
 rw [eH,eA,e4]
 refine⟨⟨_,gE,rfl⟩,h hE ⟨gE,kE _ _ (kD _ _ gC),⟨[.none,.none],rfl,kE _ _ gD⟩,fun j r hr=>?_⟩ fun c o g=>kE _ _ (kD _ _ (kC _ _ (kB _ _ (kA _ _ g))))⟩
 match j,hr with
 | 0,hr=>cases hr; exact zd9 (kE _ _ (kD _ _ (kC _ _ (kB _ _ gA))))
 | 1,hr=>cases hr; exact zd9 (kE _ _ (kD _ _ (kC _ _ gB)))
 | n+2,hr=>cases hr
end
section
variable {X:Cx}
def zoo (K:y02)(t1 t2:TE)(σ:St)(H:Hp)(R:It→Hp→Prop):Prop:=t1 σ H fun x H1=>t2 σ H1 fun y H2=>match x,y with
 | .ref a,.ref b=>∃u v,(∃xs,SqS K u H2 a xs)∧(∃ys,SqS K v H2 b ys)∧R (Itz K [(u,a),(v,b)]) H2
 | _,_=>False
def zm7 (K:y02)(t1 t2 t3:TE)(σ:St)(H:Hp)(R:It→Hp→Prop):Prop:=t1 σ H fun x H1=>t2 σ H1 fun y H2=>t3 σ H2 fun z H3=>match x,y,z with
 | .ref a,.ref b,.ref c=>∃u v t,(∃xs,SqS K u H3 a xs)∧(∃ys,SqS K v H3 b ys)∧(∃zs,SqS K t H3 c zs)∧R (Itz K [(u,a),(v,b),(t,c)]) H3
 | _,_,_=>False
theorem zck {t:Bool}{h:Heap}{a:Addr}{xs:Array Value}(x:SeqAt t h a xs):a<h.objs.size:=by
 cases t
 ·obtain⟨o,e,_⟩:=x
  exact Heap.lt_size e
 ·obtain⟨o,e,_⟩:=x
  exact Heap.lt_size e
theorem z92 {l1 l2:Expr}{t1 t2:TE}{elts:List Expr}{kt:Nat}{tp p pos:Pos}(hm:X.mg "zip"=none)(h1:PE X l1 t1)(h2:PE X l2 t2)(hg:Gl X "zip":=by rfl)(hs:starEach [l1,l2] X.env = [(false,eval l1 X.env),(false,eval l2 X.env)]:=by rfl)(hs2:starEach [l2] X.env = [(false,eval l2 X.env)]:=by rfl) :
  PI X (.Tuple elts kt tp) (.Call (.Name "zip" p) [l1,l2] [] pos) (zoo X.K t1 t2):=by
 intro pins s σ H R I h
 have ha:PA X [l1,l2] _:=z00 (z2d h1) (z00 (z2d h2) z03 hs2) (by rw [hs,hs2])
 refine Call_ (z6m I hg hm znc (y20 (thn (ha pos pins s σ H (fun vs H1=>∃x y,vs = [x,y]∧(match x,y with
  | .ref a,.ref b=>∃u v,(∃xs,SqS X.K u H1 a xs)∧(∃ys,SqS X.K v H1 b ys)∧R (Itz X.K [(u,a),(v,b)]) H1
  | _,_=>False)) I ⟨_,h,fun v H1 q=>⟨_,q,fun u H2 q2=>⟨v,u,rfl,q2⟩⟩⟩) fun us s1 h1=>?_) (by rw [hs,hs2]) (by rw [hs2]; rfl)))
 obtain⟨vs,H1,I1,r1,x,y,rfl,q1⟩:=h1
 obtain⟨u,w,rfl,rx,ry⟩:=zkw r1
 split at q1
 ·rename_i a b
  cases rx
  cases ry
  obtain⟨tu,tv,⟨xs,hq1⟩,⟨ys,hq2⟩,q⟩:=q1
  obtain⟨its1,rv1,p1⟩:=Inv.sqs I1 hq1
  obtain⟨its2,rv2,p2⟩:=Inv.sqs I1 hq2
  refine zgv (p:=(tu,a)) (q:=(tv,b)) p1 p2 fun h' z1 kk=>wpAny_pyIter_zip z1.zip ?_
  refine⟨_,_,_,_,H1,rfl,I1.kept (t':=s1.toks) kk,zi3 s1.heap.objs.size [(tu,a),(tv,b)] (by simp) (by simp) (fun p hp=>?_),z1,fun c hc=>I1.fpOk (fp_mem.mp hc).1 (I1.hok.fresh (fp_mem.mp hc).1),q⟩
  simp only [y0k,y1c,or_false] at hp
  rcases hp with rfl | rfl
  ·exact zck p1
  ·exact zck p2
 ·exact q1.elim
end
end L2.EX
set_option Elab.async false
set_option linter.all false
set_option maxRecDepth 100000
namespace L2.EX
open PySem PySem.Spec PyProof.Rows
theorem zpw {K:y02}{H:Hp}{a:Addr}{xs:List V}(h:SqL K H a xs):SqS K false H a xs:=h
theorem zh6 {K:y02}{g:TG}{tb:TS}{D:Ends}{σ:St}{H:Hp}{u v:Bool}{a b:Addr}{xs ys:List V}(n:Nat)(hn:n=min xs.length ys.length)(Pv:Nat→St→Hp→Prop)(h0:Pv 0 σ H)(hl:∀i σ H,i≤n→Pv i σ H→SqS K u H a xs∧SqS K v H b ys)
  (hs:∀i x y σ H p,xs[i]?=some x→ys[i]?=some y→Pv i σ H→H p=none→g (.ref p) σ (upd H p (.tup [x,y])) fun σ2 H2=>tb { D with nx:=Pv (i+1),ct:=Pv (i+1),bk:=D.nx } σ2 H2) (hd:∀ σ H,Pv n σ H→D.nx σ H):ze8 (Itz K [(u,a),(v,b)]) g tb D σ H:=by
 refine⟨fun i m σ H=>m=n - i∧i≤n∧Pv i σ H,⟨n,by simp,y2j _,h0⟩,?_⟩
 rintro i m σ H ⟨rfl,hi,p⟩
 obtain⟨q1,q2⟩:=hl i σ H hi p
 by_cases hlt:i<n
 ·have l1:i<xs.length:=by omega
  have l2:i<ys.length:=by omega
  refine .inr ⟨fun j p hp=>?_,Pv (i+1),fun σ' H' p'=>⟨n - (i+1),by omega,rfl,hlt,p'⟩,fun x H' y=>?_⟩
  ·match j,hp with
   | 0,hp=>cases hp; exact⟨xs,xs[i],q1,by simp [l1]⟩
   | 1,hp=>cases hp; exact⟨ys,ys[i],q2,by simp [l2]⟩
   | k+2,hp=>cases hp
  ·obtain⟨t,zs,ht,e1,e2,e3,e4⟩:=y
   subst e1 e2
   match zs,e3,e4 with
   | [z1,z2],_,e4 =>
    have f1:=e4 0 _ rfl xs q1
    have f2:=e4 1 _ rfl ys q2
    exact hs i z1 z2 σ H t f1 f2 p ht
 ·have e:i=n:=by omega
  subst e
  refine .inl ⟨⟨fun j p hp=>?_,?_⟩,hd σ H p⟩
  ·match j,hp with
   | 0,hp=>cases hp; exact⟨xs,q1⟩
   | 1,hp=>cases hp; exact⟨ys,q2⟩
   | k+2,hp=>cases hp
  ·by_cases z:xs.length≤i
   ·exact⟨0,_,xs,rfl,q1,z⟩
   ·exact⟨1,_,ys,rfl,q2,by omega⟩
theorem zil {K:y02}{g:TG}{tt:TT}{te:TE}{σ0:St}{Q:VK}{H:Hp}{u v:Bool}{a b:Addr}{xs zs:List V}(n:Nat)(hn:n=min xs.length zs.length)(Pv:Nat→List V→Hp→Prop)(h0:Pv 0 [] H)(hz:n<sizeLine)(hl:∀i ys H,i≤n→Pv i ys H→SqS K u H a xs∧SqS K v H b zs∧ys.length≤i)
  (hs:∀i x z ys H p,xs[i]?=some x→zs[i]?=some z→Pv i ys H→H p=none→g (.ref p) σ0 (upd H p (.tup [x,z])) fun σ2 H2=>tt σ2 H2 fun b H3=>if b=true then te σ2 H3 fun y H4=>CNx Pv n (i+1) (ys ++ [y]) H4 else CNx Pv n (i+1) ys H3)
  (hd:∀ys H,Pv n ys H→∀l,H l=none→Q (.ref l) (upd H l (.lst ys))):z6r (Itz K [(u,a),(v,b)]) g tt te σ0 Q H:=by
 refine⟨fun i m ys H=>m=n - i∧i≤n∧Pv i ys H,⟨n,by simp,y2j _,h0⟩,?_⟩
 rintro i m ys H ⟨rfl,hi,p⟩
 obtain⟨q1,q2,yl⟩:=hl i ys H hi p
 by_cases hlt:i<n
 ·have l1:i<xs.length:=by omega
  have l2:i<zs.length:=by omega
  refine .inr ⟨fun j p hp=>?_,by omega,fun x H' y=>?_⟩
  ·match j,hp with
   | 0,hp=>cases hp; exact⟨xs,xs[i],q1,by simp [l1]⟩
   | 1,hp=>cases hp; exact⟨zs,zs[i],q2,by simp [l2]⟩
   | k+2,hp=>cases hp
  ·obtain⟨t,ws,ht,e1,e2,e3,e4⟩:=y
   subst e1 e2
   match ws,e3,e4 with
   | [z1,z2],_,e4 =>
    have z:=hs i z1 z2 ys H t (e4 0 _ rfl xs q1) (e4 1 _ rfl zs q2) p ht
    rw [show n - i=n+1 - (i+1) by omega]
    exact z
 ·have e:i=n:=by omega
  subst e
  refine .inl ⟨⟨fun j p hp=>?_,?_⟩,by omega,hd ys H p⟩
  ·match j,hp with
   | 0,hp=>cases hp; exact⟨xs,q1⟩
   | 1,hp=>cases hp; exact⟨zs,q2⟩
   | k+2,hp=>cases hp
  ·by_cases z:xs.length≤i
   ·exact⟨0,_,xs,rfl,q1,z⟩
   ·exact⟨1,_,zs,rfl,q2,by omega⟩
end L2.EX
set_option Elab.async false
set_option linter.all false
set_option maxRecDepth 100000
namespace L2.EX
open PySem PySem.Spec PyProof.Rows PySem.SeqAt
def zpp (K:y02)(x y:V)(H:Hp)(Q:VK):Prop:=∃dx l xs ds,y = .ref l∧H l=some (.lst xs)∧Is K H x dx∧IsAll K H xs ds∧Sh 60 dx∧(∀d∈ds,Sh 60 d)∧Q (.bl (ds.any fun d=>PyData.eqv d dx)) H
def zls (K:y02)(x y:V)(H:Hp)(Q:VK):Prop:=∃dx l xs ds,y = .ref l∧H l=some (.lst xs)∧Is K H x dx∧IsAll K H xs ds∧Sh 60 dx∧(∀d∈ds,Sh 60 d)∧Q (.bl (!ds.any fun d=>PyData.eqv d dx)) H
section
variable {X:Cx}{pins:List (Addr×Obj)}{σ:St}{H:Hp}{s:Shared}
open Classical in
theorem zlq {k:Nat}(hr:Room k X.A)(I:Inv X pins σ H s){dx:PyData}{l:Addr}{xs:List V}{ds:List PyData}{x:V}{v:Value}(hl:H l=some (.lst xs))(hx:Is X.K H x dx)(ha:IsAll X.K H xs ds)(sx:Sh 60 dx)(sd:∀d∈ds,Sh 60 d)(rx:RelV x v) :
  ∃(items:Array Value) (e:Value→Bool),s.heap.IsList l items∧(∀w,w∈items→EqAt X.A.in1 s w v (e w))∧items.any e=ds.any fun d=>PyData.eqv d dx:=by
 obtain⟨its,rv,p,_⟩:=I.list (SqL.of hl)
 obtain⟨ax,rdx⟩:=Is.reads I dx x v hx rx
 have rd:∀(j:Nat) w,its[j]?=some w→∃d as,ds[j]?=some d∧Reads s.heap w d as:=fun j w hw=>by
  have hj:j<xs.length:=by rw [rv.length]; exact(y00.mp hw).1
  have hxj:xs[j]?=some xs[j]:=by simp [hj]
  obtain⟨u,g1,g2⟩:=rv.get hxj
  rw [hw] at g1
  cases g1
  obtain⟨d,g3,g4⟩:=z4a ha hxj
  obtain⟨as,g5⟩:=Is.reads I d _ w g4 g2
  exact⟨d,as,g3,g5⟩
 refine⟨its.toArray,fun w=>decide (∃d as,d∈ds∧Reads s.heap w d as∧PyData.eqv d dx=true),p.isList,fun w hw=>?_,?_⟩
 ·obtain⟨j,hj⟩:=y0f (List.mem_toArray.mp hw)
  obtain⟨d,as,g1,g2⟩:=rd j w hj
  have hd:=y03 g1
  have e:decide (∃d as,d∈ds∧Reads s.heap w d as∧PyData.eqv d dx=true)=PyData.eqv d dx:=by
   by_cases c:PyData.eqv d dx=true
   ·rw [c]
    exact decide_eq_true ⟨d,as,hd,g2,c⟩
   ·rw [Bool.eq_false_iff.mpr c]
    refine decide_eq_false ?_
    rintro⟨d',as',h1,h2,h3⟩
    have:=PySem.SeqAt.Reads.unique d d' w as as' (sd d hd).1 g2 h2
    rw [←this] at h3
    exact c h3
  show EqAt X.A.in1 s w v (decide (∃d as,d∈ds∧Reads s.heap w d as∧PyData.eqv d dx=true))
  rw [e]
  refine PySem.SeqAt.eqAt_reads d dx X.A.in1 s w v as ax g2 rdx (sd d hd).1 sx.1 ?_
  have h1:=zo2 hr
  have h2:=(sd d hd).2
  have h3:X.A.in1.units≤X.A.units+2:=by first | exact y07 _ | (simp [Around.in1]) | (show _≤_; simp [Around.in1]; omega)
  omega
 ·rw [List.any_toArray]
  rw [y2m,y1h,y1h]
  constructor
  ·rintro⟨w,hw,e⟩
   obtain⟨d,as,h1,h2,h3⟩:=of_decide_eq_true e
   exact⟨d,h1,h3⟩
  ·rintro⟨d,hd,e⟩
   obtain⟨j,hj⟩:=y0f hd
   obtain⟨y,g1,g2⟩:=z1x ha hj
   obtain⟨u,g3,g4⟩:=rv.get g1
   obtain⟨as,g5⟩:=Is.reads I d _ u g2 g4
   exact⟨u,y03 g3,decide_eq_true ⟨d,as,hd,g5,e⟩⟩
theorem zka {k:Nat}(hr:Room k X.A):OpR X (compareOp .NotIn) (zls X.K):=by
 intro pins s σ H x y v u Q I rx ry h
 obtain⟨dx,l,xs,ds,rfl,hl,hx,ha,sx,sd,q⟩:=h
 cases ry
 obtain⟨items,e,h1,h2,h3⟩:=zlq hr I hl hx ha sx sd rx
 exact notIn_listAt e h1 h2 ⟨.bl (!ds.any fun d=>PyData.eqv d dx),H,I,by rw [h3]; rfl,q⟩
end
end L2.EX
set_option Elab.async false
set_option linter.all false
set_option maxRecDepth 100000
namespace PySem
open AutoSeq1 (wpAny_loadPart')
open MeetsSeq MeetsSeq2 MeetsSeq3 SeqRoads2 SeqAt
end PySem
namespace L2.EX
open PySem PySem.Spec PyProof.Rows PySem.SeqAt
section
variable {X:Cx}{pins:List (Addr×Obj)}{σ:St}{H:Hp}{s:Shared}
end
section
variable {X:Cx}{o e:Expr}{es:List Expr}{ta:TE}{t:TA}{apos cpos:Pos}
def zpv (K:y02)(ta:TE)(t:TA)(σ:St)(H:Hp)(Q:VK):Prop:=ta σ H fun x H1=>match x with
 | .ref l=>(∃xs,H1 l=some (.lst xs))∧t σ H1 fun vs H2=>match vs with
  | [y]=>∃xs dx ds,H2 l=some (.lst xs)∧Is K H2 y dx∧IsAll K H2 xs ds∧Sh 60 dx∧(∀d∈ds,Sh 60 d)∧(ds.any fun d=>PyData.eqv d dx)=true∧∀j,j<xs.length→Q .non (upd H2 l (.lst (xs.eraseIdx j)))
  | _=>False
 | _=>False
def zjg (ta:TE)(t:TA)(σ:St)(H:Hp)(Q:VK):Prop:=ta σ H fun x H1=>match x with
 | .ref l=>(∃xs,H1 l=some (.lst xs))∧t σ H1 fun vs H2=>match vs with
  | [.int n]=>∃ns:List Int,H2 l=some (.lst (ns.map V.int))∧n∈ns∧∀j:Nat,ns[j]?=some n→(∀(m:Nat) y,m<j→ns[m]?=some y→y≠n)→Q (.int (j:Int)) H2
  | _=>False
 | _=>False
def zps (ta:TE)(t:TA)(σ:St)(H:Hp)(Q:VK):Prop:=ta σ H fun x H1=>match x with
 | .ref l=>(∃xs,H1 l=some (.lst xs))∧t σ H1 fun vs H2=>match vs with
  | [.int i,y]=>∃xs,∃k:Nat,H2 l=some (.lst xs)∧i=(k:Int)∧k≤xs.length∧xs.length<sizeLine∧Q .non (upd H2 l (.lst (xs.take k++y::xs.drop k)))
  | _=>False
 | _=>False
def zog (ta:TE)(t:TA)(σ:St)(H:Hp)(Q:VK):Prop:=ta σ H fun x H1=>match x with
 | .ref l=>(∃xs,H1 l=some (.lst xs))∧t σ H1 fun vs H2=>match vs with
  | [.ref b]=>∃xs zs,H2 l=some (.lst xs)∧H2 b=some (.lst zs)∧xs.length+zs.length≤sizeLine∧Q .non (upd H2 l (.lst (xs++zs)))
  | _=>False
 | _=>False
theorem zaa (ho:PE X o ta)(ha:PA X (e::es) t)(hbase:attributeBase o "extend" X.env (eval o X.env)=eval o X.env:=by rfl)
  (hfew:((backTo cpos (starEach (e::es) X.env)).all (fun x=>!x.1)&&(backToKw cpos (keywordEach [] X.env)).all (fun x=>x.1.isSome)
  &&decide ((e::es).length+([]:List Keyword).length+(if ([]:List Keyword).isEmpty then 0 else 1)<30))=true:=by rfl)
  (hline:(apos.endLine==cpos.line)=true:=by rfl) (hs:starEach (e::es) X.env=(false,eval e X.env)::starEach es X.env:=by rfl) (hplain:(backTo cpos (starEach es X.env)).any (·.1)=false:=by rfl) :
  PE X (.Call (.Attribute o "extend" apos) (e::es) [] cpos) (zog ta t) :=
 z5e (zmy y3s PySem.F.slot_list_extend PySem.F.type_list_extend zgj (z2d ho) (z7u ha) hbase hfew hline hs hplain) fun σ H Q h=>⟨_,h,fun x H1 q=>by
  split at q
  ·obtain⟨⟨xs,h1⟩,h2⟩:=q
   refine⟨.inl ⟨rfl,_,SqL.of h1⟩,_,h2,fun vs H2 q2=>?_⟩
   split at q2
   ·obtain⟨ns,zs,h3,h4,h5,h6⟩:=q2
    exact⟨_,_,ns,zs,rfl,rfl,h3,h4,h5,h6⟩
   ·exact q2.elim
  ·exact q.elim⟩
end
def Itv (K:y02)(a:Addr)(n:Nat):It:=⟨fun i H=>i<n∧∃xs,SqL K H a xs∧xs.length=n,fun i H x H'=>H'=H∧∀xs,SqL K H a xs→xs[n - 1 - i]?=some x,fun i H=>i=n⟩
def zpx (K:y02)(tl:TE)(σ:St)(H:Hp)(R:It→Hp→Prop):Prop:=tl σ H fun x H1=>match x with
 | .ref a=>∃xs,SqL K H1 a xs∧R (Itv K a xs.length) H1
 | _=>False
end L2.EX
set_option linter.all false
namespace My
theorem zos (a b:Int):∃q1 q2:Int,a=(y13 a b:Nat)*q1∧b=(y13 a b:Nat)*q2:=by
 obtain⟨q1,h1⟩:=y5d (a:=a) (b:=b)
 obtain⟨q2,h2⟩:=y3k (a:=a) (b:=b)
 exact⟨q1,q2,h1,h2⟩
theorem zop {g q1 q2:Int}(hg:0<g)(h:(y13 (g*q1) (g*q2):Int)=g):y13 q1 q2=1:=by
 rw [Int.gcd_mul_left] at h
 push_cast at h
 have h1:((g.natAbs:Nat):Int)=g:=by omega
 rw [h1] at h
 have h2:g*((y13 q1 q2:Nat):Int)=g*1:=by rw [h,y57]
 have:=Int.eq_of_mul_eq_mul_left (by omega) h2
 omega
theorem zn8 {a b:Int}(hb:b≠0):(0:Int)<(y13 a b:Nat):=by
 have:0<y13 a b:=Int.gcd_pos_of_ne_zero_right a hb
 omega
theorem zae {a b j:Int}(hb:b≠0)(hj:j=if b<0 then -((y13 a b:Nat):Int) else (y13 a b:Nat)):j≠0∧j.natAbs≤b.natAbs∧1≤b.fdiv j∧y13 (a.fdiv j) (b.fdiv j)=1∧a.fdiv j*b=a*b.fdiv j:=by
 obtain⟨q1,q2,h1,h2⟩:=zos a b
 have hg:=zn8 (a:=a) hb
 generalize hG:((y13 a b:Nat):Int)=g at *
 have one:y13 q1 q2=1:=zop hg (by rw [←h1,←h2]; exact hG)
 have q20:q2≠0:=by
  rintro rfl
  simp at h2
  exact hb h2
 by_cases hn:b<0
 ·rw [if_pos hn] at hj
  subst hj
  have e1:a = -g * -q1:=by rw [y6u]; exact h1
  have e2:b = -g * -q2:=by rw [y6u]; exact h2
  have f1:a.fdiv (-g) = -q1:=by
   conv=>lhs; rw [e1]
   exact y1q _ (by omega)
  have f2:b.fdiv (-g) = -q2:=by
   conv=>lhs; rw [e2]
   exact y1q _ (by omega)
  have q2n:q2<0:=by
   rcases y2p q2 0 with z | z
   ·exact z
   ·have:=y1r (y1p hg) z
    omega
  refine⟨by omega,?_,by omega,?_,?_⟩
  ·rw [h2,y2b,y73]
   exact y2d _ (by omega)
  ·rw [f1,f2,Int.gcd_neg,y6v]
   exact one
  ·rw [f1,f2,h2,h1,y5z,y6w,y1g g q1,y28,y42]
 ·rw [if_neg hn] at hj
  subst hj
  have f1:a.fdiv j=q1:=by
   conv=>lhs; rw [h1]
   exact y1q _ (by omega)
  have f2:b.fdiv j=q2:=by
   conv=>lhs; rw [h2]
   exact y1q _ (by omega)
  have q2p:0<q2:=by
   rcases y2p 0 q2 with z | z
   ·exact z
   ·have:=y1r (y1p hg) (show 0≤-q2 by omega)
    rw [y6w] at this
    omega
  refine⟨by omega,?_,by omega,?_,?_⟩
  ·rw [h2,y2b]
   exact y2d _ (by omega)
  ·rw [f1,f2]
   exact one
  ·rw [f1,f2,h2,h1]
   simp [y1g,y42,y28]
theorem zf6 {d n b:Int}(h:y13 n d=1)(k:d∣n*b):d∣b:=by
 have k':d.natAbs∣n.natAbs*b.natAbs:=by
  rw [←y2b]
  exact y24.mpr k
 have c:y6x d.natAbs n.natAbs:=by
  show y7e _ _=1
  rw [y6j]
  exact h
 exact y24.mp (c.dvd_of_dvd_mul_left k')
theorem z9l {n d a b:Int}(h:y13 n d=1)(e:n*b=a*d):d∣b∧n∣a:=by
 constructor
 ·exact zf6 h ⟨a,by rw [e,y1g]⟩
 ·exact zf6 (n:=d) (by rw [y3f]; exact h) ⟨b,by rw [e,y1g]⟩
theorem zfz {n d a b:Int}(h:y13 n d=1)(hb:b≠0)(e:n*b=a*d):n.natAbs≤a.natAbs∧d.natAbs≤b.natAbs:=by
 obtain⟨h1,h2⟩:=z9l h e
 refine⟨?_,y79 (by omega) (y24.mpr h1)⟩
 by_cases ha:a=0
 ·subst ha
  rw [y5o] at e
  rcases Int.mul_eq_zero.mp e with z | z
  ·rw [z]; exact y07 _
  ·exact absurd z hb
 ·exact y79 (by omega) (y24.mpr h2)
theorem z95 {n x y:Int}(h1:y13 n x=1)(h2:y13 n y=1):y13 n (x*y)=1:=by
 show y7e _ _=1
 rw [y2b]
 exact Nat.Coprime.mul_right h1 h2
theorem z97 {n m x y:Int}(h:y13 n x=1)(h1:m∣n)(h2:y∣x):y13 m y=1:=by
 have c:y6x n.natAbs x.natAbs:=h
 exact(Nat.Coprime.coprime_dvd_left (y24.mpr h1) c).coprime_dvd_right (y24.mpr h2)
theorem zer {t u x:Int}(h:y13 t x=1)(hu:x∣u):y13 (t+u) x=1:=by
 obtain⟨k,rfl⟩:=hu
 have e:y13 (t+x*k) x=y13 t x:=by
  apply Nat.dvd_antisymm
  ·refine Int.dvd_gcd ?_ (y3k _ _)
   have h1:((y13 (t+x*k) x:Nat):Int)∣t+x*k:=(y5d _ _)
   have h2:((y13 (t+x*k) x:Nat):Int)∣x:=(y3k _ _)
   have h3:=Int.dvd_sub h1 (y59 h2 (c:=k))
   rwa [Int.add_sub_cancel] at h3
  ·refine Int.dvd_gcd ?_ (y3k _ _)
   exact Int.dvd_add (y5d _ _) (y59 (y3k _ _))
 rw [e,h]
theorem zh3 {a b c d:Int}(hb:1≤b)(hd:1≤d)(h1:y13 a b=1)(h2:y13 c d=1){g t e:Int}(hg:g=(y13 b d:Nat))(ht:t=a*(d.fdiv g)+c*(b.fdiv g))(he:e=(y13 t g:Nat)) :
  g≠0∧g.natAbs≤d.natAbs∧g.natAbs≤b.natAbs∧e≠0∧e.natAbs≤g.natAbs∧1≤b.fdiv g*d.fdiv e∧y13 (t.fdiv e) (b.fdiv g*d.fdiv e)=1∧t.fdiv e*(b*d)=(a*d+c*b)*(b.fdiv g*d.fdiv e):=by
 obtain⟨b',d',e1,e2⟩:=zos b d
 have gp:0<g:=by rw [hg]; exact zn8 (by omega)
 rw [←hg] at e1 e2
 have one:y13 b' d'=1:=zop gp (by rw [←e1,←e2]; exact hg.symm)
 have f1:b.fdiv g=b':=by
  conv=>lhs; rw [e1]
  exact y1q _ (by omega)
 have f2:d.fdiv g=d':=by
  conv=>lhs; rw [e2]
  exact y1q _ (by omega)
 rw [f1,f2] at ht
 obtain⟨t',g',e3,e4⟩:=zos t g
 have ep:0<e:=by rw [he]; exact zn8 (by omega)
 rw [←he] at e3 e4
 have two:y13 t' g'=1:=zop ep (by rw [←e3,←e4]; exact he.symm)
 have f3:t.fdiv e=t':=by
  conv=>lhs; rw [e3]
  exact y1q _ (by omega)
 have e5:d=e*(g'*d'):=by
  have:d=g*d':=e2
  rw [this,←y28,←e4]
 have f4:d.fdiv e=g'*d':=by
  conv=>lhs; rw [e5]
  exact y1q _ (by omega)
 have pos:∀{x y z:Int},x=y*z→1≤x→0<y→1≤z:=fun {x y z} h hx hy=>by
  rcases y2p 0 z with q | q
  ·omega
  ·have:=y1r (y1p hy) (show 0≤-z by omega)
   rw [y6w] at this
   omega
 have bp:=pos e1 hb gp
 have dp:=pos e2 hd gp
 have gp':=pos e4 (by omega) ep
 have ab':y13 a b'=1:=z97 h1 (y5p _) ⟨g,by rw [y1g]; exact e1⟩
 have cd':y13 c d'=1:=z97 h2 (y5p _) ⟨g,by rw [y1g]; exact e2⟩
 have tb:y13 t b'=1:=by
  rw [ht]
  refine zer ?_ ⟨c,y1g _ _⟩
  rw [y3f]
  exact z95 (by rw [y3f]; exact ab') one
 have td:y13 t d'=1:=by
  rw [ht,Int.add_comm]
  refine zer ?_ ⟨a,y1g _ _⟩
  rw [y3f]
  exact z95 (by rw [y3f]; exact cd') (by rw [y3f]; exact one)
 have tt:t'∣t:=⟨e,by rw [y1g]; exact e3⟩
 refine⟨by omega,?_,?_,by omega,?_,?_,?_,?_⟩
 ·rw [e2,y2b]
  exact y2d _ (by omega)
 ·rw [e1,y2b]
  exact y2d _ (by omega)
 ·rw [e4,y2b]
  exact y2d _ (by omega)
 ·rw [f1,f4]
  have h1:0<g'*d':=y3p (by omega) (by omega)
  have:=y3p (show 0<b' by omega) h1
  omega
 ·rw [f1,f3,f4]
  exact z95 (z97 tb tt (y5p _)) (z95 two (z97 td tt (y5p _)))
 ·rw [f1,f3,f4]
  have k1:a*d+c*b=g*t:=by
   rw [ht,e1,e2,y4j]
   congr 1<;>simp [y1g,y42,y28]
  rw [k1]
  have k2:t'*(b*d)=t'*(g*b'*(e*(g'*d'))):=by rw [←e5]; conv=>lhs; rw [e1]
  rw [k2]
  conv=>rhs; rw [e3]
  simp [y1g,y42,y28]
theorem zbf {a g:Int}(hg:0<g):(a.fdiv g).natAbs≤a.natAbs:=by
 rw [y2x _ (y1p hg)]
 rcases y2p a 0 with h | h
 ·have h1:a≤a / g:=by
   rw [Int.le_ediv_iff_mul_le hg]
   have:=Int.mul_le_mul_of_nonpos_left (a:=a) (y1p h) (show(1:Int)≤g by omega)
   rw [y57] at this
   exact this
  have h2:=Int.ediv_neg_of_neg_of_pos h hg
  omega
 ·have h1:=y47 g h
  have h2:=y3b h (y1p hg)
  omega
end My
set_option Elab.async false
set_option linter.all false
set_option maxRecDepth 100000
namespace My
open PySem L2 L2.EX
structure Blt (mg:Str→Option Value):Prop where
 abs:mg "abs"=none
 any:mg "any"=none
 bool:mg "bool"=none
 dict:mg "dict"=none
 enumerate:mg "enumerate"=none
 int:mg "int"=none
 isinstance:mg "isinstance"=none
 len:mg "len"=none
 list:mg "list"=none
 max:mg "max"=none
 min:mg "min"=none
 range:mg "range"=none
 reversed:mg "reversed"=none
 sorted:mg "sorted"=none
 str:mg "str"=none
 sum:mg "sum"=none
 tuple:mg "tuple"=none
 zip:mg "zip"=none
def spG:Sp:=fun vs H Q _=>match vs with
 | [.int a,.int b]=>Q (.int (y13 a b:Nat)) H
 | _=>False
def z5j (K:y02):Sp:=fun vs H Q _=>match vs with
 | [.ref a,.int k]=>∃ns:List Int,SqL K H a (ns.map V.int)∧0≤k∧Q (.int (ns.getD k.toNat 0)) H
 | _=>False
def zcp:Sp:=fun vs H Q _=>match vs with
 | [.int _]=>∀z:Int,-(10^60)≤z→z≤10^60→Q (.int z) H
 | _=>False
def z3s:Sp:=fun vs H Q _=>match vs with
 | [.int _]=>Q (.bl true) H
 | [.bl _]=>Q (.bl false) H
 | _=>False
def z3i:Sp:=fun vs H Q _=>match vs with
 | [.int _,.int k]=>0≤k∧k≤100∧∀z:Int,0≤z→Q (.int z) H
 | _=>False
def zju:Sp:=fun vs H Q _=>match vs with
 | [.int _,.int _]=>∀H',Same H H'→Q (.bl true) H'
 | _=>False
theorem zcd {g l:Int}(hg:0≤g)(hl:0<l):y13 l (g % l)=y13 g l:=by
 obtain⟨a,rfl⟩:=y2e hg
 obtain⟨b,rfl⟩:=y2e (y1p hl)
 rw [←Int.natCast_emod]
 show y7e b (a % b)=y7e a b
 rw [y6j a b,Nat.gcd_rec b a,y6j]
theorem zeo (a b:Int):y13 (if a<0 then -a else a) (if b<0 then -b else b)=y13 a b:=by
 by_cases h1:a<0<;>by_cases h2:b<0<;>simp [h1,h2,Int.gcd_neg,y6v]
theorem zak (a:Int):0≤(if a<0 then -a else a):=by split<;>omega
theorem zcr {g:Int}(hg:0≤g):((y13 g 0:Nat):Int)=g:=by rw [Int.gcd_zero_right]; omega
theorem zgt {ns:List Int}{k:Int}(h0:0≤k)(h:k<((ns.map V.int).length:Nat)):atI (ns.map V.int) k=some (.int (ns.getD k.toNat 0)):=by
 rw [y04] at h
 have hk:k.toNat<ns.length:=by omega
 have e:k=((k.toNat:Nat):Int):=by omega
 rw [e]
 refine z1v ?_
 rw [y0b,y01 (by omega),y0o,y01 (by omega)]
 rfl
theorem zdi {r:Int}(h0:0≤r)(h1:r<2147483629):Bd 40 r:=by
 show r.natAbs<2^40
 have:(2:Nat)^40=1099511627776:=by decide
 omega
theorem _root_.L2.EX.Bd.mul {m n:Nat}{x y:Int}(hx:Bd m x)(hy:Bd n y):Bd (m+n) (x*y):=by
 show(x*y).natAbs<2^(m+n)
 rw [y2b,y5a]
 exact Nat.mul_lt_mul'' hx hy
theorem _root_.L2.EX.Bd.add {m n k:Nat}{x y:Int}(hx:Bd m x)(hy:Bd n y)(h1:m<k)(h2:n<k):Bd k (x+y):=by
 have a:Bd (k - 1) x:=hx.le (by omega)
 have b:Bd (k - 1) y:=hy.le (by omega)
 show(x+y).natAbs<2^k
 have a':x.natAbs<2^(k - 1):=a
 have b':y.natAbs<2^(k - 1):=b
 have e:2^k=2^(k - 1)+2^(k - 1):=by
  have:k=(k - 1)+1:=by omega
  conv=>lhs; rw [this,Nat.pow_succ]
  omega
 have:=y53 x y
 omega
theorem _root_.L2.EX.Bd.neg {m:Nat}{x:Int}(hx:Bd m x):Bd m (-x):=by
 show(-x).natAbs<2^m
 rw [y73]
 exact hx
theorem _root_.L2.EX.Bd.of_le {m:Nat}{x y:Int}(hy:Bd m y)(h:x.natAbs≤y.natAbs):Bd m x:=y2r h hy
def Res (K:y02)(H:Hp)(Q:VK)(d:PyData):Prop:=∀v H',Same H H'→Is K H' v d→Q v H'
theorem Res.new_tup {K:y02}{H:Hp}{Q:VK}{ds:List PyData}{xs:List V}(h:Res K H Q (.tuple ds))(al:IsAll K H xs ds):∀p,H p=none→Q (.ref p) (upd H p (.tup xs)):=fun p hp =>
 h _ _ (z06 hp _) (is_tuple.mpr ⟨p,xs,rfl,z01,IsAll.same (z06 hp _) _ _ al⟩)
theorem Res.ints2 {K:y02}{H:Hp}{Q:VK}{n d:Int}(h:Res K H Q (z2m n d)):∀p,H p=none→Q (.ref p) (upd H p (.tup [.int n,.int d])):=Res.new_tup h (z4p [n,d])
def z7z (K:y02):Sp:=fun vs H Q _=>∃a b:Int,vs = [.int a,.int b]∧b≠0∧Bd 9000 b∧∀n d:Int,1≤d→y13 n d=1→n*b=a*d→Res K H Q (z2m n d)
def zei (K:y02)(top:Int→Int→Int→Int→Int):Sp:=fun vs H Q _=>∃(x y:V) (a b c d:Int),vs = [x,y]∧Is K H x (z2m a b)∧Is K H y (z2m c d)∧b≠0∧d≠0∧Bd 2000 a∧Bd 2000 b∧Bd 2000 c∧Bd 2000 d ∧
 ∀n e:Int,1≤e→y13 n e=1→n*(b*d)=top a b c d*e→Res K H Q (z2m n e)
def z6b (K:y02):Sp:=fun vs H Q _=>∃(x y:V) (a b c d:Int),vs = [x,y]∧Is K H x (z2m a b)∧Is K H y (z2m c d)∧Bd 100000 a∧Bd 100000 b∧Bd 100000 c∧Bd 100000 d∧Q (.bl (decide (a*d<c*b))) H
def zcv (K:y02):Sp:=fun vs H Q _=>∃(x:V) (n d:Int),vs = [x]∧Is K H x (z2m n d)∧1≤d∧y13 n d=1∧Q (.bl true) H
theorem zm0 {b j:Int}(hb:Bd 9000 b)(h:j.natAbs≤b.natAbs)(h0:j≠0):j.natAbs.log2<9000:=zng (hb.of_le h) (y07 _) h0
def del (H:Hp)(l:Addr):Hp:=fun b=>if b=l then none else H b
theorem z4g {H:Hp}{l b:Addr}(h:b≠l):del H l b=H b:=by unfold del; rw [if_neg h]
theorem z2e {H:Hp}{l:Addr}{o:HO}:del (upd H l o) l=del H l:=by
 funext b
 unfold del upd
 split<;>rfl
theorem z4v {H H':Hp}{l:Addr}(s:Same H H'):Same (del H l) (del H' l):=fun b o h=>by
 unfold del at h ⊢
 split at h
 ·cases h
 ·rename_i hb
  rw [if_neg hb]
  exact s b o h
theorem del_sub {H:Hp}{l:Addr}:Same (del H l) H:=fun b o h=>by
 unfold del at h
 split at h
 ·cases h
 ·exact h
theorem z9e {H:Hp}{l:Addr}(h:H l=none):Same H (del H l):=fun b o q=>by
 rw [z4g (z08 q h)]
 exact q
structure Grow (K:y02)(H H':Hp)(l:Addr)(vs:List V)(ds:List PyData):Prop where
 old:Same H (del H' l)
 here:H' l=some (.lst vs)
 all:IsAll K (del H' l) vs ds
theorem Grow.start {K:y02}{H:Hp}{l:Addr}(h:H l=none):Grow K H (upd H l (.lst [])) l [] []:=⟨by rw [z2e]; exact z9e h,z01,z0t⟩
theorem Grow.more {K:y02}{H H' H'':Hp}{l:Addr}{vs:List V}{ds:List PyData}(g:Grow K H H' l vs ds)(s:Same H' H''):Grow K H H'' l vs ds:=⟨g.old.trans (z4v s),s _ _ g.here,IsAll.same (z4v s) _ _ g.all⟩
theorem Grow.push {K:y02}{H H':Hp}{l:Addr}{vs:List V}{ds:List PyData}{v:V}{d:PyData}(g:Grow K H H' l vs ds)(h:Is K (del H' l) v d):Grow K H (upd H' l (.lst (vs ++ [v]))) l (vs ++ [v]) (ds ++ [d]) :=
 ⟨by rw [z2e]; exact g.old,z01,by rw [z2e]; exact z1f g.all h⟩
theorem Grow.is {K:y02}{H H':Hp}{l:Addr}{vs:List V}{ds:List PyData}(g:Grow K H H' l vs ds):Is K H' (.ref l) (.list ds):=is_list.mpr ⟨l,vs,rfl,g.here,IsAll.same del_sub _ _ g.all⟩
theorem Grow.same {K:y02}{H H':Hp}{l:Addr}{vs:List V}{ds:List PyData}(g:Grow K H H' l vs ds):Same H H':=g.old.trans del_sub
theorem z72 {K:y02}{H:Hp}{l:Addr}{xs:List V}{v:V}{n d:Int}(h:Is K H v (z2m n d))(hl:H l=some (.lst xs)):Is K (del H l) v (z2m n d):=by
 obtain⟨a,rfl,ha⟩:=is_frac.mp h
 refine is_frac.mpr ⟨a,rfl,?_⟩
 rw [z4g (z66 ha hl (by intro z; cases z))]
 exact ha
theorem zgg (xs:List V)(m:Nat):zel xs none (some (m:Int))=xs.take m:=by
 unfold zel
 rw [HT.sIx_none,HT.sIx_nat,List.drop_zero,Nat.sub_zero]
 rcases y3q m xs.length with h | h
 ·rw [y6y (by omega)]
 ·rw [y6o h,y05 (y07 _),y05 h]
theorem zgh (xs:List V)(m:Nat):zel xs (some (m:Int)) none=xs.drop m:=by
 unfold zel
 rw [HT.sIx_none,HT.sIx_nat]
 rcases y3q m xs.length with h | h
 ·rw [y6y (by omega),y05 (by simp)]
 ·rw [y6o h,y3x (y07 _),y3x h]
  simp
def z56 (ps:List (Int×Int)):PyData:=.list (ps.map fun p=>z2m p.1 p.2)
theorem z34 {K:y02}{H:Hp}{ps:List (Int×Int)}{xs:List V}{i:Nat}{x:V}(al:IsAll K H xs (ps.map fun p=>z2m p.1 p.2))(h:xs[i]?=some x):∃(p:Int×Int) (a:Addr),ps[i]?=some p∧x = .ref a∧H a=some (.tup [.int p.1,.int p.2]):=by
 obtain⟨d,h1,h2⟩:=z4a al h
 rw [y0b] at h1
 cases q:ps[i]? with
 | none=>rw [q] at h1; cases h1
 | some p =>
  rw [q] at h1
  cases h1
  obtain⟨a,rfl,ha⟩:=is_frac.mp h2
  exact⟨p,a,rfl,rfl,ha⟩
def qs (ps:List (Int×Int)):Int×Int:=ps.foldl (fun s p=>(s.1*p.2+p.1*s.2,s.2*p.2)) (0,1)
def Low (p:Int×Int):Prop:=1≤p.2∧y13 p.1 p.2=1
def zfh (K:y02):Sp:=fun vs H Q _=>∃(x y:V) (a b c d:Int),vs = [x,y]∧Is K H x (z2m a b)∧Is K H y (z2m c d)∧1≤b∧1≤d∧y13 a b=1∧y13 c d=1∧Bd 100000 a∧Bd 100000 b∧Bd 100000 c∧Bd 8000 d ∧
 ∀n e:Int,1≤e→y13 n e=1→n*(b*d)=(a*d+c*b)*e→Res K H Q (z2m n e)
theorem z0g {α:Type}{l:List α}{i:Nat}{x:α}(h:l[i]?=some x):l.take (i+1)=l.take i ++ [x]:=by
 have hi:=(y00.mp h).1
 rw [←y51 hi,(y00.mp h).2]
theorem cgo {J:It}{g:TG}{tt:TT}{te:TE}{σ0 σ':St}{Q:VK}{H:Hp}(e:σ0 = σ')(h:z6r J g tt te σ' Q H):z6r J g tt te σ0 Q H:=e▸h
theorem z41 {K:y02}{H:Hp}{l:Addr}{ys:List V}(hl:H l=some (.lst ys)):∀{ps:List (Int×Int)} {xs:List V},IsAll K H xs (ps.map fun p=>z2m p.1 p.2)→IsAll K (del H l) xs (ps.map fun p=>z2m p.1 p.2)
 | [],xs,h=>by simpa only [y35,IsAll] using h
 | p::ps,xs,h=>by
  rw [y0m] at h ⊢
  simp only [IsAll] at h
  obtain⟨v,vs,rfl,q,al⟩:=h
  exact z1d (z72 q hl) (z41 hl al)
def zmo (b:Nat):Sp:=fun vs H Q _=>match vs with
 | [.int _]=>∀z:Int,0≤z→z<10^b→Q (.int z) H
 | _=>False
end My
set_option Elab.async false
set_option linter.all false
set_option maxRecDepth 100000
namespace My
open PySem L2 L2.EX
def pr (p:Nat×Nat):PyData:=.tuple [.int (p.1:Int),.int (p.2:Int)]
def z3k (l:List Nat):PyData:=.list (l.map fun (n:Nat)=>.int (n:Int))
def z09 (l:List Nat):List V:=l.map fun (n:Nat)=>.int (n:Int)
def Frz (L:List Addr)(H H':Hp):Prop:=∀b o,b ∉ L→H b=some o→H' b=some o
theorem Frz.of {L:List Addr}{H H':Hp}(s:Same H H'):Frz L H H':=fun b o _ h=>s b o h
theorem Frz.trans {L:List Addr}{H H1 H2:Hp}(a:Frz L H H1)(b:Frz L H1 H2):Frz L H H2:=fun c o hc h=>b c o hc (a c o hc h)
theorem Frz.upd {L:List Addr}{H:Hp}{a:Addr}{o:HO}(h:a∈L):Frz L H (upd H a o):=fun b u hb q=>by
 rw [z0a (by rintro rfl; exact hb h)]
 exact q
structure Fix (K:y02)(C:Addr)(F:Hp)(me:Addr)(N:PM.Net)(aS aP:Addr):Prop where
 obj:∃dx fs aT aA,F me=some (.ins C dx fs)∧fs.lookup ("many_gives":Str)=some (.int (N.G:Int))∧fs.lookup ("tie_ends":Str)=some (.ref aT)∧fs.lookup ("sent":Str)=some (.ref aS)∧fs.lookup ("spare":Str)=some (.ref aP)∧fs.lookup ("ties_at":Str)=some (.ref aA) ∧
  Is K F (.ref aT) (.list (N.ends.map pr))∧Is K F (.ref aA) (.list (N.at'.map z3k)) ∧
  (∀m:Str,m∈(["far_end","may_go","gives_with_rest","has_room","steps_to_room","row_behind","send_by_steps","way_from","skip_dead_ties","leads_on","send_along","fill"]:List Str)→fs.lookup m=none)
structure PourAt (K:y02)(C:Addr)(H:Hp)(me:Addr)(N:PM.Net)(aS aP:Addr)(sent spare:List Int)(M:List Addr):Prop where
 ok:∃F,Same F H∧F aS=none∧F aP=none∧(∀m∈M,F m=none)∧Fix K C F me N aS aP
 mu:∀m∈M,m≠aS∧m≠aP
 st:H aS=some (.lst (sent.map V.int))
 sp:H aP=some (.lst (spare.map V.int))
 ne:aS≠aP
 wf:N.WF
 ls:sent.length=N.ends.length
 lp:spare.length=N.nE
 sm:N.nE≤1000
 sk:N.ends.length≤1000
section
variable {K:y02}{C:Addr}{H H':Hp}{me:Addr}{N:PM.Net}{aS aP:Addr}{sent spare:List Int}{M:List Addr}
theorem PourAt.same (p:PourAt K C H me N aS aP sent spare M)(s:Same H H'):PourAt K C H' me N aS aP sent spare M:=by
 obtain⟨F,h1,h2⟩:=p.ok
 exact⟨⟨F,h1.trans s,h2⟩,p.mu,s _ _ p.st,s _ _ p.sp,p.ne,p.wf,p.ls,p.lp,p.sm,p.sk⟩
theorem PourAt.but (p:PourAt K C H me N aS aP sent spare M)(s:Frz [aS,aP] H H'){sent' spare':List Int}(h1:H' aS=some (.lst (sent'.map V.int)))(h2:H' aP=some (.lst (spare'.map V.int)))(l1:sent'.length=sent.length)(l2:spare'.length=spare.length):PourAt K C H' me N aS aP sent' spare' M:=by
 obtain⟨F,f1,f2,f3,f4⟩:=p.ok
 refine⟨⟨F,fun b o q=>s b o (fun z=>?_) (f1 b o q),f2,f3,f4⟩,p.mu,h1,h2,p.ne,p.wf,l1.trans p.ls,l2.trans p.lp,p.sm,p.sk⟩
 simp only [y0k,y1c,or_false] at z
 rcases z with rfl | rfl
 ·rw [f2] at q; cases q
 ·rw [f3] at q; cases q
theorem PourAt.frz (p:PourAt K C H me N aS aP sent spare M){L:List Addr}(s:Frz L H H')(hL:∀x∈L,x∈M):PourAt K C H' me N aS aP sent spare M:=by
 obtain⟨F,f1,f2,f3,f4,f5⟩:=p.ok
 refine⟨⟨F,fun b o q=>s b o (fun z=>?_) (f1 b o q),f2,f3,f4,f5⟩,p.mu,s _ _ (fun z=>(p.mu _ (hL _ z)).1 rfl) p.st,s _ _ (fun z=>(p.mu _ (hL _ z)).2 rfl) p.sp,p.ne,p.wf,p.ls,p.lp,p.sm,p.sk⟩
 rw [f4 b (hL b z)] at q
 cases q
theorem PourAt.new (p:PourAt K C H me N aS aP sent spare M){l:Addr}(h:H l=none):PourAt K C H me N aS aP sent spare (l::M):=by
 obtain⟨F,f1,f2,f3,f4,f5⟩:=p.ok
 refine⟨⟨F,f1,f2,f3,fun m hm=>?_,f5⟩,fun m hm=>?_,p.st,p.sp,p.ne,p.wf,p.ls,p.lp,p.sm,p.sk⟩
 ·rcases y0k.mp hm with rfl | hm
  ·exact f1.free h
  ·exact f4 m hm
 ·rcases y0k.mp hm with rfl | hm
  ·exact⟨fun z=>(z08 p.st h) z.symm,fun z=>(z08 p.sp h) z.symm⟩
  ·exact p.mu m hm
theorem PourAt.less (p:PourAt K C H me N aS aP sent spare M){L:List Addr}(h:∀x∈L,x∈M):PourAt K C H me N aS aP sent spare L:=by
 obtain⟨F,f1,f2,f3,f4,f5⟩:=p.ok
 exact⟨⟨F,f1,f2,f3,fun m hm=>f4 m (h m hm),f5⟩,fun m hm=>p.mu m (h m hm),p.st,p.sp,p.ne,p.wf,p.ls,p.lp,p.sm,p.sk⟩
theorem Fix.get {F:Hp}(f:Fix K C F me N aS aP):∃dx fs aT aA ts rs,F me=some (.ins C dx fs)∧fs.lookup ("many_gives":Str)=some (.int (N.G:Int))∧fs.lookup ("tie_ends":Str)=some (.ref aT)∧fs.lookup ("sent":Str)=some (.ref aS)∧fs.lookup ("spare":Str)=some (.ref aP)∧fs.lookup ("ties_at":Str)=some (.ref aA) ∧
  F aT=some (.lst ts)∧IsAll K F ts (N.ends.map pr)∧F aA=some (.lst rs)∧IsAll K F rs (N.at'.map z3k) ∧
  (∀m:Str,m∈(["far_end","may_go","gives_with_rest","has_room","steps_to_room","row_behind","send_by_steps","way_from","skip_dead_ties","leads_on","send_along","fill"]:List Str)→fs.lookup m=none):=by
 obtain⟨dx,fs,aT,aA,g1,g2,g3,g4,g5,g6,g7,g8,g9⟩:=f.obj
 obtain⟨a,ts,e1,h1,h2⟩:=is_list.mp g7
 obtain⟨b,rs,e2,h3,h4⟩:=is_list.mp g8
 cases e1
 cases e2
 exact⟨dx,fs,aT,aA,ts,rs,g1,g2,g3,g4,g5,g6,h1,h2,h3,h4,g9⟩
theorem Same.frz {F:Hp}(s:Same F H){L:List Addr}(f:Frz L H H')(h:∀x∈L,F x=none):Same F H':=fun b o q=>f b o (fun z=>by rw [h b z] at q; cases q) (s b o q)
theorem PourAt.get (p:PourAt K C H me N aS aP sent spare M):∃dx fs aT aA ts rs,H me=some (.ins C dx fs)∧fs.lookup ("many_gives":Str)=some (.int (N.G:Int))∧fs.lookup ("tie_ends":Str)=some (.ref aT)∧fs.lookup ("sent":Str)=some (.ref aS)∧fs.lookup ("spare":Str)=some (.ref aP)∧fs.lookup ("ties_at":Str)=some (.ref aA) ∧
  H aT=some (.lst ts)∧IsAll K H ts (N.ends.map pr)∧H aA=some (.lst rs)∧IsAll K H rs (N.at'.map z3k) ∧
  (∀m:Str,m∈(["far_end","may_go","gives_with_rest","has_room","steps_to_room","row_behind","send_by_steps","way_from","skip_dead_ties","leads_on","send_along","fill"]:List Str)→fs.lookup m=none):=by
 obtain⟨F,f1,f2,f3,f4,⟨dx,fs,aT,aA,g1,g2,g3,g4,g5,g6,g7,g8,g9⟩⟩:=p.ok
 obtain⟨a,ts,e1,h1,h2⟩:=is_list.mp g7
 obtain⟨b,rs,e2,h3,h4⟩:=is_list.mp g8
 cases e1
 cases e2
 exact⟨dx,fs,aT,aA,ts,rs,f1 _ _ g1,g2,g3,g4,g5,g6,f1 _ _ h1,IsAll.same f1 _ _ h2,f1 _ _ h3,IsAll.same f1 _ _ h4,g9⟩
end
theorem zj4 {K:y02}{H:Hp}{ps:List (Nat×Nat)}{xs:List V}{i:Nat}{p:Nat×Nat}(al:IsAll K H xs (ps.map pr))(h:ps[i]?=some p):∃a,xs[i]?=some (.ref a)∧H a=some (.tup [.int (p.1:Int),.int (p.2:Int)]):=by
 obtain⟨x,h1,h2⟩:=z1x (i:=i) (d:=pr p) al (by rw [y0b,h]; rfl)
 unfold pr at h2
 obtain⟨a,rfl,ha⟩:=is_frac.mp h2
 exact⟨a,h1,ha⟩
theorem z3u {K:y02}{H:Hp}{ns:List Nat}{xs:List V}(h:IsAll K H xs (ns.map fun (n:Nat)=>.int (n:Int))):xs=z09 ns:=by
 have e:(ns.map fun (n:Nat)=>PyData.int (n:Int))=(ns.map fun (n:Nat)=>(n:Int)).map PyData.int:=by rw [y2a]; rfl
 rw [e] at h
 rw [z8m h,y2a]
 rfl
theorem z2h {K:y02}{H:Hp}(ns:List Nat):IsAll K H (z09 ns) (ns.map fun (n:Nat)=>.int (n:Int)):=by
 have e:(ns.map fun (n:Nat)=>PyData.int (n:Int))=(ns.map fun (n:Nat)=>(n:Int)).map PyData.int:=by rw [y2a]; rfl
 have e2:z09 ns=(ns.map fun (n:Nat)=>(n:Int)).map V.int:=by unfold z09; rw [y2a]; rfl
 rw [e,e2]
 exact z4p _
theorem z5c {K:y02}{H:Hp}{ps:List (List Nat)}{xs:List V}{i:Nat}{l:List Nat}(al:IsAll K H xs (ps.map z3k))(h:ps[i]?=some l):∃a,xs[i]?=some (.ref a)∧H a=some (.lst (z09 l)):=by
 obtain⟨x,h1,h2⟩:=z1x (i:=i) (d:=z3k l) al (by rw [y0b,h]; rfl)
 unfold z3k at h2
 obtain⟨a,ys,rfl,ha,hal⟩:=is_list.mp h2
 rw [z3u hal] at ha
 exact⟨a,h1,ha⟩
theorem zjo {l:List Nat}{i n:Nat}(h:l[i]?=some n):(z09 l)[i]?=some (.int (n:Int)):=by
 unfold z09
 rw [y0b,h]
 rfl
theorem z33 {l:List Nat}{i:Nat}{v:V}(h:(z09 l)[i]?=some v):∃n:Nat,l[i]?=some n∧v = .int (n:Int):=by
 unfold z09 at h
 rw [y0b] at h
 cases q:l[i]? with
 | none=>rw [q] at h; cases h
 | some n=>rw [q] at h; exact⟨n,rfl,(y14 h).symm⟩
theorem z2z {l:List Int}{i:Nat}{s:Int}(h:l[i]?=some s):atI (l.map V.int) (i:Int)=some (.int s):=z1v (by rw [y0b,h]; rfl)
theorem z0y {l:List Int}{i:Nat}(h:i<l.length):l[i]?=some (l.getD i 0):=by
 rw [y01 h]; simp [y1j,y01 h]
theorem z31 {n k:Nat}(h:k<n):ixN n (k:Int)=some k:=by
 unfold ixN
 rw [if_pos (by omega),if_pos (by omega)]
 rfl
theorem z74 {α:Type}{xs:List α}{x:α}(h:xs.getLast?=some x):atI xs (-1)=some x:=by
 have hne:xs ≠ []:=by rintro rfl; simp at h
 have hp:=y0t.mpr hne
 unfold atI ixN
 rw [if_neg (by decide),if_pos (by omega)]
 have e:((-1:Int)+xs.length).toNat=xs.length - 1:=by omega
 simp only [Option.bind_some,e]
 rw [y18] at h
 exact h
theorem z54 {l:List Int}{e:Nat}{s:Int}(h:l[e]?=some s):(l.map V.int)[((e:Nat):Int).toNat]?=some (.int s):=by
 rw [y41,y0b,h]
 rfl
theorem z48 {α:Type}(x:α):∀n:Nat,(y06 n [x]).flatten=y06 n x
 | 0=>rfl
 | n+1=>by rw [y1s,y1s,y3i,z48 x n]; rfl
theorem _root_.PM.Behind.weakT {N:PM.Net}{sent:List Int}{d:Nat}{row:List Nat}{steps0 steps:List Int}{behind:List Nat}{P Q:Nat→Nat→Prop}(B:PM.Behind N sent d row steps0 P steps behind)(h:∀a k b,Q a k→PM.Tie N a k b→P a k):PM.Behind N sent d row steps0 Q steps behind :=
 ⟨B.len,B.old,B.new,B.beh,fun a k b q t g=>B.cl a k b (h a k b q t) t g⟩
theorem _root_.PM.unr_set:∀{l:List Int} {i:Nat} {x v:Int},l[i]?=some x→x<0→0≤v→PM.unr (l.set i v)+1=PM.unr l
 | [],_,_,_,h,_,_=>by simp at h
 | y::r,0,x,v,h,h1,h2=>by
  simp at h
  subst h
  unfold PM.unr
  have:¬v<0:=by omega
  rw [y3t,y49,y49]
  simp [h1,this]
 | y::r,i+1,x,v,h,h1,h2=>by
  have ih:=PM.unr_set (l:=r) (i:=i) (x:=x) (v:=v) (by simpa using h) h1 h2
  unfold PM.unr at ih ⊢
  rw [y3u,y49,y49]
  omega
theorem _root_.PM.unr_len (l:List Int):PM.unr l≤l.length:=List.countP_le_length
theorem ze2 {steps:List Int}{e:Nat}(h:e<steps.length):steps[e]?=some (PM.Lv steps e):=by
 unfold PM.Lv
 rw [y01 h]; simp [y1j,y01 h]
theorem zan {steps:List Int}{e:Nat}(h:0≤PM.Lv steps e):e<steps.length:=by
 rcases y3q e steps.length with z | z
 ·exact z
 ·have:PM.Lv steps e = -1:=by simp [PM.Lv,y1j,y1a z]
  omega
def goB (N:PM.Net)(sent:List Int)(e k:Nat):Bool:=decide (e<N.G)||decide (0<sent.getD k 0)
theorem zbs {N:PM.Net}{sent:List Int}{e k:Nat}(hk:k<sent.length):goB N sent e k=true↔PM.Go N sent e k:=by
 unfold goB PM.Go
 rw [y5k,decide_eq_true_eq,decide_eq_true_eq]
 constructor
 ·rintro(h | h)
  ·exact .inl h
  ·exact .inr ⟨_,z0y hk,h⟩
 ·rintro(h | ⟨s,h1,h2⟩)
  ·exact .inl h
  ·right
   rw [z0y hk] at h1
   cases h1
   exact h2
def z55 (N:PM.Net)(spare:List Int)(e:Nat):Bool:=decide (N.G≤e)&&decide (0<spare.getD e 0)
theorem z45 {N:PM.Net}{spare:List Int}{e:Nat}(he:e<spare.length):z55 N spare e=true↔PM.Room N spare e:=by
 unfold z55 PM.Room
 rw [y1d,decide_eq_true_eq,decide_eq_true_eq]
 constructor
 ·rintro⟨h1,h2⟩
  exact⟨h1,_,z0y he,h2⟩
 ·rintro⟨h1,x,h2,h3⟩
  rw [z0y he] at h2
  cases h2
  exact⟨h1,h3⟩
def rest (N:PM.Net)(spare:List Int):List Nat:=(y0c N.G).filter fun g=>decide (0<spare.getD g 0)
section
variable (K:y02)(C:Addr)
def zj5:Sp:=fun vs H Q _=>∃(me:Addr) (N:PM.Net) (aS aP:Addr) (sent spare:List Int) (M:List Addr) (e k b:Nat),vs = [.ref me,.int (e:Int),.int (k:Int)]∧PourAt K C H me N aS aP sent spare M∧PM.Tie N e k b∧Q (.int (b:Int)) H
def zld:Sp:=fun vs H Q _=>∃(me:Addr) (N:PM.Net) (aS aP:Addr) (sent spare:List Int) (M:List Addr) (e k:Nat),vs = [.ref me,.int (e:Int),.int (k:Int)]∧PourAt K C H me N aS aP sent spare M∧k<sent.length∧Q (.bl (goB N sent e k)) H
def zhd:Sp:=fun vs H Q _=>∃(me:Addr) (N:PM.Net) (aS aP:Addr) (sent spare:List Int) (M:List Addr),vs = [.ref me]∧PourAt K C H me N aS aP sent spare M∧∀l,H l=none→Q (.ref l) (upd H l (.lst (z09 (rest N spare))))
def zdf:Sp:=fun vs H Q _=>∃(me:Addr) (N:PM.Net) (aS aP:Addr) (sent spare:List Int) (M:List Addr) (l:Addr) (es:List Nat),vs = [.ref me,.ref l]∧PourAt K C H me N aS aP sent spare M∧H l=some (.lst (z09 es))∧es.length≤1000∧(∀e∈es,e<N.nE)∧∀H',Same H H'→Q (.bl (es.any (z55 N spare))) H'
def zdg:Sp:=fun vs H Q _=>∃(me:Addr) (N:PM.Net) (aS aP:Addr) (sent spare:List Int) (M:List Addr) (ar ast:Addr) (row:List Nat) (steps0:List Int) (d:Nat),vs = [.ref me,.ref ar,.ref ast]∧PourAt K C H me N aS aP sent spare M∧ast∈M ∧
 H ar=some (.lst (z09 row))∧ar≠ast∧H ast=some (.lst (steps0.map V.int))∧steps0.length=N.nE∧(∀e∈row,PM.Lv steps0 e=d) ∧
 ∀(l:Addr) (steps:List Int) (behind:List Nat) H',Frz [ast] H H'→H' ast=some (.lst (steps.map V.int))→H l=none→H' l=some (.lst (z09 behind))→PM.Behind N sent d row steps0 (fun a _=>a∈row) steps behind→behind.length+PM.unr steps=PM.unr steps0→Q (.ref l) H'
def zn0 (N:PM.Net)(sent spare steps:List Int):Prop:=∃(d:Nat) (row:List Nat),PM.Rows N sent spare d row steps∧(row = []∨∃e∈row,PM.Room N spare e)
def zfi:Sp:=fun vs H Q _=>∃(me:Addr) (N:PM.Net) (aS aP:Addr) (sent spare:List Int) (M:List Addr),vs = [.ref me]∧PourAt K C H me N aS aP sent spare M ∧
 ∀(l:Addr) (steps:List Int) H',Same H H'→H l=none→H' l=some (.lst (steps.map V.int))→steps.length=N.nE→zn0 N sent spare steps→Q (.ref l) H'
def zgm (N:PM.Net)(sent steps:List Int)(e k b:Nat):Bool:=decide (PM.Lv steps b=PM.Lv steps e+1)&&goB N sent e k
def zhm:Sp:=fun vs H Q _=>∃(me:Addr) (N:PM.Net) (aS aP:Addr) (sent spare:List Int) (M:List Addr) (ast:Addr) (steps:List Int) (e k b:Nat),vs = [.ref me,.int (e:Int),.int (k:Int),.ref ast]∧PourAt K C H me N aS aP sent spare M∧H ast=some (.lst (steps.map V.int))∧steps.length=N.nE∧PM.Tie N e k b∧Q (.bl (zgm N sent steps e k b)) H
def zk1:Sp:=fun vs H Q _=>∃(me:Addr) (N:PM.Net) (aS aP:Addr) (sent spare:List Int) (M:List Addr) (ast atr:Addr) (steps tried:List Int) (e g:Nat) (es way:List Nat),vs = [.ref me,.int (e:Int),.ref ast,.ref atr]∧PourAt K C H me N aS aP sent spare M∧atr∈M∧ast≠atr∧H ast=some (.lst (steps.map V.int))∧steps.length=N.nE∧H atr=some (.lst (tried.map V.int)) ∧
 PM.Walk N sent spare steps g tried es way∧es.getLast?=some e∧e<N.nE ∧
 ∀(tried':List Int) H',Frz [atr] H H'→H' atr=some (.lst (tried'.map V.int))→PM.Walk N sent spare steps g tried' es way→PM.pot N.at' tried'≤PM.pot N.at' tried→(∀b,PM.Exh N spare tried b→PM.Exh N spare tried' b) →
  (∃(l:List Nat) (t:Nat),N.at'[e]?=some l∧tried'[e]?=some (t:Int)∧t≤l.length∧∀k b,l[t]?=some k→PM.Tie N e k b→zgm N sent steps e k b=true)→Q .non H'
end
theorem zjq {N:PM.Net}(W:N.WF){e k b:Nat}(t:PM.Tie N e k b):e<N.nE∧b<N.nE∧k<N.ends.length:=by
 obtain⟨p,hp,q⟩:=t
 have h1:=W.lo k p hp
 have h2:=W.gle
 have h3:=(y00.mp hp).1
 rcases q with q | q<;>refine⟨?_,?_,?_⟩<;>omega
theorem z9z {N:PM.Net}(W:N.WF){sent steps:List Int}{e k b:Nat}(t:PM.Tie N e k b)(hl:sent.length=N.ends.length):zgm N sent steps e k b=true↔PM.Leads N sent steps e k b:=by
 unfold zgm PM.Leads
 rw [y1d,decide_eq_true_eq,zbs (by rw [hl]; exact(zjq W t).2.2)]
 exact⟨fun h=>⟨t,h.2,h.1⟩,fun h=>⟨h.2.2,h.2.1⟩⟩
theorem zk0 {N:PM.Net}(W:N.WF){e k:Nat}{l:List Nat}(hl:N.at'[e]?=some l)(hk:k∈l):∃b,PM.Tie N e k b:=by
 obtain⟨p,hp,hpe⟩:=(W.mem e l k hl).mp hk
 rcases hpe with z | z
 ·exact⟨p.2,p,hp,.inl ⟨z,rfl⟩⟩
 ·exact⟨p.1,p,hp,.inr ⟨z,rfl⟩⟩
theorem rest_mem {N:PM.Net}{spare:List Int}{g:Nat}:g∈rest N spare↔g<N.G∧0<spare.getD g 0:=by
 unfold rest
 rw [y15,y1n,decide_eq_true_eq]
theorem zie {N:PM.Net}{spare:List Int}:(rest N spare).length≤N.G:=by
 unfold rest
 refine y19 (y3g _ _) ?_
 simp
theorem zor {N:PM.Net}(W:N.WF){sent spare steps:List Int}(hl:steps.length=N.nE)(hp:spare.length=N.nE)(h:∀e,PM.Lv steps e=if e∈rest N spare then 0 else -1):PM.Rows N sent spare 0 (rest N spare) steps:=by
 have hg:=W.gle
 have two:∀e,(e∈rest N spare∧PM.Lv steps e=0)∨(e ∉ rest N spare∧PM.Lv steps e = -1):=fun e=>by
  have:=h e
  by_cases c:e∈rest N spare
  ·rw [if_pos c] at this; exact .inl ⟨c,this⟩
  ·rw [if_neg c] at this; exact .inr ⟨c,this⟩
 refine⟨⟨hl,fun e he=>?_,fun g x hg' hx h0=>?_,fun e he=>?_⟩,fun e=>?_,fun e=>?_,fun a k b t g h1 h2=>?_,fun e h1 h2=>?_⟩
 ·rcases two e with ⟨a,b⟩ | ⟨a,b⟩
  ·obtain⟨a1,a2⟩:=rest_mem.mp a
   exact⟨a1,_,z0y (by omega),a2⟩
  ·omega
 ·have:g∈rest N spare:=rest_mem.mpr ⟨hg',by rw [z0y (by omega)] at hx; cases hx; exact h0⟩
  rw [h g,if_pos this]
 ·rcases two e with ⟨a,b⟩ | ⟨a,b⟩<;>omega
 ·rcases two e with ⟨a,b⟩ | ⟨a,b⟩
  ·exact⟨fun _=>by omega,fun _=>a⟩
  ·exact⟨fun z=>absurd z a,fun z=>by omega⟩
 ·rcases two e with ⟨a,b⟩ | ⟨a,b⟩<;>omega
 ·omega
 ·omega
theorem Frz.new {L:List Addr}{H H':Hp}{l:Addr}{o:HO}(f:Frz L H H')(h:H l=none):Frz L H (L2.upd H' l o):=fun b u hb q=>by
 rw [z0a (z08 q h)]
 exact f b u hb q
theorem z44 (l:List Nat):(z09 l).length=l.length:=by unfold z09; rw [y04]
theorem zde (l:List Nat)(n:Nat):z09 l ++ [.int (n:Int)]=z09 (l ++ [n]):=by unfold z09; rw [y0h]; rfl
theorem zf5 (l:List Nat):(z09 l).dropLast=z09 l.dropLast:=by unfold z09; rw [List.map_dropLast]
theorem z6i {l:List Nat}{n:Nat}(h:l.getLast?=some n):(z09 l).getLast?=some (.int (n:Int)):=by
 unfold z09
 rw [List.getLast?_map,h]
 rfl
theorem zci:∀{n:Nat} {l:List Nat},l.Nodup→(∀x∈l,x<n)→l.length≤n
 | 0,[],_,_=>y07 _
 | 0,x::l,_,h=>absurd (h x y0d) (y5n _)
 | n+1,l,hn,h=>by
  have h1:(l.filter fun x=>decide (x<n)).length≤n:=zci (hn.filter _) fun x hx=>by simpa using (y15.mp hx).2
  have h2:l.length≤(l.filter fun x=>decide (x<n)).length+l.count n:=by
   clear h1
   induction l with
   | nil=>simp
   | cons x l ih =>
    have hx:=h x y0d
    have:=ih (y3a.mp hn).2 fun y hy=>h y (y08 _ hy)
    rw [y37,y5m]
    by_cases c:x<n
    ·have c2:¬(x==n)=true:=by simp; omega
     simp only [c,decide_true,if_true,y11,c2]
     simp
     omega
    ·have c2:x=n:=by omega
     subst c2
     simp
     omega
  have h3:=y4c.mp hn n
  omega
section
variable (K:y02)(C:Addr)
def Way (N:PM.Net)(sent spare steps:List Int)(g:Nat)(tried:List Int)(way:List Nat):Prop:=(way = []∧PM.Exh N spare tried g)∨(way ≠ []∧∃(es:List Nat) (f:Nat),PM.Path N steps sent es way∧es[0]?=some g∧es[way.length]?=some f∧PM.Room N spare f)
def zno:Sp:=fun vs H Q _=>∃(me:Addr) (N:PM.Net) (aS aP:Addr) (sent spare:List Int) (M:List Addr) (ast atr:Addr) (steps tried:List Int) (g:Nat),vs = [.ref me,.int (g:Int),.ref ast,.ref atr]∧PourAt K C H me N aS aP sent spare M∧atr∈M∧ast≠atr∧H ast=some (.lst (steps.map V.int))∧steps.length=N.nE∧H atr=some (.lst (tried.map V.int)) ∧
 PM.Lv steps g=0∧g<N.G∧PM.Tr N tried∧PM.Dead N sent spare steps tried ∧
 ∀(lw:Addr) (way:List Nat) (tried':List Int) H',Frz [atr] H H'→H' atr=some (.lst (tried'.map V.int))→H lw=none→H' lw=some (.lst (z09 way))→PM.Tr N tried'→PM.Dead N sent spare steps tried'→(∀b,PM.Exh N spare tried b→PM.Exh N spare tried' b)→Way N sent spare steps g tried' way→way.length≤1000→Q (.ref lw) H'
end
theorem za1:∀(b:Bool) (l:List Nat),PM.alt b (z09 l)=z09 (PM.alt b l)
 | true,[]=>rfl
 | false,[]=>rfl
 | true,x::r=>by
  show V.int (x:Int)::PM.alt false (z09 r)=V.int (x:Int)::z09 (PM.alt false r)
  rw [za1 false r]
 | false,x::r=>by
  show PM.alt true (z09 r)=z09 (PM.alt true r)
  exact za1 true r
theorem z80 (a:Int)(sent:List Int)(l:List Nat)(k:Nat):PM.addAll a sent (l ++ [k])=(PM.addAll a sent l).set k ((PM.addAll a sent l).getD k 0+a):=by
 unfold PM.addAll
 rw [List.foldl_append]
 rfl
section
variable (K:y02)(C:Addr)
def zjv:Sp:=fun vs H Q _=>∃(me:Addr) (N:PM.Net) (aS aP:Addr) (sent spare:List Int) (M:List Addr) (lw:Addr) (cap steps:List Int) (g f:Nat) (es way:List Nat),vs = [.ref me,.int (g:Int),.ref lw]∧PourAt K C H me N aS aP sent spare M∧lw∈M∧H lw=some (.lst (z09 way))∧way.length≤1000∧way ≠ [] ∧
 PM.Flow N cap sent spare∧PM.Path N steps sent es way∧es[0]?=some g∧es[way.length]?=some f∧PM.Room N spare f∧g<N.G∧0<spare.getD g 0 ∧
 ∀(a:Int) (spare':List Int) H',0<a→Frz [aS,aP] H H'→H' aS=some (.lst ((PM.sendBy a sent way).map V.int))→H' aP=some (.lst (spare'.map V.int))→PM.Sent N cap sent spare way g f a spare'→spare'.getD g 0<spare.getD g 0→(∀e,e<N.G→e≠g→spare'.getD e 0=spare.getD e 0)→Q .non H'
end
theorem zce {α:Type}:∀(b:Bool) (l:List α),(PM.alt b l).length≤l.length
 | true,[]=>y07 _
 | false,[]=>y07 _
 | true,x::r=>by
  have:=zce false r
  show(PM.alt false r).length+1≤r.length+1
  omega
 | false,x::r=>by
  have:=zce true r
  show(PM.alt true r).length≤r.length+1
  omega
theorem szz {n:Nat}(h:n≤1000000):n≤sizeLine:=y19 h (by decide)
section
variable (K:y02)(C:Addr)
def zey:Sp:=fun vs H Q _=>∃(me:Addr) (N:PM.Net) (aS aP:Addr) (sent0 spare0:List Int) (M:List Addr) (ast:Addr) (cap steps:List Int),vs = [.ref me,.ref ast]∧PourAt K C H me N aS aP sent0 spare0 M∧ast∈M∧H ast=some (.lst (steps.map V.int))∧steps.length=N.nE ∧
 PM.Flow N cap sent0 spare0∧PM.Steps N sent0 spare0 steps ∧
 ∀(sent spare:List Int) H',Frz [aS,aP] H H'→H' aS=some (.lst (sent.map V.int))→H' aP=some (.lst (spare.map V.int))→PM.Flow N cap sent spare→(∀(e:Nat) x y,spare0[e]?=some x→spare[e]?=some y→y≤x)→(∀e,0≤PM.Lv steps e→PM.Room N spare0 e→spare.sum<spare0.sum)→Q .non H'
end
theorem tr0 {N:PM.Net}(W:N.WF):PM.Tr N (y06 N.nE 0):=⟨by rw [y1z],fun e l t _ h=>by
 rw [y1i] at h
 split at h
 ·cases h
  constructor<;>omega
 ·cases h⟩
theorem zpd {N:PM.Net}{sent spare steps:List Int}:PM.Dead N sent spare steps (y06 N.nE 0):=fun e l j k t _ _ h hj=>by
 rw [y1i] at h
 split at h
 ·cases h
  omega
 ·cases h
theorem zeh {N:PM.Net}{spare:List Int}:(rest N spare).Nodup:=List.Pairwise.filter _ List.nodup_range
theorem zdv {l:List Nat}(h:l.Nodup){i g:Nat}(hg:l[i]?=some g):g ∉ l.take i:=fun hm=>by
 obtain⟨j,hj⟩:=y0f hm
 have hji:j<i:=by
  have:=(y00.mp hj).1
  rw [y0r] at this
  omega
 rw [y4z hji] at hj
 have hi:=(y00.mp hg).1
 have hjl:=(y00.mp hj).1
 have e:l[j]=l[i]:=by
  rw [(y00.mp hj).2,(y00.mp hg).2]
 exact y2l.mp h j i hjl hi hji e
section
variable (K:y02)(C:Addr)
def z3l (steps:List Int):List Bool:=steps.map fun s=>decide (0≤s)
def zjl:Sp:=fun vs H Q _=>∃(me:Addr) (N:PM.Net) (aS aP:Addr) (sent0 spare0:List Int) (M:List Addr) (cap:List Int),vs = [.ref me]∧PourAt K C H me N aS aP sent0 spare0 M∧PM.Flow N cap sent0 spare0 ∧
 ∀(l:Addr) (sent spare steps:List Int) H',Frz [aS,aP] H H'→H' aS=some (.lst (sent.map V.int))→H' aP=some (.lst (spare.map V.int))→PM.Done N cap sent spare steps→(∀(e:Nat) x y,spare0[e]?=some x→spare[e]?=some y→y≤x)→steps.length=N.nE→H l=none→H' l=some (.lst ((z3l steps).map V.bl))→Q (.ref l) H'
end
def z8d (steps:List Int)(i:Nat):List Nat:=(y0c i).filter fun e=>decide (0≤PM.Lv steps e)
theorem z8l (steps:List Int)(i:Nat):z8d steps (i+1)=z8d steps i++(if 0≤PM.Lv steps i then [i] else []):=by
 unfold z8d
 rw [y3h,y38]
 congr 1
 by_cases c:0≤PM.Lv steps i<;>simp [c]
theorem z9v (steps:List Int)(i:Nat):(z8d steps i).length≤i:=by
 unfold z8d
 refine y19 (y3g _ _) ?_
 simp
theorem reach_mem {steps:List Int}{e:Nat}:e∈z8d steps steps.length↔0≤PM.Lv steps e:=by
 unfold z8d
 rw [y15,y1n,decide_eq_true_eq]
 exact⟨fun h=>h.2,fun h=>⟨zan h,h⟩⟩
theorem z2g {K:y02}{H H':Hp}:∀{ps:List (Nat×Nat)} {xs:List V},IsAll K H xs (ps.map pr)→(∀b ys,H b=some (.tup ys)→H' b=some (.tup ys))→IsAll K H' xs (ps.map pr)
 | [],xs,h,_=>by simpa only [y35,IsAll] using h
 | p::ps,xs,h,k=>by
  rw [y0m] at h ⊢
  simp only [IsAll] at h
  obtain⟨v,vs,rfl,q,al⟩:=h
  refine z1d ?_ (z2g al k)
  obtain⟨a,rfl,ha⟩:=is_frac.mp q
  exact is_frac.mpr ⟨a,rfl,k _ _ ha⟩
structure FF (fs:List (Str×V))(n:Nat)(g:Str→Option V):Prop where
 len:fs.length≤n
 get:∀m,fs.lookup m=g m
theorem FF.nil:FF [] 0 fun _=>none:=⟨y07 _,fun _=>rfl⟩
theorem FF.put {fs:List (Str×V)}{n:Nat}{g:Str→Option V}(h:FF fs n g)(f:Str)(v:V):FF (z84 f v fs) (n+1) fun m=>if m=f then some v else g m :=
 ⟨y19 (z58 f v fs) (Nat.succ_le_succ h.len),fun m=>by rw [z57,h.get m]⟩
theorem zcn {K:y02}{H:Hp}:∀{xs:List V} {ds:List PyData},xs.length=ds.length→(∀(i:Nat) x d,xs[i]?=some x→ds[i]?=some d→Is K H x d)→IsAll K H xs ds
 | [],[],_,_=>z0t
 | [],_::_,h,_=>by simp at h
 | _::_,[],h,_=>by simp at h
 | x::xs,d::ds,h,g=>z1d (g 0 x d rfl rfl) (zcn (by simpa using h) fun i y e h1 h2=>g (i+1) y e (by simpa using h1) (by simpa using h2))
theorem zkg {α:Type}(n e:Nat)(f:Nat→α)(v:α):((y0c n).map f).set e v=(y0c n).map fun x=>if x=e then v else f x:=by
 apply y3j
 intro i
 rw [List.getElem?_set,y0b,y0b,y04,y2u]
 by_cases hi:i<n
 ·rw [y25 hi]
  by_cases c:e=i
  ·subst c
   simp [hi]
  ·have c':¬i=e:=fun z=>c z.symm
   simp [c,c']
 ·rw [y1a (by simpa using hi)]
  by_cases c:e=i
  ·subst c
   simp [hi]
  ·simp [c]
theorem z5r {α:Type}{n e:Nat}(f:Nat→α)(h:e<n):((y0c n).map f)[e]?=some (f e):=by
 rw [y0b,y25 h]
 rfl
theorem zao:∀{ends:List (Nat×Nat)} {sent:List Int} {p:Nat×Nat} {s:Int} {e:Nat},sent.length=ends.length→PM.load (ends ++ [p]) (sent ++ [s]) e=PM.load ends sent e+(if PM.inc p e then s else 0)
 | [],[],p,s,e,_=>by simp [PM.load]
 | [],_::_,_,_,_,h=>by simp at h
 | _::_,[],_,_,_,h=>by simp at h
 | q::r,x::y,p,s,e,h=>by
  have ih:=zao (ends:=r) (sent:=y) (p:=p) (s:=s) (e:=e) (by simpa using h)
  simp only [y6p,PM.load,ih]
  omega
def z0p (G:Nat)(ties:List (Nat×Nat)):List (Nat×Nat):=ties.map fun p=>(p.1,G+p.2)
def zcs (ends:List (Nat×Nat))(i e:Nat):List Nat:=(y0c i).filter fun k=>PM.inc (ends.getD k (0,0)) e
theorem zfc (ends:List (Nat×Nat))(i e:Nat):zcs ends (i+1) e=zcs ends i e++(if PM.inc (ends.getD i (0,0)) e then [i] else []):=by
 unfold zcs
 rw [y3h,y38]
 congr 1
 rw [y37,y6z]
def zds (cap:List Int)(ends:List (Nat×Nat))(ss:List Int)(i e:Nat):Int:=cap.getD e 0 - PM.load (ends.take i) (ss.take i) e
def zdp (G T:Nat)(ties:List (Nat×Nat)):PM.Net:=PM.netOf G T ties ((y0c (G+T)).map (zcs (z0p G ties) ties.length))
theorem zd0 {G T:Nat}{ties:List (Nat×Nat)}(h:∀p∈ties,p.1<G∧p.2<T):(zdp G T ties).WF:=by
 have look:∀(k:Nat) p,(z0p G ties)[k]?=some p→∃q,ties[k]?=some q∧p=(q.1,G+q.2):=fun k p hp=>by
  unfold z0p at hp
  rw [y0b] at hp
  cases z:ties[k]? with
  | none=>rw [z] at hp; cases hp
  | some q=>rw [z] at hp; exact⟨q,rfl,(y14 hp).symm⟩
 refine⟨y5c _ _,by show((y0c (G+T)).map _).length=G+T; simp,fun k p hp=>?_,fun e l k hl=>?_⟩
 ·obtain⟨q,h1,rfl⟩:=look k p hp
  obtain⟨a,b⟩:=h q (y03 h1)
  refine⟨a,?_,?_⟩
  ·show G≤G+q.2; omega
  ·show G+q.2<G+T; omega
 ·have hl':((y0c (G+T)).map (zcs (z0p G ties) ties.length))[e]?=some l:=hl
  have he:e<G+T:=by simpa using (y00.mp hl').1
  rw [z5r _ he] at hl'
  cases hl'
  unfold zcs
  rw [y15,y1n]
  constructor
  ·rintro⟨h1,h2⟩
   have hk:(z0p G ties)[k]?=some ((z0p G ties).getD k (0,0)):=by
    have:k<(z0p G ties).length:=by unfold z0p; rw [y04]; exact h1
    rw [y01 this]; simp [y1j,y01 this]
   exact⟨_,hk,by simpa [PM.inc] using h2⟩
  ·rintro⟨p,hp,hq⟩
   have hp':(z0p G ties)[k]?=some p:=hp
   have hk:k<ties.length:=by have:=(y00.mp hp').1; unfold z0p at this; rw [y04] at this; exact this
   refine⟨hk,?_⟩
   rw [show(z0p G ties).getD k (0,0)=p by simp [y1j,hp']]
   simpa [PM.inc] using hq
structure Aprt (x lT lS lP lA:Addr)(as:List Addr):Prop where
 Px:lP≠x
 PT:lP≠lT
 PS:lP≠lS
 PA:lP≠lA
 inP:lP ∉ as
 inx:x ∉ as
 inT:lT ∉ as
 inS:lS ∉ as
 inA:lA ∉ as
 nd:as.Nodup
structure IniAt (K:y02)(C:Addr)(H:Hp)(x dx lT lS lP lA:Addr)(fs:List (Str×V))(tl:List V)(E:List (Nat×Nat))(ss:List Int)(as:List Addr)(n:Nat)(sf:Nat→Int)(af:Nat→List Nat):Prop where
 me:H x=some (.ins C dx fs)
 te:H lT=some (.lst tl)
 al:IsAll K H tl (E.map pr)
 st:H lS=some (.lst (ss.map V.int))
 ta:H lA=some (.lst (as.map V.ref))
 sp:H lP=some (.lst (((y0c n).map sf).map V.int))
 tt:∀(e:Nat) (a:Addr),as[e]?=some a→H a=some (.lst (z09 (af e)))
section
variable {K:y02}{C:Addr}{H H':Hp}{x dx lT lS lP lA:Addr}{fs:List (Str×V)}{tl:List V}{E:List (Nat×Nat)}{ss:List Int}{as:List Addr}{n:Nat}{sf:Nat→Int}{af:Nat→List Nat}
theorem IniAt.same (i:IniAt K C H x dx lT lS lP lA fs tl E ss as n sf af)(s:Same H H'):IniAt K C H' x dx lT lS lP lA fs tl E ss as n sf af :=
 ⟨s _ _ i.me,s _ _ i.te,IsAll.same s _ _ i.al,s _ _ i.st,s _ _ i.ta,s _ _ i.sp,fun e a h=>s _ _ (i.tt e a h)⟩
theorem IniAt.spare (i:IniAt K C H x dx lT lS lP lA fs tl E ss as n sf af)(A:Aprt x lT lS lP lA as)(sf':Nat→Int):IniAt K C (upd H lP (.lst (((y0c n).map sf').map V.int))) x dx lT lS lP lA fs tl E ss as n sf' af :=
 ⟨by rw [z0a A.Px.symm]; exact i.me,by rw [z0a A.PT.symm]; exact i.te,z2g i.al fun b ys hb=>by rw [z0a (z66 hb i.sp (by intro z; cases z))]; exact hb,by rw [z0a A.PS.symm]; exact i.st,by rw [z0a A.PA.symm]; exact i.ta,z01,
  fun e a h=>by rw [z0a (fun z=>A.inP (by rw [←z]; exact y03 h))]; exact i.tt e a h⟩
theorem IniAt.tie (i:IniAt K C H x dx lT lS lP lA fs tl E ss as n sf af)(A:Aprt x lT lS lP lA as){e:Nat}{a:Addr}(ha:as[e]?=some a)(l:List Nat):IniAt K C (upd H a (.lst (z09 l))) x dx lT lS lP lA fs tl E ss as n sf (fun y=>if y=e then l else af y):=by
 have hm:=y03 ha
 have ne:∀{b:Addr},b ∉ as→b≠a:=fun {b} hb z=>hb (by rw [z]; exact hm)
 refine⟨by rw [z0a (ne A.inx)]; exact i.me,by rw [z0a (ne A.inT)]; exact i.te,z2g i.al fun b ys hb=>by rw [z0a (z66 hb (i.tt e a ha) (by intro z; cases z))]; exact hb,by rw [z0a (ne A.inS)]; exact i.st,by rw [z0a (ne A.inA)]; exact i.ta,by rw [z0a (ne A.inP)]; exact i.sp,fun y b hb=>?_⟩
 by_cases c:y=e
 ·subst c
  rw [ha] at hb
  cases hb
  rw [z01,if_pos rfl]
 ·have hne:b≠a:=fun z=>by
   subst z
   have h1:=(y00.mp hb).1
   have h2:=(y00.mp ha).1
   have h3:as[y]=as[e]:=by rw [(y00.mp hb).2,(y00.mp ha).2]
   rcases Nat.lt_or_gt_of_ne c with q | q
   ·exact y2l.mp A.nd y e h1 h2 q h3
   ·exact y2l.mp A.nd e y h2 h1 q h3.symm
  rw [z0a hne,if_neg c]
  exact i.tt y b hb
end
theorem zej (l:List Int):(y0c l.length).map (fun e=>l.getD e 0)=l:=by
 apply y3j
 intro i
 rw [y0b]
 by_cases h:i<l.length
 ·rw [y25 h,z0y h]
  rfl
 ·rw [y1a (by simpa using h),y1a (by omega)]
  rfl
section
variable (K:y02)(C:Addr)
def zfd:Sp:=fun vs H Q _=>∃(x dx ag ak ai ase:Addr) (gs ts ss:List Int) (ties:List (Nat×Nat)),vs = [.ref x,.ref ag,.ref ak,.ref ai,.ref ase]∧H x=some (.ins C dx [])∧H ag=some (.lst (gs.map V.int))∧H ak=some (.lst (ts.map V.int))∧Is K H (.ref ai) (.list (ties.map pr))∧H ase=some (.lst (ss.map V.int)) ∧
 (∀p∈ties,p.1<gs.length∧p.2<ts.length)∧ss.length=ties.length∧gs.length+ts.length≤1000∧ties.length≤1000 ∧
 ∀(aS aP:Addr) H',Frz [x] H H'→H aS=none→H aP=none→PourAt K C H' x (zdp gs.length ts.length ties) aS aP ss ((y0c (gs.length+ts.length)).map (zds (gs++ts) (z0p gs.length ties) ss ties.length)) []→Q .non H'
end
section
variable (K:y02)
def zph (H:Hp)(Q:VK)(gs ts:List Int)(ties:List (Nat×Nat))(R:List Int→List Int→Prop):Prop :=
 ∀(p q aS n1 n2:Addr) (sent spare steps:List Int) H',Same H H'→(H p=none∧H q=none∧H aS=none∧H n1=none∧H n2=none)→(aS≠n1∧aS≠n2∧n1≠n2)→H' p=some (.tup [.ref aS,.ref q])→H' q=some (.tup [.ref n1,.ref n2])→H' aS=some (.lst (sent.map V.int)) →
  H' n1=some (.lst (((z3l steps).take gs.length).map V.bl))→H' n2=some (.lst (((z3l steps).drop gs.length).map V.bl))→PM.Done (zdp gs.length ts.length ties) (gs++ts) sent spare steps→steps.length=gs.length+ts.length→R sent spare→Q (.ref p) H'
def zk4:Sp:=fun vs H Q _=>∃(ag ak ai ase:Addr) (gs ts ss:List Int) (ties:List (Nat×Nat)),vs = [.ref ag,.ref ak,.ref ai,.ref ase]∧H ag=some (.lst (gs.map V.int))∧H ak=some (.lst (ts.map V.int))∧Is K H (.ref ai) (.list (ties.map pr))∧H ase=some (.lst (ss.map V.int)) ∧
 (∀p∈ties,p.1<gs.length∧p.2<ts.length)∧ss.length=ties.length∧gs.length+ts.length≤1000∧ties.length≤1000∧(∀(k:Nat) s,ss[k]?=some s→0≤s)∧(∀e<gs.length+ts.length,0≤zds (gs++ts) (z0p gs.length ties) ss ties.length e) ∧
 zph H Q gs ts ties fun _ spare=>∀(e:Nat) x y,((y0c (gs.length+ts.length)).map (zds (gs++ts) (z0p gs.length ties) ss ties.length))[e]?=some x→spare[e]?=some y→y≤x
def zne:Sp:=fun vs H Q _=>∃(ag ak ai:Addr) (gs ts:List Int) (ties:List (Nat×Nat)),vs = [.ref ag,.ref ak,.ref ai]∧H ag=some (.lst (gs.map V.int))∧H ak=some (.lst (ts.map V.int))∧Is K H (.ref ai) (.list (ties.map pr)) ∧
 (∀p∈ties,p.1<gs.length∧p.2<ts.length)∧gs.length+ts.length≤1000∧ties.length≤1000∧(∀g∈gs++ts,0≤g)∧zph H Q gs ts ties fun _ _=>True
end
theorem za4:∀(ends:List (Nat×Nat)) (n e:Nat),PM.load ends (y06 n 0) e=0
 | [],n,e=>by cases n<;>rfl
 | p::r,0,e=>rfl
 | p::r,n+1,e=>by
  rw [y1s]
  simp only [PM.load,za4 r n e]
  simp
theorem zp5 {gs ts ss:List Int}{ties:List (Nat×Nat)}(hl:ss.length=ties.length)(hn:∀(k:Nat) s,ss[k]?=some s→0≤s)(hs:∀e<gs.length+ts.length,0≤zds (gs++ts) (z0p gs.length ties) ss ties.length e) :
  PM.Flow (zdp gs.length ts.length ties) (gs++ts) ss ((y0c (gs.length+ts.length)).map (zds (gs++ts) (z0p gs.length ties) ss ties.length)):=by
 have hel:(z0p gs.length ties).length=ties.length:=by unfold z0p; rw [y04]
 refine⟨by show ss.length=(ties.map _).length; rw [y04]; exact hl,by show _=gs.length+ts.length; simp,by show _=gs.length+ts.length; simp,hn,fun e c s hc h=>?_,fun e s h=>?_⟩
 ·have he:e<gs.length+ts.length:=by simpa using (y00.mp h).1
  rw [z5r _ he] at h
  cases h
  unfold zds
  rw [y05 (by omega),y05 (by omega)]
  rw [show(gs++ts).getD e 0=c by simp only [y1j,hc,Option.getD_some]]
  rfl
 ·have he:e<gs.length+ts.length:=by simpa using (y00.mp h).1
  rw [z5r _ he] at h
  cases h
  exact hs e he
theorem zku {P:Program}{w:World}{K:y02}{mg:Str→Option Value}{base:Heap}{x:Str}{C:Addr}{k:Nat}{ps:List Str}{sp:Sp}(D:MDef P w K mg base C "__init__" k ps sp)(h1:y4g K C=true)(h2:y0e K (.ref C)=true)(h3:mg x=some (.ref C)):CDef P w K mg base x C k ps sp:=by
 obtain⟨f,fd,F,b,m⟩:=D.is
 exact⟨⟨f,fd,F,b,⟨h1,m.at_,m.fn,h2⟩⟩,h3⟩
end My
set_option Elab.async false
set_option linter.all false
set_option maxRecDepth 100000
namespace My
open PySem L2 L2.EX
end My
set_option Elab.async false
set_option linter.all false
set_option maxRecDepth 100000
namespace My
open PySem L2 L2.EX
section
variable {gs ts sent spare steps:List Int}{ties:List (Nat×Nat)}
end
def p1 (gv:List Bool):List Bool→List (Nat×Nat)→List Bool
 | tk,p::ps=>p1 gv (if gv.getD p.1 false=true then tk.set p.2 true else tk) ps
 | tk,[]=>tk
def p2 (tk:List Bool):List Bool→List (Nat×Nat)→List Int→List Bool
 | gv,p::ps,s::ss=>p2 tk (if tk.getD p.2 false=true∧0<s then gv.set p.1 true else gv) ps ss
 | gv,_,_=>gv
def rnd (ties:List (Nat×Nat))(ss:List Int)(x:List Bool×List Bool):List Bool×List Bool:=(p2 (p1 x.1 x.2 ties) x.1 ties ss,p1 x.1 x.2 ties)
def its (ties:List (Nat×Nat))(ss:List Int):Nat→List Bool×List Bool→List Bool×List Bool
 | 0,x=>x
 | n+1,x=>rnd ties ss (its ties ss n x)
structure Mk (G T:Nat)(x:List Bool×List Bool):Prop where
 l1:x.1.length=G
 l2:x.2.length=T
section
variable {G T:Nat}{ties:List (Nat×Nat)}{ss:List Int}
end
theorem zcu {steps:List Int}{e:Nat}(h:e<steps.length):(z3l steps).getD e false=PM.nr steps e:=by
 unfold z3l PM.nr PM.Lv
 simp [y1j,y0b,y01 h]
section
variable {gs ts sent spare steps:List Int}{ties:List (Nat×Nat)}
end
theorem zg0 {l:List Int}{i:Nat}{v:V}(h:(l.map V.int)[i]?=some v):∃n:Int,l[i]?=some n∧v = .int n:=by
 rw [y0b] at h
 cases q:l[i]? with
 | none=>rw [q] at h; cases h
 | some n=>rw [q] at h; exact⟨n,rfl,(y14 h).symm⟩
theorem zni {l:List Bool}{i:Nat}{v:V}(h:(l.map V.bl)[i]?=some v):∃n:Bool,l[i]?=some n∧v = .bl n:=by
 rw [y0b] at h
 cases q:l[i]? with
 | none=>rw [q] at h; cases h
 | some n=>rw [q] at h; exact⟨n,rfl,(y14 h).symm⟩
theorem zn7 {l:List Int}{i:Nat}(h:i<l.length):atI (l.map V.int) (i:Int)=some (.int (l.getD i 0)):=z2z (z0y h)
structure TellsP (H:Hp)(p q aS n1 n2:Addr)(G:Nat)(sent steps:List Int):Prop where
 h1:H p=some (.tup [.ref aS,.ref q])
 h2:H q=some (.tup [.ref n1,.ref n2])
 h3:H aS=some (.lst (sent.map V.int))
 h4:H n1=some (.lst (((z3l steps).take G).map V.bl))
 h5:H n2=some (.lst (((z3l steps).drop G).map V.bl))
structure AsksP (K:y02)(H:Hp)(ag ak ai:Addr)(gs ts:List Int)(ties:List (Nat×Nat)):Prop where
 g:H ag=some (.lst (gs.map V.int))
 t:H ak=some (.lst (ts.map V.int))
 i:Is K H (.ref ai) (.list (ties.map pr))
 ok:∀p∈ties,p.1<gs.length∧p.2<ts.length
 sm:gs.length+ts.length≤400
 sk:ties.length≤400
 nn:∀g∈gs++ts,0≤g
 bd:∀g∈gs++ts,Bd 1200 g
theorem zo8 {K:y02}{H:Hp}{a:Addr}{p:Nat×Nat}(h:H a=some (.tup [.int (p.1:Int),.int (p.2:Int)])):Is K H (.ref a) (pr p):=is_frac.mpr ⟨a,rfl,h⟩
def zms (gs ts:List Int)(ties:List (Nat×Nat))(ss:List Int)(e:Nat):Int:=(gs++ts).getD e 0 - PM.load (z0p gs.length ties) ss e
structure Fits (gs ts:List Int)(ties:List (Nat×Nat))(ss:List Int):Prop where
 len:ss.length=ties.length
 nn:∀(k:Nat) s,ss[k]?=some s→0≤s
 rm:∀e<gs.length+ts.length,0≤zms gs ts ties ss e
section
variable {gs ts ss sent spare steps sent' spare' steps':List Int}{ties:List (Nat×Nat)}
end
end My
set_option Elab.async false
set_option linter.all false
set_option maxRecDepth 100000
set_option Elab.async false
set_option linter.all false
set_option maxRecDepth 100000
namespace L2
open PySem PySem.Spec PyProof.Rows
end L2
namespace L2
open PySem PySem.Spec PyProof.Rows
section
variable (P:Program)(w:World)
end
section
variable {P:Program}{w:World}{H H':Hp}{h h':Heap}{a:Addr}{o:HO}
end
section
variable {P:Program}{w:World}{H:Hp}{h h':Heap}{x e:Addr}{o':HO}
end
section
variable {fs fs' ex ex':List Addr}{H H1 H2:Hp}{h h1 h2 h':Heap}{a x e:Addr}{o:HO}
end
end L2
namespace L2
open PySem PySem.Spec PyProof.Rows
section
variable {X:Cx}{pins:List (Addr×Obj)}{σ:List (Option V)}{H H':Hp}{s:Shared}{h':Heap}
end
end L2
namespace L2
open PySem PySem.Spec PyProof.Rows
section
variable {X:Cx}
variable {a b:Expr}{ta tb:TE}{pos:Pos}
variable {tA tB':TT}{rest:List Expr}
end
end L2
namespace L2
open PySem PySem.Spec PyProof.Rows
section
variable {X:Cx}{pins:List (Addr×Obj)}{σ:St}{H:Hp}{s:Shared}{a:Addr}{xs ys:List V}
end
section
variable {X:Cx}{pins:List (Addr×Obj)}{σ:St}{H:Hp}{s:Shared}{E:Value→Shared→Prop}
end
section
variable {X:Cx}{st:Stmt}{rest:List Stmt}{t u:TS}{e:Expr}{te:TE}{pos:Pos}
end
section
variable {X:Cx}{pos:Pos}
end
section
variable {X:Cx}{pos:Pos}
end
end L2
namespace L2
open PySem PySem.Spec PyProof.Rows
section
variable {X:Cx}{tg:Expr}
end
end L2
namespace L2
open PySem PySem.Spec PyProof.Rows
section
variable {X:Cx}{a b c:Expr}{ta tb tc:TE}{pos:Pos}
end
section
variable {X:Cx}{a b c:Expr}{ta tb tc:TE}{pos:Pos}
end
end L2
namespace L2
open PySem PySem.Spec PyProof.Rows
section
variable {prog:Program}{w:World}{A:Around}{E:Value→Shared→Prop}{s:Shared}{K:y02}{x dx C f:Addr}{mA:Str→Option Value}{name:Str}{v:Value}
end
section
variable {P:Program}{w:World}{H H':Hp}{h h':Heap}{a C dx:Addr}{fs fs':List (Str×V)}
end
section
variable {X:Cx}{pins:List (Addr×Obj)}{σ:St}{H:Hp}{s:Shared}{a C dx:Addr}{fs:List (Str×V)}{f:Str}{v:V}{A:Around}{E:Value→Shared→Prop}
end
section
variable {X:Cx}{o e value:Expr}{f:Str}{pos pos' tpos:Pos}{ta tv:TE}
end
section
variable {X:Cx}{pins:List (Addr×Obj)}{σ:St}{H:Hp}{s:Shared}{A:Around}{E:Value→Shared→Prop}{Q:Value→Shared→Prop}{c:Value}{b:Bool}
end
end L2
namespace L2
open PySem PySem.Spec PyProof.Rows
section
variable {X:Cx}{e:Expr}{es:List Expr}{te:TE}{t:TA}{pos:Pos}
end
section
variable {X:Cx}{pins:List (Addr×Obj)}{σ:St}{H:Hp}{s s':Shared}
end
section
variable {X:Cx}{CX:CXT}{k:Nat}{f C:Addr}{fd:FuncData}{ps:List Str}{sp:Sp}{dvs:List V}{ds:List Value}{E:XK}{x m:Str}{p pos apos:Pos}{e o:Expr}{es:List Expr}{ta:TE}{t:TA}
end
section
variable {X:Cx}{CX:CXT}{k:Nat}{f C:Addr}{fd:FuncData}{ps ks:List Str}{sp:Sp}{E:XK}{x m:Str}{p pos apos kpos:Pos}{e o:Expr}{es:List Expr}{kws:List Keyword}{te ta:TE}{t tk:TA}{nm:Option Str}
variable {g:List Value→List Value→List Value}{gV:List V→List V→List V}
end
end L2
namespace L2
open PySem PySem.Spec PyProof.Rows
section
variable {X:Cx}{x:Str}{p pos:Pos}{e:Expr}{es:List Expr}{t:TA}{id T:String}{r:List V→Hp→VK→Prop}
end
end L2
namespace L2
open PySem PySem.Spec PyProof.Rows
section
variable {κ:Type} [DecidableEq κ]
def zb5 (kvs:List (κ×V))(k:κ):Option V:=(kvs.find? fun kv=>decide (kv.1=k)).map (·.2)
def zfg (kvs:List (κ×V))(k:κ)(v:V):List (κ×V) :=
 if (kvs.any fun kv=>decide (kv.1=k))=true then kvs.map (fun kv=>if kv.1=k then (kv.1,v) else kv) else kvs ++ [(k,v)]
theorem zdh {p:κ×V}{r:List (κ×V)}{k:κ}(e:p.1=k):zb5 (p::r) k=some p.2:=by simp [zb5,y2w,e]
theorem zcl {p:κ×V}{r:List (κ×V)}{k:κ}(e:¬p.1=k):zb5 (p::r) k=zb5 r k:=by simp [zb5,y2w,e]
theorem RelO.isSome_eq {o:Option V}{u:Option Value}(r:RelO o u):o.isSome=u.isSome:=by
 cases o with
 | none=>cases u with
  | none=>rfl
  | some _=>exact(show False from r).elim
 | some _=>cases u with
  | none=>exact(show False from r).elim
  | some _=>rfl
theorem KV.val {kvs:List (κ×V)}{vs:List (κ×Value)}(r:KV kvs vs)(k:κ):RelO (zb5 kvs k) (valueAt vs k):=by
 unfold KV at r
 induction r with
 | nil=>exact True.intro
 | @cons p q ps qs h t ih =>
  obtain⟨h1,h2⟩:=h
  by_cases e:p.1=k
  ·have e':q.1=k:=h1.symm.trans e
   have b:valueAt (q::qs) k=some q.2:=by simp [valueAt,y2w,e']
   rw [zdh e,b]; exact h2
  ·have e':¬q.1=k:=fun z=>e (h1.trans z)
   have b:valueAt (q::qs) k=valueAt qs k:=by simp [valueAt,y2w,e']
   rw [zcl e,b]; exact ih
theorem KV.any {kvs:List (κ×V)}{vs:List (κ×Value)}(r:KV kvs vs)(k:κ):(kvs.any fun kv=>decide (kv.1=k))=vs.any fun kv=>decide (kv.1=k):=by
 unfold KV at r
 induction r with
 | nil=>rfl
 | cons h t ih=>rw [y7a,y7a,ih,h.1]
theorem KV.repl {kvs:List (κ×V)}{vs:List (κ×Value)}(r:KV kvs vs)(k:κ){y:V}{u:Value}(ry:RelV y u) :
  KV (kvs.map fun kv=>if kv.1=k then (kv.1,y) else kv) (vs.map fun kv=>if kv.1=k then (kv.1,u) else kv):=by
 unfold KV at r ⊢
 induction r with
 | nil=>exact .nil
 | @cons p q ps qs h t ih =>
  rw [y0m,y0m]
  refine .cons ?_ ih
  obtain⟨h1,h2⟩:=h
  by_cases e:p.1=k
  ·rw [if_pos e,if_pos (h1.symm.trans e)]; exact⟨h1,ry⟩
  ·rw [if_neg e,if_neg (fun z=>e (h1.trans z))]; exact⟨h1,h2⟩
theorem KV.put {kvs:List (κ×V)}{vs:List (κ×Value)}(r:KV kvs vs)(k:κ){y:V}{u:Value}(ry:RelV y u):KV (zfg kvs k y) (stored vs k u):=by
 unfold zfg stored
 rw [r.any k]
 by_cases e:(vs.any fun kv=>decide (kv.1=k))=true
 ·rw [if_pos e,if_pos e]; exact r.repl k ry
 ·rw [if_neg e,if_neg e]; exact Paired.snoc r ⟨rfl,ry⟩
theorem KV.length {kvs:List (κ×V)}{vs:List (κ×Value)}(r:KV kvs vs):kvs.length=vs.length:=Paired.length r
end
theorem zih {P:Program}{w:World}{k:Key}{u:Value}(r:RelV (kV k) u):(z32 P w).is k u=true:=by
 cases k with
 | inl i=>obtain⟨t,e⟩:=(show ∃t,u=Value.int i t from r); subst e; exact zby P w i t
 | inr x=>obtain⟨t,e⟩:=(show ∃t,u=Value.str x t from r); subst e; exact zc5 P w x t
theorem zb0 {P:Program}{w:World}:∀{ks:List Key} {us:List Value},Vals (ks.map kV) us→ItemsAre (z32 P w) ks us
 | [],_,r=>by rw [y35] at r; cases r; exact .nil
 | k::ks,_,r=>by
  rw [y0m] at r
  cases r with
  | cons h t=>exact .cons (zih h) (zb0 t)
abbrev KT (H:Hp):List (List Key×V)→List (List Key×Addr×Value)→Prop:=Paired fun p q=>p.1=q.1∧H q.2.1=some (.tup (p.1.map kV))∧RelV p.2 q.2.2
theorem KT.val {H:Hp}{kvs:List (List Key×V)}{xs:List (List Key×Addr×Value)}(r:KT H kvs xs)(k:List Key):RelO (zb5 kvs k) ((atKey xs k).map (·.2)):=by
 induction r with
 | nil=>exact True.intro
 | @cons p q ps qs h t ih =>
  obtain⟨h1,_,h2⟩:=h
  by_cases e:p.1=k
  ·have e':q.1=k:=h1.symm.trans e
   have b:atKey (q::qs) k=some q.2:=by simp [atKey,y2w,e']
   rw [zdh e,b]; exact h2
  ·have e':¬q.1=k:=fun z=>e (h1.trans z)
   have b:atKey (q::qs) k=atKey qs k:=by simp [atKey,y2w,e']
   rw [zcl e,b]; exact ih
section
variable {P:Program}{w:World}{H:Hp}{h:Heap}{a:Addr}
theorem zmr {u:HO}(ok:HOk P w H h)(e:Rd H a u):ObjOk P w H h a u:=e.ok ok
theorem zkz {kvs:List (Key×V)}(ok:HOk P w H h)(e:Rd H a (.dK kvs)):kvs.length≤sizeLine∧(a==sysModules)=false∧∃vs,KV kvs vs∧h.DictOf (z32 P w) a vs :=
 show ObjOk P w H h a (.dK kvs) from zmr ok e
theorem zfw {ks:List Key}(ok:HOk P w H h)(e:H a=some (.tup (ks.map kV))):(tupleKind (z32 P w)).is h ks a:=by
 obtain⟨_,its,r,o,h1,h2,n,h3⟩:=(show ObjOk P w H h a (.tup (ks.map kV)) from ok a _ e)
 exact⟨o,its.toArray,n,h1,h2,h3,by simpa using zb0 r⟩
theorem zl0 {kvs:List (List Key×V)}(ok:HOk P w H h)(e:Rd H a (.dT kvs)):kvs.length≤sizeLine∧(a==sysModules)=false ∧
  ∃xs,KT H kvs xs∧h.DictOfH (tupleKind (z32 P w)) a xs:=by
 obtain⟨z,y,xs,r,o,es,ep,h1,h2,h3,h4,h5⟩:=(show ObjOk P w H h a (.dT kvs) from zmr ok e)
 refine⟨z,y,xs,r,o,es,ep,h1,h2,h3,h4,fun x hx=>?_,h5⟩
 have all:∀{l:List (List Key×V)} {m:List (List Key×Addr×Value)},KT H l m→∀x∈m,(tupleKind (z32 P w)).is h x.1 x.2.1:=by
  intro l m q
  induction q with
  | nil=>intro x hx; exact nomatch hx
  | @cons p q ps qs hq t ih =>
   intro x hx
   rcases y0k.mp hx with e | hx
   ·subst e
    exact zfw ok (by rw [←hq.1]; exact hq.2.1)
   ·exact ih x hx
 exact all r x hx
end
def DGet (H:Hp)(a:Addr)(y:V)(r:Option V):Prop :=
 (∃kvs k,Rd H a (.dK kvs)∧y=kV k∧r=zb5 kvs k)∨∃kvs k b,Rd H a (.dT kvs)∧y = .ref b∧H b=some (.tup (k.map kV))∧r=zb5 kvs k
theorem DGet.k {H:Hp}{a:Addr}{kvs:List (Key×V)}{k:Key}(e:H a=some (.dK kvs)):DGet H a (kV k) (zb5 kvs k):=.inl ⟨kvs,k,.inl e,rfl,rfl⟩
section
variable {X:Cx}{pins:List (Addr×Obj)}{σ:St}{H:Hp}{s:Shared}{a:Addr}{y v:V}{u r:Value}{o:Option V}{A:Around}{E:Value→Shared→Prop}
theorem Inv.big (I:Inv X pins σ H s):sysModules<s.heap.objs.size:=by
 have h:mainGlobals<s.heap.objs.size:=(I.mod.glob.keeps I.bk).lt
 exact y5q (by decide) h
theorem zgl {Q:Value→Shared→Prop}(hu:A.units+1<cLine)(I:Inv X pins σ H s)(g:DGet H a y (some v))(ry:RelV y u)(h:∀w' s',Inv X pins σ H s'→RelV v w'→Q w' s') :
  wpAny (model X.prog X.w) A (getItem (.ref a) u) Q E s:=by
 rcases g with ⟨kvs,k,e,ey,l⟩ | ⟨kvs,k,b,e,ey,eb,l⟩
 ·subst ey
  obtain⟨z,hd,vs,rel,dd⟩:=zkz I.hok e
  obtain⟨w',hw,rw'⟩:=RelO.some_of (v:=v) (o:=valueAt vs k) (by rw [l]; exact rel.val k)
  exact wpAny_getItem_of (zih ry) dd.mapOf hw (h w' _ (I.tok _) rw')
 ·subst ey
  cases (show u=Value.ref b from ry)
  obtain⟨z,hd,xs,rel,dd⟩:=zl0 I.hok e
  obtain⟨w',hw,rw'⟩:=RelO.some_of (v:=v) (o:=(atKey xs k).map (·.2)) (by rw [l]; exact rel.val k)
  obtain⟨p,hp,hp2⟩:=y5g.mp hw
  refine wpAny_getItem_heap (tupleKind_room_in1 hu) (zfw I.hok eb) dd hp ?_
  rw [hp2]
  exact h w' _ (I.tok _) rw'
theorem zpz {Q:Value→Shared→Prop}(hu:A.units+1<cLine)(I:Inv X pins σ H s)(g:DGet H a y o)(ry:RelV y u)(h:∀s',Inv X pins σ H s'→Q (.bool o.isSome) s') :
  wpAny (model X.prog X.w) A (compareOp .In u (.ref a)) Q E s:=by
 rcases g with ⟨kvs,k,e,ey,l⟩ | ⟨kvs,k,b,e,ey,eb,l⟩
 ·subst ey
  obtain⟨z,hd,vs,rel,dd⟩:=zkz I.hok e
  refine wpAny_in_of (zih ry) hd dd.mapOf ?_
  rw [←(rel.val k).isSome_eq,←l]
  exact h _ (I.tok _)
 ·subst ey
  cases (show u=Value.ref b from ry)
  obtain⟨z,hd,xs,rel,dd⟩:=zl0 I.hok e
  refine wpAny_in_heap (tupleKind_room_in1 hu) (zfw I.hok eb) hd dd ?_
  have q:=(rel.val k).isSome_eq
  rw [Option.isSome_map] at q
  rw [←q,←l]
  exact h _ (I.tok _)
end
section
variable {X:Cx}{pins:List (Addr×Obj)}{σ:St}{H:Hp}{s:Shared}{a:Addr}{kvs:List (Key×V)}{k:Key}{u:Value}{A:Around}{E:Value→Shared→Prop}
end
def zox (i:Expr):Prop:=∀ov iv,subscripted i false ov iv=operate [ov,iv] (getItem ov iv)
theorem zly {prog:Program}{w:World}{A:Around}{E:Value→Shared→Prop}{s:Shared}{env:Env}{value slice:Expr}{pos:Pos}{T id:String}{Q:Value→Shared→Prop}
  (hl:typeLookup (.type T) "__getitem__"=pure (some (.builtin id))) (hs:zox slice)
  (h:wpAny (model prog w) A (eval value env) (fun o s₁=>wpAny (model prog w) A (eval slice env) (fun i s₂=>s₂.TypeIs o T∧wpAny (model prog w) A (getItem o i) Q E s₂) E s₁) E s) :
  wpAny (model prog w) A (eval (.Subscript value slice pos) env) Q E s:=by
 refine Subscript_ (wpAny_mono h (fun o s₁ h₁=>wpAny_mono h₁ (fun i s₂ h₂=>?_) fun _ _ x=>x) fun _ _ x=>x)
 obtain⟨hT,h₂⟩:=h₂
 unfold subscriptTail
 refine wpAny_bind ?_
 rw [getitemInPython_of_ne hT.not_modules]
 refine wpAny_bind (wpAny_specialOf hT hl ?_)
 have fin:wpAny (model prog w) A (subscripted slice false o i) (fun r s₃=>wpAny (model prog w) A (letTemporaryGo value o r >>= fun _=>pure r) Q E s₃) E s₂:=by
  rw [hs o i]
  exact wpAny_operating (wpAny_mono h₂ (fun r s₃ h₃=>wpAny_bind (wpAny_letTemporaryGo (wpAny_pure h₃))) fun _ _ x=>x)
 first
  | exact wpAny_pure (wpAny_bind fin)
  | exact wpAny_bind (wpAny_pure (wpAny_bind fin))
  | exact wpAny_bind fin
theorem zc1 {X:Cx}{pins:List (Addr×Obj)}{σ:St}{H:Hp}{s:Shared}{a:Addr}{y:V}{o:Option V}(I:Inv X pins σ H s)(g:DGet H a y o):s.TypeIs (.ref a) "dict":=by
 rcases g with ⟨kvs,k,e,_,_⟩ | ⟨kvs,k,b,e,_,_,_⟩
 ·obtain⟨_,_,vs,_,dd⟩:=zkz I.hok e
  exact dd.typeIs
 ·obtain⟨_,_,xs,_,dd⟩:=zl0 I.hok e
  exact dd.typeIs
def zoh (td ty:TE):TE:=fun σ H Q=>td σ H fun x H1=>ty σ H1 fun y H2=>∃a v,x = .ref a∧DGet H2 a y (some v)∧Q v H2
section
variable {X:Cx}{o i e value:Expr}{pos pos' tpos:Pos}{td ty tv:TE}
theorem zlv (hu:X.A.units+1<cLine)(ho:PE X o td)(hi:PE X i ty)(hs:zox i):PE X (.Subscript o i pos) (zoh td ty):=by
 intro pins s σ H Q I h
 refine zly PySem.F.slot_dict_getitem.lookup hs (thn (ho pins s σ H _ I h) fun u s1 ⟨x,H1,I1,rx,q1⟩=>thn (hi pins s1 σ H1 _ I1 q1) fun iv s2 ⟨y,H2,I2,ry,a,v,ex,g,q2⟩=>?_)
 subst ex
 obtain rfl:u=Value.ref a:=rx
 exact⟨zc1 I2 g,zgl hu I2 g ry fun w' s3 I3 rw'=>⟨v,H2,I3,rw',q2⟩⟩
end
section
variable {X:Cx}{pos:Pos}
end
structure M1 (X:Cx)(o:Expr)(m:Str)(apos:Pos)(e:Expr)(cpos:Pos):Prop where
 base:attributeBase o m X.env (eval o X.env)=eval o X.env
 few:((backTo cpos (starEach [e] X.env)).all (fun x=>!x.1)&&(backToKw cpos (keywordEach [] X.env)).all (fun x=>x.1.isSome)
 &&decide (([e]:List Expr).length+([]:List Keyword).length+(if ([]:List Keyword).isEmpty then 0 else 1)<30))=true
 line:(apos.endLine==cpos.line)=true
 trees:backTo cpos (starEach [e] X.env) = [(false,eval e X.env)]
structure M2 (X:Cx)(o:Expr)(m:Str)(apos:Pos)(e f:Expr)(cpos:Pos):Prop where
 base:attributeBase o m X.env (eval o X.env)=eval o X.env
 few:((backTo cpos (starEach [e,f] X.env)).all (fun x=>!x.1)&&(backToKw cpos (keywordEach [] X.env)).all (fun x=>x.1.isSome)
 &&decide (([e,f]:List Expr).length+([]:List Keyword).length+(if ([]:List Keyword).isEmpty then 0 else 1)<30))=true
 line:(apos.endLine==cpos.line)=true
 trees:backTo cpos (starEach [e,f] X.env) = [(false,eval e X.env),(false,eval f X.env)]
section
variable {X:Cx}{pins:List (Addr×Obj)}{σ:St}{H:Hp}{s:Shared}{a:Addr}{y d:V}{u r:Value}{o:Option V}{A:Around}{E:Value→Shared→Prop}
end
section
variable {X:Cx}{o e f:Expr}{apos cpos:Pos}{td ty tx:TE}
end
section
variable {X:Cx}{pins:List (Addr×Obj)}{σ:St}{H:Hp}{s:Shared}{a:Addr}{kvs:List (Key×V)}{A:Around}{E:Value→Shared→Prop}
end
section
variable {X:Cx}{pins:List (Addr×Obj)}{σ:St}{H:Hp}{s:Shared}{a:Addr}{y:V}{u:Value}{A:Around}{E:Value→Shared→Prop}
end
end L2
namespace Att
open PySem PySem.W PySem.Calls PyProof.Rows
section
variable {prog:Program}{w:World}{A:Around}{E:Value→Shared→Prop}{s:Shared}{K:Frag}
end
end Att
namespace L2
open PySem PySem.Spec PyProof.Rows
end L2
namespace L2
open PySem PySem.Spec PyProof.Rows
end L2
namespace L2
open PySem PySem.Spec PyProof.Rows
section
variable {P:Program}{w:World}{K:y02}{mg:Str→Option Value}{base:Heap}
end
section
variable {X:Cx}
end
section
variable {κ:Type} [DecidableEq κ]
end
end L2
set_option Elab.async false
set_option linter.all false
set_option maxRecDepth 100000
namespace PySem
theorem z6c:typeLookup (.type "list") "keys"=pure none:=by rw [typeLookup_type,builtinLookup_eq_fast]; kernel_rfl
theorem z9r:entryFor table "dict.update.loop"=some Builtin.«dict.update.loop»:=entryFor_of_tree (by kernel_rfl)
theorem z5s:plainId "dict.update.loop"=true:=by decide +kernel
section
variable {prog:Program}{w:World}{A:Around}{E:Value→Shared→Prop}{s:Shared}
theorem getAttr?_keys_list {a:Addr}{xs:Array Value}{k:Nat}{Q:Option Value→Shared→Prop}(hx:s.heap.get? a=some { cls:=.type "list",data:=.seq xs k })(hA:A.handled=none)
  (h:∀h' tk,(∀b ob,s.heap.get? b=some ob→h'.get? b=some ob)→Q none { s with heap:=h',toks:=tk }) :
  wpAny (model prog w) A (getAttr? (.ref a) "keys") Q E s:=by
 obtain⟨hp,g,d,tk,os⟩:=s
 have hT:∀tk',(⟨hp,g,d,tk',os⟩:Shared).TypeIs (.ref a) "list":=fun _=>⟨_,hx,rfl⟩
 have f1:=sub_AttributeError
 have f3:=F.slot_list_getattribute.lookup
 have f4:=F.slot_list_getattribute.bind (.ref a)
 have f5:=am_list_getattr_none
 unfold getAttr? getAttrBy? getAttrBy
 repeat (any_goals (first | assumption | exact hT _ | ((with_reducible show wpAny _ _ (call (Value.builtin "list.__getattribute__") _ _) _ _ _); refine call_meets F.slot_list_getattribute (hT _) am_entry_list_getattribute (F.args_list_getattribute_2 _ _) (meets_getattribute_miss_list a xs k _ "keys" _ z6c (by decide +kernel) (by decide +kernel)) ⟨hx,hA,fun h' tk' e hx'=>?_⟩) | wp_step))
 obtain⟨t',u',he⟩:=hx'.there
 show wpAny _ _ (getattributeRaised _ _ _ _ _ _ _) _ _ _
 unfold getattributeRaised
 repeat (any_goals (first | assumption | wp_step))
 exact h h' tk' hx'.keeps
end
section
variable {prog:Program}{w:World}{K:Type} [DecidableEq K] {knd:KeyKind prog w K}
def z9c (knd:KeyKind prog w K)(h:Heap)(items:Array Value)(ps:List (K×Value)):Prop :=
 items.size=ps.length∧∀(j:Nat) p,ps[j]?=some p→∃t key,items[j]?=some (.ref t)∧h.IsTuple t #[key,p.2]∧knd.is p.1 key=true
def z8k (kvs:List (K×Value))(ps:List (K×Value)):List (K×Value):=ps.foldl (fun acc p=>stored acc p.1 p.2) kvs
theorem zdy (kvs:List (K×Value))(k:K)(v:Value):(stored kvs k v).length≤kvs.length+1:=by
 unfold stored
 split<;>simp
theorem zio (d it l:Addr)(items:Array Value)(ps:List (K×Value))(hdi:d≠it)(hdl:d≠l)(hil:it≠l)(n:Nat) :
  ∀(i:Nat) (kvs:List (K×Value)),items.size - i=n→i≤items.size→kvs.length+items.size≤sizeLine+i→∀(A:Around) (R:Result→Shared→Prop) (s:Shared),A.handled=none→s.heap.IsListIter it l i→s.heap.IsList l items→s.heap.DictOf knd d kvs→z9c knd s.heap items ps →
   (∀(j:Nat) t,items[j]?=some (.ref t)→t≠d∧t≠it) →
   (∀h' tk,h'.DictOf knd d (z8k kvs (ps.drop i))→(∀b o,b≠d→b≠it→s.heap.get? b=some o→h'.get? b=some o)→R (.ok (.ret .none)) { s with heap:=h',toks:=tk }) →
   wpAny (model prog w) A.in1 (Builtin.«dict.update.loop» ⟨[.ref d,.ref it,rawInt i,.none],[]⟩)
    (fun fin s'=>match fin with
     | .done f=>R (.ok f) s'
     | .again c'=>c'.quiet=true∧codeAny (model prog w) A c' R s') (fun e s'=>R (.error e) s') s:=by
 induction n with
 | zero =>
  intro i kvs hn hi hz A R s hA hit hl hd hp ht hq
  unfold Builtin.«dict.update.loop»
  have e:i=items.size:=by omega
  subst e
  refine wpAny_bind (wpAny_pyNext_list_end (show A.in1.handled=none from hA) hit hl (by simp) fun h' eb=>?_)
  refine wpAny_bind (m:=Builtin.Dict.addKeywords d []) (wpAny_of_eq (a:=()) (by first | rfl | (unfold Builtin.Dict.addKeywords; rfl)) ?_)
  refine wpAny_pure ?_
  have e1:ps.drop items.size = []:=y3x (by rw [hp.1]; exact y07 _)
  rw [e1] at hq
  have hd':h'.DictOf knd d kvs:=by
   obtain⟨o,es,ep,ho,r⟩:=hd
   exact⟨o,es,ep,eb d o hdi ho,r⟩
  exact hq h' s.toks hd' fun b o _ hb ho=>eb b o hb ho
 | succ n ih =>
  intro i kvs hn hi hz A R s hA hit hl hd hp ht hq
  unfold Builtin.«dict.update.loop»
  have hlt:i<items.size:=by omega
  have hpi:ps[i]?=some (ps[i]'(by rw [←hp.1]; exact hlt)):=y01 _
  generalize ps[i]'(by rw [←hp.1]; exact hlt)=p at hpi
  obtain⟨t,key,h1,h2,h3⟩:=hp.2 i p hpi
  refine wpAny_bind (wpAny_pyNext_list_item hit hl h1 fun h' hit' sb=>?_)
  have tne:=ht i t h1
  have keep:∀b o,b≠it→s.heap.get? b=some o→h'.get? b=some o:=fun b o hb ho=>(sb.2 b hb).trans ho
  obtain⟨ot,hot,hct,nt,hdt⟩:=h2
  have hot':h'.get? t=some ot:=keep t ot tne.2 hot
  refine wpAny_bind (wpAny_holding ?_)
  refine wpAny_bind (wpAny_tryCatch ?_)
  unfold Builtin.Dict.pairItems
  refine wpAny_bind (wpAny_typeOf (T:="tuple") ⟨_,hot',hct⟩ ?_)
  rw [if_pos (by decide)]
  refine wpAny_bind (wpAny_seqItems hot' hdt ?_)
  refine wpAny_pure ?_
  show wpAny _ _ (holding [key,p.2] (dictSet d key p.2)) _ _ _
  have hd1:h'.DictOf knd d kvs:=by
   obtain⟨o,es,ep,ho,r⟩:=hd
   exact⟨o,es,ep,keep d o hdi ho,r⟩
  refine wpAny_holding (wpAny_dictSet_pairs h3 hd1 (fun h2 hd2 sb2=>?_) (by omega))
  have keep2:∀b o,b≠d→b≠it→s.heap.get? b=some o→h2.get? b=some o:=fun b o hb hb2 ho=>(sb2.2 b hb).trans (keep b o hb2 ho)
  have hit2:h2.IsListIter it l (i+1):=hit'.at fun o ho=>(sb2.2 it (Ne.symm hdi)).trans ho
  have hl2:h2.IsList l items:=hl.at fun o ho=>keep2 l o (Ne.symm hdl) (Ne.symm hil) ho
  have hp2:z9c knd h2 items ps:=⟨hp.1,fun j q hj=>by
   obtain⟨t',k',g1,g2,g3⟩:=hp.2 j q hj
   have:=ht j t' g1
   exact⟨t',k',g1,g2.at fun o ho=>keep2 t' o this.1 this.2 ho,g3⟩⟩
  have hlen:=zdy kvs p.1 p.2
  refine wpAny_pure ⟨plainId_quiet z5s _,codeAny_builtin z9r ?_⟩
  rw [Around.under_plainId z5s _]
  have hc:((i:Int)+1)=((i+1:Nat):Int):=by push_cast; rfl
  rw [hc]
  refine ih (i+1) (stored kvs p.1 p.2) (by omega) (by omega) (by omega) A R _ hA hit2 hl2 hd2 hp2 ht fun h3 tk hd3 k3=>?_
  ·have e:z8k kvs (ps.drop i)=z8k (stored kvs p.1 p.2) (ps.drop (i+1)):=by
    obtain⟨g1,g2⟩:=y00.mp hpi
    rw [List.drop_eq_getElem_cons g1,g2]
    rfl
   rw [e] at hq
   exact hq h3 tk hd3 fun b o hb hb2 ho=>k3 b o hb hb2 (keep2 b o hb hb2 ho)
theorem z7o {A:Around}{E:Value→Shared→Prop}{s:Shared}{l:Addr}{items:Array Value}{n:Nat}{ps:List (K×Value)}{Q:Value→Shared→Prop}(hA:A.handled=none)(hl:s.heap.get? l=some { cls:=.type "list",data:=.seq items n })(hp:z9c knd s.heap items ps)(hz:items.size≤sizeLine)
  (h:∀h' tk,h'.DictOf knd s.heap.objs.size (z8k [] ps)→(∀b o,s.heap.get? b=some o→h'.get? b=some o)→Q (.ref s.heap.objs.size) { s with heap:=h',toks:=tk }) :
  wpAny (model prog w) A (call (.type "dict") [.ref l]) Q E s:=by
 refine callType_codes (Q₁:=fun obj s₁=>obj = .ref s.heap.objs.size∧s₁ = { s with heap:=s.heap.push { cls:=.type "dict",data:=.dict #[] } }) F.kt_called_dict (F.kt_typeCall_dict_1 _) F.entry_dict_init (kt_code_dict_new _ ⟨rfl,rfl⟩) ?_
 rintro obj s₁ ⟨rfl,rfl⟩
 have hnew:(s.heap.push { cls:=.type "dict",data:=.dict #[] }).DictOf knd s.heap.objs.size []:=Heap.DictOf.new s.heap
 refine⟨hnew.typeIs,F.args_dict_init_2 _ _,?_⟩
 unfold Builtin.«dict.__init__»
 refine wpAny_bind ?_
 unfold Builtin.Dict.selfAndRest
 refine wpAny_bind (wpAny_notOrdered_dict hnew.typeIs ?_)
 show wpAny _ _ (pure (s.heap.objs.size,[Value.ref l])) _ _ _
 refine wpAny_pure ?_
 show wpAny _ _ (Builtin.Dict.updateFrom "dict.__init__" s.heap.objs.size (.ref l) [] .none) _ _ _
 unfold Builtin.Dict.updateFrom
 have hl1:(s.heap.push { cls:=.type "dict",data:=.dict #[] }).get? l=some { cls:=.type "list",data:=.seq items n }:=Heap.get?_push_of_some _ hl
 refine wpAny_bind (wpAny_typeOf (T:="list") ⟨_,hl1,rfl⟩ ?_)
 rw [if_pos (by decide)]
 refine wpAny_bind (getAttr?_keys_list hl1 (by first | exact hA | (show _=none; exact hA)) fun h2 tk2 k2=>?_)
 rw [if_pos (show(none:Option Value).isNone=true from rfl)]
 refine wpAny_bind (wpAny_rule ?_)
 have hl2:h2.get? l=some { cls:=.type "list",data:=.seq items n }:=k2 _ _ hl1
 have isl2:h2.IsList l items:=⟨_,hl2,rfl,n,rfl⟩
 refine wpAny_bind (wpAny_pyIter_list isl2 ?_)
 refine wpAny_pure ⟨plainId_quiet z5s _,codeAny_builtin z9r ?_⟩
 rw [Around.under_plainId z5s _]
 have hsz:s.heap.objs.size<h2.objs.size:=by
  obtain⟨o,es,ep,ho,r⟩:=hnew
  exact Heap.lt_size (k2 _ _ ho)
 have hd2:(h2.push { cls:=.type "list_iterator",data:=.fields #[.ref l,.int 0 0] }).DictOf knd s.heap.objs.size []:=by
  obtain⟨o,es,ep,ho,r⟩:=hnew
  exact⟨o,es,ep,Heap.get?_push_of_some _ (k2 _ _ ho),r⟩
 have old:∀b o,s.heap.get? b=some o→(h2.push { cls:=.type "list_iterator",data:=.fields #[.ref l,.int 0 0] }).get? b=some o:=fun b o ho=>Heap.get?_push_of_some _ (k2 _ _ (Heap.get?_push_of_some _ ho))
 have low:∀b o,s.heap.get? b=some o→b<s.heap.objs.size:=fun b o ho=>Heap.lt_size ho
 have llt:=low _ _ hl
 refine zio s.heap.objs.size h2.objs.size l items ps (y0x hsz) (y39 llt) (y39 (y5q llt hsz)) _ 0 [] rfl (y2j _) (by simpa using hz) A.in1 _ _ hA ⟨_,Heap.get?_push_size _ rfl,rfl,rfl⟩ (isl2.at fun o ho=>Heap.get?_push_of_some _ ho) hd2 ⟨hp.1,fun j p hj=>?_⟩ (fun j t hj=>?_) fun h3 tk hd3 k3=>?_
 ·obtain⟨t,key,g1,g2,g3⟩:=hp.2 j p hj
  exact⟨t,key,g1,g2.at fun o ho=>old t o ho,g3⟩
 ·have hjs:j<items.size:=(Array.getElem?_eq_some_iff.mp hj).1
  obtain⟨t',key,g1,g2,g3⟩:=hp.2 j _ (y01 (show j<ps.length by rw [←hp.1]; exact hjs))
  rw [hj] at g1
  cases g1
  obtain⟨o,ho,_⟩:=g2
  have:=low _ _ ho
  exact⟨y0x this,y0x (y5q this hsz)⟩
 ·refine⟨rfl,h h3 tk hd3 fun b o ho=>k3 b o (y0x (low _ _ ho)) (y0x (y5q (low _ _ ho) hsz)) (old b o ho)⟩
end
end PySem
set_option Elab.async false
set_option linter.all false
set_option maxRecDepth 100000
namespace L2.EX
open PySem PySem.Spec PyProof.Rows
section
variable {X:Cx}{pins:List (Addr×Obj)}{σ:St}{H:Hp}{s:Shared}
def z3h (kvs:List (Key×V))(ps:List (Key×V)):List (Key×V):=ps.foldl (fun acc p=>zfg acc p.1 p.2) kvs
theorem z7j:∀{ps:List (Key×V)} {qs:List (Key×Value)} {kvs:List (Key×V)} {vs:List (Key×Value)},KV ps qs→KV kvs vs→KV (z3h kvs ps) (z8k vs qs)
 | [],qs,kvs,vs,h,r=>by
  cases h
  exact r
 | p::ps,qs,kvs,vs,h,r=>by
  cases h with
  | cons h1 h2 =>
   rename_i q qs
   show KV (z3h (zfg kvs p.1 p.2) ps) (z8k (stored vs q.1 q.2) qs)
   rw [←h1.1]
   exact z7j h2 (r.put p.1 h1.2)
theorem zi2 (kvs:List (Key×V))(k:Key)(v:V):(zfg kvs k v).length≤kvs.length+1:=by
 unfold zfg
 split<;>simp
theorem z7d:∀(ps kvs:List (Key×V)),(z3h kvs ps).length≤kvs.length+ps.length
 | [],kvs=>by simp [z3h]
 | p::ps,kvs=>by
  have a:=z7d ps (zfg kvs p.1 p.2)
  have b:=zi2 kvs p.1 p.2
  show(z3h (zfg kvs p.1 p.2) ps).length≤_
  simp
  omega
theorem zd4 (I:Inv X pins σ H s):∀{ps:List (Key×V)} {ts:List Addr},ts.length=ps.length→(∀(j:Nat) t p,ts[j]?=some t→ps[j]?=some p→H t=some (.tup [kV p.1,p.2])) →
  ∃qs:List (Key×Value),KV ps qs∧∀(j:Nat) q,qs[j]?=some q→∃t key,ts[j]?=some t∧s.heap.IsTuple t #[key,q.2]∧zba q.1 key=true
 | [],ts,_,_=>⟨[],.nil,fun j q hj=>by simp at hj⟩
 | p::ps,[],h,_=>by simp at h
 | p::ps,t::ts,hl,h=>by
  obtain⟨qs,r,f⟩:=zd4 I (ps:=ps) (ts:=ts) (by simpa using hl) fun j t' p' h1 h2=>h (j+1) t' p' (by simpa using h1) (by simpa using h2)
  have h0:=h 0 t p rfl rfl
  obtain⟨its,rv,pt,_⟩:=I.tuple (SqT.of h0)
  obtain⟨u1,u2,rfl,r1,r2⟩:=rv.two
  refine⟨(p.1,u2)::qs,.cons ⟨rfl,r2⟩ r,fun j q hj=>?_⟩
  cases j with
  | zero =>
   simp at hj
   subst hj
   exact⟨t,u1,rfl,pt,zih (P:=X.prog) (w:=X.w) r1⟩
  | succ j =>
   obtain⟨t',key,g1,g2,g3⟩:=f j q (by simpa using hj)
   exact⟨t',key,by simpa using g1,g2,g3⟩
@[reducible] def zmw (xs:List V)(H:Hp)(Q:VK):Prop:=match xs with
 | [.ref l]=>∃(ts:List Addr) (ps:List (Key×V)),H l=some (.lst (ts.map V.ref))∧ts.length=ps.length∧(∀(j:Nat) t p,ts[j]?=some t→ps[j]?=some p→H t=some (.tup [kV p.1,p.2]))∧∀d,H d=none→Q (.ref d) (upd H d (.dK (z3h [] ps)))
 | _=>False
theorem zll (hc:X.calm=true:=by rfl):z43 X (.type "dict") zmw:=by
 intro pins s σ H xs us Q I r h
 unfold zmw at h
 split at h
 ·rename_i l
  obtain⟨ts,ps,hl,hlen,ht,q⟩:=h
  obtain⟨u,rfl,rx⟩:=z7r r
  cases rx
  obtain⟨z,its,n,rv,hll,e⟩:=I.lstM hl
  obtain⟨qs,rk,f⟩:=zd4 I hlen ht
  have hkl:=rk.length
  rw [y04] at hll z
  have hp:z9c (z32 X.prog X.w) s.heap its.toArray qs:=⟨by rw [y0q]; omega,fun j p hj=>by
   obtain⟨t,key,g1,g2,g3⟩:=f j p hj
   obtain⟨u,hu,ru⟩:=rv.get (i:=j) (x:=.ref t) (by rw [y0b,g1]; rfl)
   cases ru
   exact⟨t,key,by simpa using hu,g2,g3⟩⟩
  refine z7o (knd:=z32 X.prog X.w) (I.ok.hd hc) e hp (by rw [y0q]; omega) fun h' tk hd kp=>?_
  have hlen2:=z7d ps []
  simp at hlen2
  refine⟨.ref s.heap.objs.size,_,I.laid kp (y07 _) (show ObjOk X.prog X.w _ h' _ (.dK (z3h [] ps)) from ⟨by omega,?_,_,z7j rk .nil,hd⟩),rfl,q _ (I.hok.fresh (y07 _))⟩
  exact beq_eq_false_iff_ne.mpr (y39 I.big)
 ·exact h.elim
@[reducible] def zpr (x y:V)(H:Hp)(Q:VK):Prop:=match x,y with
 | .int n,.ref d=>∃kvs,H d=some (.dK kvs)∧Q (.bl (zb5 kvs (.inl n)).isSome) H
 | .str n,.ref d=>∃kvs,H d=some (.dK kvs)∧Q (.bl (zb5 kvs (.inr n)).isSome) H
 | _,_=>False
theorem hu1 {k:Nat}{A:Around}(hr:Room k A):A.units+1<cLine:=by have:=zo2 hr; omega
theorem zm6 {k:Nat}(hr:Room k X.A):OpR X (compareOp .In) zpr:=by
 intro pins s σ H x y v u Q I rx ry h
 unfold zpr at h
 split at h
 ·rename_i n d
  obtain⟨kvs,hd,q⟩:=h
  cases ry
  exact zpz (hu1 hr) I (DGet.k (k:=.inl n) hd) rx fun s3 I3=>⟨.bl _,H,I3,rfl,q⟩
 ·rename_i n d
  obtain⟨kvs,hd,q⟩:=h
  cases ry
  exact zpz (hu1 hr) I (DGet.k (k:=.inr n) hd) rx fun s3 I3=>⟨.bl _,H,I3,rfl,q⟩
 ·exact h.elim
@[reducible] def zmz (x y:V)(H:Hp)(Q:VK):Prop:=match x,y with
 | .ref d,.int n=>∃kvs v,H d=some (.dK kvs)∧zb5 kvs (.inl n)=some v∧Q v H
 | .ref d,.str n=>∃kvs v,H d=some (.dK kvs)∧zb5 kvs (.inr n)=some v∧Q v H
 | _,_=>False
theorem zlg {k:Nat}(hr:Room k X.A){o i:Expr}{td ty:TE}{pos:Pos}(ho:PE X o td)(hi:PE X i ty)(hs:zox i):PE X (.Subscript o i pos) (tOp zmz td ty) :=
 z5e (zlv (hu1 hr) (z2d ho) (z2d hi) hs) fun σ H Q h=>⟨_,h,fun x H1 q1=>⟨_,q1,fun y H2 q2=>by
  unfold zmz at q2
  split at q2
  ·obtain⟨kvs,v,h1,h2,h3⟩:=q2
   exact⟨_,v,rfl,by rw [←h2]; exact DGet.k (k:=.inl _) h1,h3⟩
  ·obtain⟨kvs,v,h1,h2,h3⟩:=q2
   exact⟨_,v,rfl,by rw [←h2]; exact DGet.k (k:=.inr _) h1,h3⟩
  ·exact q2.elim⟩⟩
end
end L2.EX
set_option Elab.async false
set_option linter.all false
set_option maxRecDepth 100000
namespace L2.EX
open PySem PySem.Spec PyProof.Rows
section
variable {X:Cx}{e:Expr}{te:TE}{p p2 pos pos2:Pos}
def zc9 (te:TE)(σ:St)(H:Hp)(Q:VK):Prop:=te σ H fun x H1=>match x with
 | .int j=>(0≤j∧j≤1000)∧∀l,H1 l=none→Q (.ref l) (upd H1 l (.lst ((y0c j.toNat).map fun (i:Nat)=>V.int (i:Int))))
 | _=>False
theorem zb8 {j:Int}(h0:0≤j)(h1:j≤1000):Builtin.Range.small 0 j 1=true:=zhx (by decide) (by decide) (by omega) (by omega) (by decide) (by decide)
theorem zbc {j:Int}(h0:0≤j):Builtin.Range.rangeSize 0 j 1=(j.toNat:Int):=by
 unfold Builtin.Range.rangeSize
 rw [if_pos (by decide)]
 split
 ·have:(j - 0 - 1) / 1=j - 1:=by rw [Int.ediv_one]; omega
  omega
 ·omega
theorem z9s (hl:X.mg "list"=none)(hm:X.mg "range"=none)(he:PE X e te)(hg:Gl X "list":=by rfl)(hg2:Gl X "range":=by rfl)
  (hs:starEach [Expr.Call (.Name "range" p2) [e] [] pos2] X.env = [(false,eval (Expr.Call (.Name "range" p2) [e] [] pos2) X.env)]:=by rfl) (hs2:starEach [e] X.env = [(false,eval e X.env)]:=by rfl) (hc:X.calm=true:=by rfl) :
  PE X (.Call (.Name "list" p) [.Call (.Name "range" p2) [e] [] pos2] [] pos) (zc9 te):=by
 intro pins s σ H Q I h
 refine wpAny_Call_Name_kw (z6m I hg hl z7b ?_)
 refine y20 ?_ hs rfl
 rw [hs]
 show wpAny _ _ (spliced [(false,eval (Expr.Call (.Name "range" p2) [e] [] pos2) X.env)]) _ _ s
 refine Calls.spliced_cons ?_
 refine wpAny_Call_Name_kw (z6m I hg2 hm boot_range (y20 (thn ((z00 (z2d he) z03 hs2) pos2 pins s σ H (fun vs H1=>∃x,vs = [x]∧(match x with
  | .int j=>(0≤j∧j≤1000)∧∀l,H1 l=none→Q (.ref l) (upd H1 l (.lst ((y0c j.toNat).map fun (i:Nat)=>V.int (i:Int))))
  | _=>False)) I ⟨_,h,fun v H1 q=>⟨v,rfl,q⟩⟩) fun us s1 h1=>?_) hs2 rfl))
 obtain⟨vs,H1,I1,r1,x,rfl,q1⟩:=h1
 obtain⟨u,rfl,rx⟩:=z7r r1
 split at q1
 ·rename_i j
  obtain⟨t,rfl⟩:=rx
  obtain⟨⟨j0,j1⟩,q⟩:=q1
  refine call_range_1 ?_
  refine Calls.spliced_nil ?_
  have I2:Inv X pins σ H1 { s1 with heap:=s1.heap.push { cls:=.type "range",data:=.fields #[.int 0 s1.toks,.int j t,.int 1 (s1.toks+1)] },toks:=s1.toks+1+1 }:=I1.kept fun b o e=>Heap.get?_push_of_some _ e
  refine call_list_range (n:=j.toNat) (I1.ok.hd hc) (Heap.get?_push_size _ rfl) (zb8 j0 j1) (zbc j0) (by omega) fun h' tk acc c' hk hS hit=>?_
  refine⟨.ref _,_,I2.laid (t':=tk) hk (y07 _) (show ObjOk X.prog X.w _ h' _ (.lst ((y0c j.toNat).map fun (i:Nat)=>V.int (i:Int))) from ⟨?_,acc.toList,c',?_,by simpa using hS⟩),rfl,q _ (I2.hok.fresh (y07 _))⟩
  ·have:1000≤sizeLine:=by decide
   simp
   omega
  ·refine zbe (by simp [hit.1]) fun i x u hx hu=>?_
   have hil:i<j.toNat:=by
    have:=(y00.mp hx).1
    simpa using this
   rw [y0b,y25 hil] at hx
   cases hx
   obtain⟨t',ht'⟩:=hit.2 i u (by simpa using hu)
   exact⟨t',by rw [ht']; simp⟩
 ·exact q1.elim
end
end L2.EX
set_option Elab.async false
set_option linter.all false
set_option maxRecDepth 100000
namespace L2.EX
open PySem PySem.Spec PyProof.Rows
section
variable {X:Cx}
theorem z6o:∀{ns:List Int} {us:List Value},Vals (ns.map V.int) us→IntsAre us ns
 | [],us,h=>by cases h; exact .nil
 | n::ns,us,h=>by
  cases h with
  | cons h1 h2 =>
   obtain⟨t,rfl⟩:=h1
   exact .cons n t (z6o h2)
theorem z6n:∀{ns:List Int} {us:List Value},IntsAre us ns→Vals (ns.map V.int) us
 | _,_,.nil=>.nil
 | _,_,.cons n t h=>.cons ⟨t,rfl⟩ (z6n h)
@[reducible] def zhf (K:y02)(xs:List V)(H:Hp)(Q:VK):Prop:=match xs with
 | [.ref l]=>∃ns:List Int,SqL K H l (ns.map V.int)∧ns.length<64∧∀ms:List Int,ms.Perm ns→ms.Pairwise (·≤·)→∀p,H p=none→Q (.ref p) (upd H p (.lst (ms.map V.int)))
 | _=>False
theorem zgp:bootBuiltins "sorted"=some (.builtin "sorted"):=boot_sorted
theorem zew:z43 X (.builtin "sorted") (zhf X.K):=by
 intro pins s σ H xs us Q I r h
 unfold zhf at h
 split at h
 ·rename_i l
  obtain⟨ns,hl,h64,q⟩:=h
  obtain⟨u,rfl,rx⟩:=z7r r
  cases rx
  obtain⟨its,rv,p,hz⟩:=I.list hl
  have hlen:=rv.length
  rw [y04] at hlen
  refine sorted_ints p.isList (z6o rv) (by omega) fun out ms hI hp hs=>?_
  obtain⟨e,he⟩:=sortedAll_at s.heap its out
  have hml:ms.length=ns.length:=hp.length_eq
  refine⟨.ref (s.heap.objs.size+1),_,I.laid (t':=s.toks) (fun b o hb=>sortedAll_old hb) (y58 _) (show ObjOk X.prog X.w _ _ _ (.lst (ms.map V.int)) from ⟨?_,out.toList,e,z6n hI,?_⟩),rfl,q ms hp hs _ (I.hok.fresh (y58 _))⟩
  ·rw [y04,hml]
   have:64≤sizeLine:=by decide
   omega
  ·simpa [seqObj] using he
 ·exact h.elim
end
end L2.EX
set_option Elab.async false
set_option linter.all false
set_option maxRecDepth 100000
namespace My
open PySem L2 L2.EX
theorem z87:∀(ps kvs:List (Key×V)),(ps.map (·.1)).Nodup→(∀p∈ps,∀q∈kvs,q.1≠p.1)→z3h kvs ps=kvs++ps
 | [],kvs,_,_=>by simp [z3h]
 | p::ps,kvs,h1,h2=>by
  rw [y0m,y3a] at h1
  have e:zfg kvs p.1 p.2=kvs ++ [(p.1,p.2)]:=by
   unfold zfg
   rw [if_neg]
   rw [y1h]
   rintro⟨q,hq,hd⟩
   exact h2 p y0d q hq (of_decide_eq_true hd)
  show z3h (zfg kvs p.1 p.2) ps=_
  rw [e,z87 ps _ h1.2,y33]
  ·rfl
  ·intro p' hp' q hq
   rcases y0u.mp hq with hq | hq
   ·exact h2 p' (y08 _ hp') q hq
   ·rw [y0a.mp hq]
    rintro e
    exact h1.1 (y22.mpr ⟨p',hp',e.symm⟩)
theorem z0n (l:List Nat):(z09 l).length=l.length:=by unfold z09; rw [y04]
theorem z6j {l:List Nat}(h:l.Nodup){e a:Nat}(he:l[e]?=some a):l.idxOf a=e:=by
 obtain⟨h1,h2⟩:=y00.mp he
 rw [←h2]
 exact h.idxOf_getElem e h1
def z29 (hands:List Nat):List (Key×V):=(y0c hands.length).map fun j=>(Sum.inl ((hands.getD j 0:Nat):Int),V.int (j:Int))
theorem zbn (hands:List Nat):(z29 hands).map (·.1)=hands.map fun (h:Nat)=>(Sum.inl (h:Int):Key):=by
 unfold z29
 rw [y2a]
 refine List.ext_getElem (by simp) fun i h1 h2=>?_
 simp at h1 h2
 simp [y1j,h1]
theorem zem {hands:List Nat}(h:hands.Nodup):(hands.map fun (h:Nat)=>(Sum.inl (h:Int):Key)).Nodup:=by
 refine List.Pairwise.map _ (fun a b hab e=>hab ?_) h
 injection e with e
 omega
theorem zek {hands:List Nat}(h:hands.Nodup):z3h [] (z29 hands)=z29 hands:=by
 rw [z87]
 ·simp
 ·rw [zbn]
  exact zem h
 ·intro p _ q hq
  cases hq
def z3f (hands:List Nat)(h:Nat):Option Nat:=if h∈hands then some (hands.idxOf h) else none
theorem zg8 {α:Type}{p:α→Bool}:∀{l:List α} {j:Nat} {x:α},l[j]?=some x→p x=true→(∀(m:Nat) y,m<j→l[m]?=some y→p y=false)→l.find? p=some x
 | [],_,_,h,_,_=>by simp at h
 | a::r,0,x,h,hp,_=>by
  simp at h
  subst h
  rw [y2w,hp]
 | a::r,j+1,x,h,hp,hn=>by
  have h0:=hn 0 a (by omega) rfl
  rw [y2w,h0]
  exact zg8 (by simpa using h) hp fun m y hm hy=>hn (m+1) y (by omega) (by simpa using hy)
theorem z7p {hands:List Nat}(hd:hands.Nodup)(h:Nat):zb5 (z29 hands) (.inl (h:Int))=(z3f hands h).map fun j=>V.int (j:Int):=by
 have look:∀(m:Nat) y,(z29 hands)[m]?=some y→∃x,hands[m]?=some x∧y=(.inl (x:Int),.int (m:Int)):=fun m y hy=>by
  unfold z29 at hy
  have hm:=(y00.mp hy).1
  simp at hm
  rw [y0b,y25 hm] at hy
  simp [y1j,hm] at hy
  exact⟨hands[m],y01 hm,hy.symm⟩
 unfold zb5 z3f
 by_cases c:h∈hands
 ·rw [if_pos c]
  obtain⟨j,hj⟩:=y0f c
  have hjl:=(y00.mp hj).1
  have he:=(y00.mp hj).2
  have hidx:hands.idxOf h=j:=z6j hd hj
  have hat:(z29 hands)[j]?=some (.inl (h:Int),.int (j:Int)):=by
   unfold z29
   rw [y0b,y25 hjl]
   simp [y1j,hj]
  rw [zg8 hat (by simp) fun m y hm hy=>?_,hidx]
  ·rfl
  ·obtain⟨x,hx,rfl⟩:=look m y hy
   refine decide_eq_false fun e=>?_
   injection e with e
   have ex:x=h:=by omega
   subst ex
   have hml:=(y00.mp hx).1
   have h1:=hd.idxOf_getElem m hml
   rw [(y00.mp hx).2] at h1
   omega
 ·rw [if_neg c]
  have:(z29 hands).find? (fun kv=>decide (kv.1 = .inl (h:Int)))=none:=by
   rw [List.find?_eq_none]
   intro y hy e
   obtain⟨m,hm⟩:=y0f hy
   obtain⟨x,hx,rfl⟩:=look m y hm
   have e':=of_decide_eq_true e
   injection e' with e'
   have ex:x=h:=by omega
   subst ex
   exact c (y03 hx)
  rw [this]
  rfl
def z3q (hands:List Nat)(g:Nat)(row:List Nat):List (Nat×Nat):=row.filterMap fun h=>(z3f hands h).map fun p=>(g,p)
def z52 (drs:List (List Nat))(hands chores:List Nat):Nat→List (Nat×Nat)
 | 0=>[]
 | i+1=>z52 drs hands chores i++z3q hands i (drs.getD (chores.getD i 0) [])
def z51 (drs:List (List Nat))(hands chores:List Nat):List (Nat×Nat):=z52 drs hands chores chores.length
theorem zib {hands:List Nat}{h p:Nat}(hp:z3f hands h=some p):hands[p]?=some h:=by
 unfold z3f at hp
 split at hp
 ·rename_i c
  cases hp
  have:=List.idxOf_lt_length_of_mem c
  rw [y01 this]
  simp
 ·cases hp
theorem place_of {hands:List Nat}(hd:hands.Nodup){h p:Nat}(hp:hands[p]?=some h):z3f hands h=some p:=by
 unfold z3f
 rw [if_pos (y03 hp),z6j hd hp]
theorem zbz {hands:List Nat}(hd:hands.Nodup){g:Nat}{row:List Nat}{a b:Nat}:(a,b)∈z3q hands g row↔a=g∧∃h,hands[b]?=some h∧h∈row:=by
 unfold z3q
 rw [y4q]
 constructor
 ·rintro⟨h,hr,e⟩
  cases q:z3f hands h with
  | none=>rw [q] at e; cases e
  | some p =>
   rw [q] at e
   cases e
   exact⟨rfl,h,zib q,hr⟩
 ·rintro⟨rfl,h,hb,hr⟩
  exact⟨h,hr,by rw [place_of hd hb]; rfl⟩
theorem z8o {drs:List (List Nat)}{hands chores:List Nat}(hd:hands.Nodup){a b:Nat}:∀{i:Nat},(a,b)∈z52 drs hands chores i↔a<i∧∃h,hands[b]?=some h∧h∈drs.getD (chores.getD a 0) []
 | 0=>by simp [z52]
 | i+1=>by
  rw [z52,y0u,z8o hd,zbz hd]
  constructor
  ·rintro(⟨h1,h2⟩ | ⟨rfl,h2⟩)
   ·exact⟨by omega,h2⟩
   ·exact⟨by omega,h2⟩
  ·rintro⟨h1,h2⟩
   by_cases c:a=i
   ·subst c
    exact .inr ⟨rfl,h2⟩
   ·exact .inl ⟨by omega,h2⟩
theorem za6 {drs:List (List Nat)}{hands chores:List Nat}(hd:hands.Nodup):PM.TiesOk (fun c=>drs.getD c []) hands chores (z51 drs hands chores):=fun g t=>by
 unfold z51
 rw [z8o hd]
 constructor
 ·rintro⟨h1,h,h2,h3⟩
  exact⟨chores.getD g 0,h,PM.get_of_lt h1,h2,h3⟩
 ·rintro⟨c,h,h1,h2,h3⟩
  refine⟨(y00.mp h1).1,h,h2,?_⟩
  rw [PM.getD_of h1]
  exact h3
theorem zbm (hands:List Nat)(g:Nat)(row:List Nat):(z3q hands g row).length≤row.length:=List.length_filterMap_le _ _
theorem z6l (hands:List Nat)(g h:Nat)(row:List Nat):z3q hands g (row ++ [h])=z3q hands g row++(match z3f hands h with | some p=>[(g,p)] | none=>[]):=by
 unfold z3q
 rw [List.filterMap_append]
 congr 1
 cases q:z3f hands h<;>simp [q]
def z5z (hands chores:List Nat):PyData:=.tuple [z3k hands,z3k chores]
def zh4 (drs:List (List Nat)):PyData:=.list (drs.map z3k)
theorem is_crowd {K:y02}{H:Hp}{v:V}{hands chores:List Nat}:Is K H v (z5z hands chores)↔∃a b c,v = .ref a∧H a=some (.tup [.ref b,.ref c])∧H b=some (.lst (z09 hands))∧H c=some (.lst (z09 chores)):=by
 unfold z5z z3k
 constructor
 ·intro h
  obtain⟨a,xs,rfl,ha,al⟩:=is_tuple.mp h
  simp only [IsAll] at al
  obtain⟨v1,vs1,rfl,q1,v2,vs2,rfl,q2,rfl⟩:=al
  obtain⟨b,ys,rfl,hb,al1⟩:=is_list.mp q1
  obtain⟨c,zs,rfl,hc,al2⟩:=is_list.mp q2
  rw [z3u al1] at hb
  rw [z3u al2] at hc
  exact⟨a,b,c,rfl,ha,hb,hc⟩
 ·rintro⟨a,b,c,rfl,ha,hb,hc⟩
  exact is_tuple.mpr ⟨a,_,rfl,ha,z1d (is_list.mpr ⟨b,_,rfl,hb,z2h _⟩) (z3t (is_list.mpr ⟨c,_,rfl,hc,z2h _⟩))⟩
structure AsksC (K:y02)(H:Hp)(aw ad:Addr)(ws:List Int)(drs:List (List Nat)):Prop where
 w:H aw=some (.lst (ws.map V.int))
 d:Is K H (.ref ad) (zh4 drs)
 len:drs.length=ws.length
 few:ws.length≤20
 row:∀r∈drs,r.length≤20
 pos:∀x∈ws,1≤x
 bd:∀x∈ws,Bd 300 x
theorem AsksC.same {K:y02}{H H':Hp}{aw ad:Addr}{ws:List Int}{drs:List (List Nat)}(t:AsksC K H aw ad ws drs)(s:Same H H'):AsksC K H' aw ad ws drs:=⟨s _ _ t.w,Is.same s _ _ t.d,t.len,t.few,t.row,t.pos,t.bd⟩
def zd5 (K:y02):Sp:=fun vs H Q _=>∃(ad:Addr) (vc:V) (drs:List (List Nat)) (hands chores:List Nat),vs = [.ref ad,vc]∧Is K H (.ref ad) (zh4 drs)∧Is K H vc (z5z hands chores)∧hands.Nodup∧hands.length≤20∧chores.length≤20∧(∀r∈drs,r.length≤20)∧(∀c∈chores,c<drs.length) ∧
 ∀v H',Same H H'→Is K H' v (.list ((z51 drs hands chores).map pr))→Q v H'
theorem zic {drs:List (List Nat)}(h:∀r∈drs,r.length≤20)(k:Nat):(drs.getD k []).length≤20:=by
 by_cases z:k<drs.length
 ·have e:drs.getD k []=drs[k]:=by simp [y1j,y01 z]
  rw [e]
  exact h _ (y48 z)
 ·have e:drs.getD k [] = []:=by simp [y1j,y1a (show drs.length≤k by omega)]
  rw [e]
  simp
theorem z8q {drs:List (List Nat)}{hands chores:List Nat}(h:∀r∈drs,r.length≤20):∀i,(z52 drs hands chores i).length≤i*20
 | 0=>by simp [z52]
 | i+1=>by
  have a:=z8q (hands:=hands) (chores:=chores) h i
  have b:=zbm hands i (drs.getD (chores.getD i 0) [])
  have c:=zic h (chores.getD i 0)
  rw [z52,y09]
  omega
def z30 (ws:List Int)(chores:List Nat):Int:=(chores.map fun c=>ws.getD c 0).sum
def z9d (K:y02):Sp:=fun vs H Q _=>∃(aw:Addr) (vc:V) (ws:List Int) (hands chores:List Nat),vs = [.ref aw,vc]∧H aw=some (.lst (ws.map V.int))∧Is K H vc (z5z hands chores)∧chores.length≤20∧(∀c∈chores,c<ws.length)∧∀H',Same H H'→Q (.int (z30 ws chores)) H'
structure CrowdOk (n m:Nat)(hands chores:List Nat):Prop where
 nd:hands.Nodup
 hl:hands.length≤20
 cl:chores.length≤20
 ci:∀c∈chores,c<n
def z1u (ws:List Int)(hands chores:List Nat):List Int:=chores.map fun c=>ws.getD c 0*(hands.length:Int)
def takesIn (ws:List Int)(hands chores:List Nat):List Int:=y06 hands.length (z30 ws chores)
def zdc (K:y02):Sp:=fun vs H Q _=>∃(aw ad:Addr) (vc:V) (ws:List Int) (drs:List (List Nat)) (hands chores:List Nat),vs = [.ref aw,.ref ad,vc]∧AsksC K H aw ad ws drs∧Is K H vc (z5z hands chores)∧CrowdOk ws.length 0 hands chores ∧
 zph H Q (z1u ws hands chores) (takesIn ws hands chores) (z51 drs hands chores) fun _ _=>True
def pick {α:Type}(xs:List α)(bs:List Bool)(w:Bool):List α:=((xs.zip bs).filter fun p=>p.2==w).map (·.1)
theorem z86 {α:Type}{xs:List α}{bs:List Bool}{i:Nat}{x:α}{b w:Bool}(h1:xs[i]?=some x)(h2:bs[i]?=some b):pick (xs.take (i+1)) (bs.take (i+1)) w=pick (xs.take i) (bs.take i) w++(if b=w then [x] else []):=by
 unfold pick
 have e1:(xs.take i).length=(bs.take i).length:=by
  have:=(y00.mp h1).1
  have:=(y00.mp h2).1
  rw [y0r,y0r]
  omega
 rw [z0g h1,z0g h2,y5r e1,y38,y0h]
 congr 1
 by_cases c:b=w<;>simp [c]
def zd2 (K:y02):Sp:=fun vs H Q _=>∃(ax ab:Addr) (xs:List Nat) (bs:List Bool) (w:Bool),vs = [.ref ax,.ref ab,.bl w]∧H ax=some (.lst (z09 xs))∧H ab=some (.lst (bs.map V.bl))∧xs.length=bs.length∧xs.length≤20∧∀l H',H l=none→Same H H'→H' l=some (.lst (z09 (pick xs bs w)))→Q (.ref l) H'
theorem zf4 {ws:List Int}(hb:∀x∈ws,Bd 300 x):∀{chores:List Nat},chores.length≤20→(∀c∈chores,c<ws.length)→Bd (300+chores.length) (z30 ws chores)
 | [],_,_=>by
  show(0:Int).natAbs<_
  exact Nat.two_pow_pos _
 | c::cs,hl,h=>by
  have ih:=zf4 hb (chores:=cs) (by simp at hl; omega) fun x hx=>h x (y08 _ hx)
  have hc:=h c y0d
  have b1:=hb _ (y03 (z0y hc))
  have e:z30 ws (c::cs)=ws.getD c 0+z30 ws cs:=by simp [z30]
  rw [e]
  rw [y11]
  exact Bd.add (k:=300+(cs.length+1)) (m:=300) (n:=300+cs.length) b1 ih (by omega) (by omega)
def z40 (c:PM.Cr):PyData:=z5z c.1 c.2
def z4b (ws:List Int)(c:Nat):Int:=if c<ws.length then ws.getD c 0 else 1
def z6s (drs:List (List Nat))(c:Nat):List Nat:=drs.getD c []
structure DoOk (ws:List Int)(drs:List (List Nat))(many:Nat):Prop where
 few:many≤20
 some:∀c<ws.length,z6s drs c ≠ []
 lt:∀c<ws.length,∀h∈z6s drs c,h<many
theorem zcz {ws:List Int}(h:∀x∈ws,1≤x)(c:Nat):0<z4b ws c:=by
 unfold z4b
 split
 ·rename_i hc
  have:=h _ (y03 (z0y hc))
  omega
 ·decide
theorem z81 {xs:List Nat}{bs:List Bool}{f:Nat→Bool}(hl:xs.length=bs.length)(h:∀(i x:Nat),xs[i]?=some x→bs[i]?=some (f x)):pick xs bs true=xs.filter f∧pick xs bs false=xs.filter fun x=>!f x:=by
 have key:∀(i:Nat) (w:Bool),i≤xs.length→pick (xs.take i) (bs.take i) w=(xs.take i).filter fun x=>f x==w:=by
  intro i w
  induction i with
  | zero=>intro _; simp [pick]
  | succ i ih =>
   intro hi
   have hx:xs[i]?=some xs[i]:=y01 (by omega)
   rw [z86 hx (h i _ hx),ih (by omega),z0g hx,y38]
   congr 1
   by_cases c:f xs[i]=w<;>simp [c]
 have k1:=key xs.length true (y07 _)
 have k2:=key xs.length false (y07 _)
 rw [y05 (y07 _),y05 (by omega)] at k1 k2
 refine⟨?_,?_⟩
 ·rw [k1]
  exact y54 fun x _=>by simp
 ·rw [k2]
  exact y54 fun x _=>by simp
theorem z4n {l:List Nat}(h:l.Pairwise (· < ·)):l.Nodup:=h.imp fun h=>y0x h
section
variable {ws:List Int}{drs:List (List Nat)}{c:PM.Cr}{sent spare steps:List Int}
theorem zhg (hh:c.1.Pairwise (· < ·))(hc:c.2.Pairwise (· < ·))(hi:∀x∈c.2,x<ws.length)
  (D:PM.Done (zdp (z1u ws c.1 c.2).length (takesIn ws c.1 c.2).length (z51 drs c.1 c.2)) (z1u ws c.1 c.2++takesIn ws c.1 c.2) sent spare steps) :
  ∃nc nh:Nat→Bool,PM.Cut (z4b ws) (z6s drs) c.1 c.2 c.1.length (PM.tot (z4b ws) c) nc nh∧(∀(i x:Nat),c.2[i]?=some x→((z3l steps).take (z1u ws c.1 c.2).length)[i]?=some (nc x))∧(∀(i x:Nat),c.1[i]?=some x→((z3l steps).drop (z1u ws c.1 c.2).length)[i]?=some (nh x)):=by
 have gl:(z1u ws c.1 c.2).length=c.2.length:=by unfold z1u; simp
 have tl:(takesIn ws c.1 c.2).length=c.1.length:=by unfold takesIn; simp
 rw [gl,tl] at D
 rw [gl]
 have n1:=z4n hh
 have n2:=z4n hc
 have ll:steps.length=c.2.length+c.1.length:=D.st.len
 have nl:(z3l steps).length=c.2.length+c.1.length:=by unfold z3l; rw [y04]; exact ll
 have ew:∀x∈c.2,ws.getD x 0=z4b ws x:=fun x hx=>by
  unfold z4b
  rw [if_pos (hi x hx)]
 have etot:z30 ws c.2=PM.tot (z4b ws) c:=by
  unfold z30 PM.tot
  rw [y0v ew]
 have eg:z1u ws c.1 c.2++takesIn ws c.1 c.2=c.2.map (fun x=>z4b ws x*(c.1.length:Int))++y06 c.1.length (PM.tot (z4b ws) c):=by
  unfold z1u takesIn
  rw [etot]
  congr 1
  exact y0v fun x hx=>by rw [ew x hx]
 rw [eg] at D
 have hok:PM.TiesOk (z6s drs) c.1 c.2 (z51 drs c.1 c.2):=za6 n1
 have hb:∀p∈z51 drs c.1 c.2,p.1<c.2.length∧p.2<c.1.length:=fun p hp=>by
  obtain⟨g,t⟩:=p
  obtain⟨x,h,g1,g2,_⟩:=(hok g t).mp hp
  exact⟨(y00.mp g1).1,(y00.mp g2).1⟩
 refine⟨fun x=>PM.nr steps (c.2.idxOf x),fun h=>PM.nr steps (c.2.length+c.1.idxOf h),?_,fun i x hx=>?_,fun i x hx=>?_⟩
 ·refine PM.cut_of (ties:=z51 drs c.1 c.2) hok (zd0 hb) D (fun i x hx=>by rw [z6j n2 hx]) (fun i x hx=>by rw [z6j n1 hx]) ?_
  have e1:(c.1.map fun _=>PM.tot (z4b ws) c).sum=(c.1.length:Int)*PM.tot (z4b ws) c:=by
   generalize PM.tot (z4b ws) c=W
   induction c.1 with
   | nil=>simp
   | cons a r ih=>simp [ih]; rw [y4l]; omega
  rw [e1]
  unfold PM.tot
  rw [PM.mul_sum]
  congr 1
  exact y0v fun x _=>y1g _ _
 ·have hil:=(y00.mp hx).1
  show _=some (PM.nr steps (c.2.idxOf x))
  rw [y3w,if_pos hil,z6j n2 hx]
  have e:=zcu (steps:=steps) (e:=i) (by omega)
  rw [←e,y01 (by omega)]
  simp [y1j,y01 (show i<(z3l steps).length by omega)]
 ·have hil:=(y00.mp hx).1
  show _=some (PM.nr steps (c.2.length+c.1.idxOf x))
  rw [y4t,z6j n1 hx]
  have e:=zcu (steps:=steps) (e:=c.2.length+i) (by omega)
  rw [←e,y01 (by omega)]
  simp [y1j,y01 (show c.2.length+i<(z3l steps).length by omega)]
end
def zo3 (ws:List Int)(drs:List (List Nat))(c:PM.Cr):Prop:=PM.Hi (z4b ws) (z6s drs) c (PM.tot (z4b ws) c) c.1.length
theorem zlf {ws:List Int}{drs:List (List Nat)}{c:PM.Cr}{nc nh:Nat→Bool}(C:PM.Cut (z4b ws) (z6s drs) c.1 c.2 c.1.length (PM.tot (z4b ws) c) nc nh)(hn:∀h∈c.1,nh h=false)(own:∀x∈c.2,∃h∈c.1,h∈z6s drs x):zo3 ws drs c:=by
 have h:=C.hi_rest
 have e:PM.restOf c nc nh=c:=by
  unfold PM.restOf
  have e1:(c.1.filter fun h=>!nh h)=c.1:=y60.mpr fun h hh=>by rw [hn h hh]; rfl
  have e2:(c.2.filter fun x=>!nc x)=c.2:=y60.mpr fun x hx=>by
   obtain⟨h,h1,h2⟩:=own x hx
   cases q:nc x with
   | false=>rfl
   | true =>
    have:=C.up x hx h h1 h2 q
    rw [hn h h1] at this
    cases this
  rw [e1,e2]
 rw [e] at h
 exact h
def zda (K:y02):Sp:=fun vs H Q _=>∃(aw ad:Addr) (many:Nat) (ws:List Int) (drs:List (List Nat)),vs = [.ref aw,.ref ad,.int (many:Int)]∧AsksC K H aw ad ws drs∧DoOk ws drs many ∧
 ∀L:List PM.Cr,(many=0→L = [])→(0<many→PM.Crowds (z4b ws) (z6s drs) many ws.length L)→(∀c∈L,zo3 ws drs c)→Res K H Q (.list (L.map z40))
theorem zaj {ws:List Int}{drs:List (List Nat)}{many:Nat}(D:DoOk ws drs many)(h0:0<many):PM.Crowds (z4b ws) (z6s drs) many ws.length [(y0c many,y0c ws.length)]:=by
 refine⟨fun i x y hx hy=>?_,fun c hc=>?_,fun c hc x hx=>?_,fun i c hc x hx h hh=>?_,fun h=>?_,fun x=>?_,fun c hc=>?_,fun c hc=>?_⟩
 ·have:=(y00.mp hy).1
  simp at this
 ·rw [y0a.mp hc]
  intro e
  have e':y0c many = []:=e
  have:(y0c many).length=0:=by rw [e']; rfl
  simp at this
  omega
 ·rw [y0a.mp hc] at hx ⊢
  have hx':x<ws.length:=y1n.mp hx
  obtain⟨h,r,e⟩:=y2g (D.some x hx')
  have hm:h∈z6s drs x:=by rw [e]; exact y0d
  exact⟨h,y1n.mpr (D.lt x hx' h hm),hm⟩
 ·have hi:=(y00.mp hc).1
  simp at hi
  subst hi
  simp at hc
  subst hc
  have hx':x<ws.length:=y1n.mp hx
  exact⟨0,_,y07 _,rfl,y1n.mpr (D.lt x hx' h hh)⟩
 ·simp [y4a]
 ·simp [y4a]
 ·rw [y0a.mp hc]
  exact y3y
 ·rw [y0a.mp hc]
  exact y3y
def z6y (H:Hp)(a b:Addr):Hp:=del (del H a) b
theorem z5y {H H':Hp}{a b:Addr}(s:Same H H'):Same (z6y H a b) (z6y H' a b):=z4v (z4v s)
theorem z5o {H:Hp}{a b:Addr}:Same (z6y H a b) H:=del_sub.trans del_sub
theorem z3p {H:Hp}{a b x:Addr}(h1:x≠a)(h2:x≠b):z6y H a b x=H x:=by unfold z6y; rw [z4g h2,z4g h1]
theorem zd7 {H:Hp}{a b:Addr}:del (del H a) b=del (del H b) a:=by
 funext x
 unfold del
 split<;>split<;>rfl
theorem z7y {H:Hp}{a b:Addr}{o:HO}:z6y (upd H a o) a b=z6y H a b:=by unfold z6y; rw [z2e]
theorem z4j {H:Hp}{a b:Addr}{o:HO}:z6y (upd H b o) a b=z6y H a b:=by unfold z6y; rw [zd7,z2e,zd7]
structure Two (K:y02)(H H':Hp)(a b:Addr)(vs us:List V)(ds es:List PyData):Prop where
 ne:a≠b
 old:Same H (z6y H' a b)
 h1:H' a=some (.lst vs)
 h2:H' b=some (.lst us)
 a1:IsAll K (z6y H' a b) vs ds
 a2:IsAll K (z6y H' a b) us es
section
variable {K:y02}{H H' H'':Hp}{a b:Addr}{vs us:List V}{ds es:List PyData}
theorem Two.same (t:Two K H H' a b vs us ds es):Same H H':=t.old.trans z5o
theorem Two.more (t:Two K H H' a b vs us ds es)(s:Same H' H''):Two K H H'' a b vs us ds es:=⟨t.ne,t.old.trans (z5y s),s _ _ t.h1,s _ _ t.h2,IsAll.same (z5y s) _ _ t.a1,IsAll.same (z5y s) _ _ t.a2⟩
theorem Two.set1 (t:Two K H H' a b vs us ds es){ws:List V}{fs:List PyData}(h:IsAll K (z6y H' a b) ws fs):Two K H (upd H' a (.lst ws)) a b ws us fs es:=⟨t.ne,by rw [z7y]; exact t.old,z01,by rw [z0a t.ne.symm]; exact t.h2,by rw [z7y]; exact h,by rw [z7y]; exact t.a2⟩
theorem Two.set2 (t:Two K H H' a b vs us ds es){ws:List V}{fs:List PyData}(h:IsAll K (z6y H' a b) ws fs):Two K H (upd H' b (.lst ws)) a b vs ws ds fs:=⟨t.ne,by rw [z4j]; exact t.old,by rw [z0a t.ne]; exact t.h1,z01,by rw [z4j]; exact t.a1,by rw [z4j]; exact h⟩
theorem Two.crowd (t:Two K H H' a b vs us ds es){c x y:Addr}{hands chores:List Nat}(hx:x≠a∧x≠b)(hy:y≠a∧y≠b)(h0:H' c=some (.tup [.ref x,.ref y]))(h1:H' x=some (.lst (z09 hands)))(h2:H' y=some (.lst (z09 chores))):Is K (z6y H' a b) (.ref c) (z5z hands chores):=by
 have n1:c≠a:=fun z=>by rw [z,t.h1] at h0; cases h0
 have n2:c≠b:=fun z=>by rw [z,t.h2] at h0; cases h0
 exact is_crowd.mpr ⟨c,x,y,rfl,by rw [z3p n1 n2]; exact h0,by rw [z3p hx.1 hx.2]; exact h1,by rw [z3p hy.1 hy.2]; exact h2⟩
end
def zaw (U:List PM.Cr):Nat:=(U.map fun c=>2*c.1.length - 1).sum
theorem z7c:∀{l:List Nat} {k n:Nat},l.Pairwise (· < ·)→(∀x∈l,k≤x)→(∀x∈l,x<n)→l ≠ []→k+l.length≤n
 | [],_,_,_,_,_,h=>absurd rfl h
 | x::r,k,n,h,hk,hn,_=>by
  rw [List.pairwise_cons] at h
  have h1:=hk x y0d
  have h2:=hn x y0d
  by_cases c:r = []
  ·subst c
   simp
   omega
  ·have ih:=z7c (l:=r) (k:=k+1) (n:=n) h.2 (fun y hy=>by have:=h.1 y hy; omega) (fun y hy=>hn y (y08 _ hy)) c
   rw [y11]
   omega
theorem z1h {l:List Nat}{n:Nat}(h:l.Pairwise (· < ·))(hb:∀x∈l,x<n):l.length≤n:=by
 by_cases c:l = []
 ·subst c
  simp
 ·have:=z7c (k:=0) h (fun _ _=>y2j _) hb c
  omega
theorem zfs {l:List Nat}{n:Nat}(hn:l.Nodup)(hb:∀x∈l,x<n):l.length≤n:=by
 have p:(l.mergeSort (fun a b=>decide (a≤b))).Perm l:=List.mergeSort_perm l _
 have sr:(l.mergeSort (fun a b=>decide (a≤b))).Pairwise (fun a b=>decide (a≤b)=true):=List.pairwise_mergeSort (fun a b c h1 h2=>by simp at h1 h2 ⊢; omega) (fun a b=>by simp; omega) l
 have nd:=p.nodup_iff.mpr hn
 have rs:(l.mergeSort (fun a b=>decide (a≤b))).Pairwise (· < ·):=(sr.and nd).imp fun h=>by
  have:=of_decide_eq_true h.1
  have:=h.2
  omega
 have:=z1h rs fun x hx=>hb x (p.mem_iff.mp hx)
 rw [p.length_eq] at this
 exact this
theorem z6a {ws:List Int}{drs:List (List Nat)}{many chores:Nat}{L:List PM.Cr}(C:PM.Crowds (z4b ws) (z6s drs) many chores L)(hm:many≤20:=by assumption):L.length≤20:=by
 have key:∀(L:List PM.Cr),(∀c∈L,c.1 ≠ [])→L.length≤(L.map fun c=>c.1.length).sum:=by
  intro L
  induction L with
  | nil=>intro _; simp
  | cons c r ih =>
   intro h
   have a:=ih fun d hd=>h d (y08 _ hd)
   have b:=y0t.mpr (h c y0d)
   simp
   omega
 have a:=key L C.ne
 have tot:∀(L:List PM.Cr),(∀h:Nat,(L.map fun c=>c.1.count h).sum≤if h<many then 1 else 0)→(L.map fun c=>c.1.length).sum≤many:=by
  intro L hL
  have e:(L.map fun c=>c.1.length).sum=(L.flatMap fun c=>c.1).length:=by rw [List.length_flatMap]
  rw [e]
  have cnt:∀h,(L.flatMap fun c=>c.1).count h=(L.map fun c=>c.1.count h).sum:=fun h=>by rw [y4u]; rfl
  have nd:(L.flatMap fun c=>c.1).Nodup:=y4c.mpr fun h=>by
   rw [cnt]
   have:=hL h
   split at this<;>omega
  have lt:∀h∈L.flatMap fun c=>c.1,h<many:=fun h hh=>by
   have p:=y2s.mpr hh
   rw [cnt] at p
   have:=hL h
   split at this<;>omega
  exact zfs nd lt
 have b:=tot L fun h=>by rw [C.hs h]; exact y07 _
 omega
def za9 (p:Int×Int)(c:PM.Cr):PyData:=.tuple [z2m p.1 p.2,z3k c.1,z3k c.2]
def z2q:List (Int×Int)→List PM.Cr→List PyData
 | p::ps,c::L=>za9 p c::z2q ps L
 | _,_=>[]
theorem z6p:∀{ps:List (Int×Int)} {L:List PM.Cr} {p:Int×Int} {c:PM.Cr},ps.length=L.length→z2q (ps ++ [p]) (L ++ [c])=z2q ps L ++ [za9 p c]
 | [],[],p,c,_=>rfl
 | [],_::_,_,_,h=>by simp at h
 | _::_,[],_,_,h=>by simp at h
 | p'::ps,c'::L,p,c,h=>by
  simp only [y6p,z2q]
  rw [z6p (by simpa using h)]
theorem z6d:∀{ps:List (Int×Int)} {L:List PM.Cr} {i:Nat} {d:PyData},(z2q ps L)[i]?=some d→∃p c,ps[i]?=some p∧L[i]?=some c∧d=za9 p c
 | [],_,_,_,h=>by simp [z2q] at h
 | _::_,[],_,_,h=>by simp [z2q] at h
 | p::ps,c::L,0,d,h=>by
  simp [z2q] at h
  exact⟨p,c,rfl,rfl,h.symm⟩
 | p::ps,c::L,i+1,d,h=>by
  simp [z2q] at h
  obtain⟨p',c',h1,h2,h3⟩:=z6d h
  exact⟨p',c',by simpa using h1,by simpa using h2,h3⟩
theorem z7e:∀{ps:List (Int×Int)} {L:List PM.Cr},ps.length=L.length→(z2q ps L).length=L.length
 | [],[],_=>rfl
 | [],_::_,h=>by simp at h
 | _::_,[],h=>by simp at h
 | p::ps,c::L,h=>by
  simp only [z2q,y11]
  rw [z7e (by simpa using h)]
theorem z4s:∀{l:List Nat} {x:Nat},x∈l→x≤l.sum
 | [],_,h=>by cases h
 | y::r,x,h=>by
  rw [y0n]
  rcases y0k.mp h with rfl | h
  ·omega
  ·have:=z4s h
   omega
structure LayOk (ws:List Int)(L:List PM.Cr)(ps:List (Int×Int)):Prop where
 len:ps.length=L.length
 at_:∀(i:Nat) c p,L[i]?=some c→ps[i]?=some p→Low p∧p.1*(c.1.length:Int)=PM.tot (z4b ws) c*p.2
structure CrOk (ws:List Int)(drs:List (List Nat))(many:Nat)(L:List PM.Cr):Prop where
 none:many=0→L = []
 cr:0<many→PM.Crowds (z4b ws) (z6s drs) many ws.length L
 rst:∀c∈L,zo3 ws drs c
theorem CrOk.lt {ws:List Int}{drs:List (List Nat)}{many:Nat}{L:List PM.Cr}(C:CrOk ws drs many L){c:PM.Cr}(hc:c∈L):(∀h∈c.1,h<many)∧(∀x∈c.2,x<ws.length)∧c.1 ≠ []∧c.1.Pairwise (· < ·)∧c.2.Pairwise (· < ·):=by
 have h0:0<many:=by
  rcases y1v many with z | z
  ·rw [C.none z] at hc
   cases hc
  ·exact z
 have K:=C.cr h0
 obtain⟨i,hi⟩:=y0f hc
 have one:∀(f:PM.Cr→Nat),f c≤(L.map f).sum:=fun f=>by
  have:f c∈L.map f:=y22.mpr ⟨c,hc,rfl⟩
  exact z4s this
 refine⟨fun h hh=>?_,fun x hx=>?_,K.ne c hc,K.hr c hc,K.cr c hc⟩
 ·have a:=one fun c=>c.1.count h
  rw [K.hs h] at a
  have b:=y2s.mpr hh
  by_cases z:h<many
  ·exact z
  ·rw [if_neg z] at a
   omega
 ·have a:=one fun c=>c.2.count x
  rw [K.cs x] at a
  have b:=y2s.mpr hx
  by_cases z:x<ws.length
  ·exact z
  ·rw [if_neg z] at a
   omega
theorem CrOk.few {ws:List Int}{drs:List (List Nat)}{many:Nat}{L:List PM.Cr}(C:CrOk ws drs many L)(hm:many≤20):L.length≤20:=by
 rcases y1v many with z | z
 ·rw [C.none z]
  simp
 ·exact z6a (C.cr z) hm
def zcf (K:y02):Sp:=fun vs H Q _=>∃(aw ad:Addr) (many:Nat) (ws:List Int) (drs:List (List Nat)),vs = [.ref aw,.ref ad,.int (many:Int)]∧AsksC K H aw ad ws drs∧DoOk ws drs many ∧
 ∀(L:List PM.Cr) (ps:List (Int×Int)),CrOk ws drs many L→LayOk ws L ps→Res K H Q (.list (z2q ps L))
structure LoadOk (many:Nat)(L:List PM.Cr)(ps qs:List (Int×Int)):Prop where
 len:qs.length=many
 at_:∀(i:Nat) c p,L[i]?=some c→ps[i]?=some p→∀h∈c.1,qs[h]?=some p
def zhn (K:y02):Sp:=fun vs H Q _=>∃(aw ad:Addr) (many:Nat) (ws:List Int) (drs:List (List Nat)),vs = [.ref aw,.ref ad,.int (many:Int)]∧AsksC K H aw ad ws drs∧DoOk ws drs many ∧
 ∀(L:List PM.Cr) (ps qs:List (Int×Int)),CrOk ws drs many L→LayOk ws L ps→LoadOk many L ps qs→Res K H Q (z56 qs)
theorem is_layer {K:y02}{H:Hp}{v:V}{p:Int×Int}{c:PM.Cr}:Is K H v (za9 p c)↔∃a f x y,v = .ref a∧H a=some (.tup [.ref f,.ref x,.ref y])∧H f=some (.tup [.int p.1,.int p.2])∧H x=some (.lst (z09 c.1))∧H y=some (.lst (z09 c.2)):=by
 unfold za9 z3k
 constructor
 ·intro h
  obtain⟨a,xs,rfl,ha,al⟩:=is_tuple.mp h
  simp only [IsAll] at al
  obtain⟨v1,vs1,rfl,q1,v2,vs2,rfl,q2,v3,vs3,rfl,q3,rfl⟩:=al
  obtain⟨f,rfl,hf⟩:=is_frac.mp q1
  obtain⟨b,ys,rfl,hb,al1⟩:=is_list.mp q2
  obtain⟨d,zs,rfl,hd,al2⟩:=is_list.mp q3
  rw [z3u al1] at hb
  rw [z3u al2] at hd
  exact⟨a,f,b,d,rfl,ha,hf,hb,hd⟩
 ·rintro⟨a,f,x,y,rfl,ha,hf,hx,hy⟩
  exact is_tuple.mpr ⟨a,_,rfl,ha,z1d (is_frac.mpr ⟨f,rfl,hf⟩) (z1d (is_list.mpr ⟨x,_,rfl,hx,z2h _⟩) (z3t (is_list.mpr ⟨y,_,rfl,hy,z2h _⟩)))⟩
theorem z79 {K:y02}{H:Hp}{v:V}{d:PyData}(h:Is K H v d):∀n,IsAll K H (y06 n v) (y06 n d)
 | 0=>z0t
 | n+1=>by
  rw [y1s,y1s]
  exact z1d h (z79 h n)
theorem z7x {K:y02}{H:Hp}:∀{ds:List PyData} {xs:List V} {i:Nat} {v:V} {d:PyData},IsAll K H xs ds→Is K H v d→IsAll K H (xs.set i v) (ds.set i d)
 | [],xs,i,v,d,h,_=>by
  simp only [IsAll] at h
  subst h
  exact z0t
 | e::ds,xs,i,v,d,h,hv=>by
  simp only [IsAll] at h
  obtain⟨u,us,rfl,q,al⟩:=h
  cases i with
  | zero=>exact z1d hv al
  | succ i=>exact z1d q (z7x al hv)
theorem zj8 {α:Type}{l:List α}{n i:Nat}{x:α}(h:(l.take n)[i]?=some x):l[i]?=some x:=by
 rw [y3w] at h
 split at h
 ·exact h
 ·cases h
theorem zhk:∀{l:List Nat} {i j a b:Nat},i≠j→l[i]?=some a→l[j]?=some b→a+b≤l.sum
 | [],_,_,_,_,_,h,_=>by simp at h
 | x::r,0,0,_,_,h,_,_=>absurd rfl h
 | x::r,0,j+1,a,b,_,h1,h2=>by
  simp at h1 h2
  subst h1
  have:=z4s (y03 h2)
  rw [y0n]
  omega
 | x::r,i+1,0,a,b,_,h1,h2=>by
  simp at h1 h2
  subst h2
  have:=z4s (y03 h1)
  rw [y0n]
  omega
 | x::r,i+1,j+1,a,b,h,h1,h2=>by
  have:=zhk (l:=r) (i:=i) (j:=j) (a:=a) (b:=b) (by omega) (by simpa using h1) (by simpa using h2)
  rw [y0n]
  omega
theorem CrOk.apart {ws:List Int}{drs:List (List Nat)}{many:Nat}{L:List PM.Cr}(C:CrOk ws drs many L)(hm:many≤20){i j h:Nat}{c d:PM.Cr}(hij:i≠j)(hi:L[i]?=some c)(hj:L[j]?=some d)(h1:h∈c.1):¬h∈d.1:=fun h2=>by
 have h0:0<many:=by
  rcases y1v many with z | z
  ·rw [C.none z] at hi
   simp at hi
  ·exact z
 have e:=(C.cr h0).hs h
 have a:=zhk (l:=L.map fun c=>c.1.count h) (i:=i) (j:=j) (a:=c.1.count h) (b:=d.1.count h) hij (by rw [y0b,hi]; rfl) (by rw [y0b,hj]; rfl)
 have p1:=y2s.mpr h1
 have p2:=y2s.mpr h2
 rw [e] at a
 split at a<;>omega
def RowsOk (n many:Nat)(drs:List (List Nat)):Prop:=drs.length=n∧∀r∈drs,r ≠ []∧r.Pairwise (· < ·)∧∀h∈r,h<many
theorem RowsOk.doOk {n many:Nat}{drs:List (List Nat)}{ws:List Int}(h:RowsOk n many drs)(hw:ws.length=n)(hm:many≤20):DoOk ws drs many:=by
 have look:∀c<ws.length,z6s drs c∈drs:=fun c hc=>by
  have hc':c<drs.length:=by rw [h.1]; omega
  have e:z6s drs c=drs[c]:=by unfold z6s; simp [y1j,y01 hc']
  rw [e]
  exact y48 hc'
 exact⟨hm,fun c hc=>(h.2 _ (look c hc)).1,fun c hc=>(h.2 _ (look c hc)).2.2⟩
theorem RowsOk.row {n many:Nat}{drs:List (List Nat)}(h:RowsOk n many drs)(hm:many≤20):∀r∈drs,r.length≤20:=fun r hr=>y19 (z1h (h.2 r hr).2.1 (h.2 r hr).2.2) hm
theorem zl9 (ds:List PyData):PyData.eqv (.list ds) (.list [])=ds.isEmpty:=by
 cases ds with
 | nil=>exact z4r (zh9 (n:=59) fun d hd=>by cases hd)
 | cons d ds=>simp [PyData.eqv,PyData.eqvAll]
def RowOk (many:Nat)(r:List Nat):Prop:=r.Pairwise (· < ·)∧∀h∈r,h<many
theorem RowOk.add {k many:Nat}{r:List Nat}(h:r.Pairwise (· < ·)∧∀x∈r,x<k):(r ++ [k]).Pairwise (· < ·)∧∀x∈r ++ [k],x<k+1:=by
 refine⟨List.pairwise_append.mpr ⟨h.1,y5b _ _,fun x hx y hy=>?_⟩,fun x hx=>?_⟩
 ·rw [y0a.mp hy]
  exact h.2 x hx
 ·rcases y0u.mp hx with hx | hx
  ·have:=h.2 x hx
   omega
  ·rw [y0a.mp hx]
   omega
end My
set_option Elab.async false
set_option linter.all false
set_option maxRecDepth 100000
namespace My
open PySem L2 L2.EX
section
variable {ws:List Int}{drs:List (List Nat)}{many:Nat}{L:List PM.Cr}{ps:List (Int×Int)}
theorem zbg {n d k t:Int}(hg:y13 n d=1)(h:n*k=t*d):d∣k:=by
 have h1:d∣n*k:=⟨t,by rw [h,y1g]⟩
 have hg':y6x d.natAbs n.natAbs:=by
  have:y13 d n=1:=by rw [y3f]; exact hg
  exact this
 have h2:d.natAbs∣n.natAbs*k.natAbs:=by
  rw [←y2b]
  exact y24.mpr h1
 exact y24.mp (hg'.dvd_of_dvd_mul_left h2)
theorem zmc (hp:∀x∈ws,1≤x)(c:PM.Cr):0≤PM.tot (z4b ws) c:=by
 unfold PM.tot
 refine PM.sum_nn fun i x hx=>?_
 obtain⟨y,_,rfl⟩:=y22.mp (y03 hx)
 exact y1p (zcz hp y)
theorem LayOk.part (lo:LayOk ws L ps)(co:CrOk ws drs many L)(hm:many≤20)(hp:∀x∈ws,1≤x)(hb:∀x∈ws,Bd 300 x)(hw:ws.length≤20){i:Nat}{c:PM.Cr}{p:Int×Int}(hc:L[i]?=some c)(hi:ps[i]?=some p):Low p∧0≤p.1∧p.2≤20∧Bd 400 p.1:=by
 obtain⟨low,e⟩:=lo.at_ i c p hc hi
 obtain⟨l1,l2,ne,r1,r2⟩:=co.lt (y03 hc)
 have cpos:=y0t.mpr ne
 have cl:=z1h r1 l1
 have cl2:=z1h r2 l2
 have t0:=zmc hp c
 have d1:=low.1
 have dv:=zbg low.2 e
 have d20:p.2≤(c.1.length:Int):=y7b (by omega) dv
 have n0:0≤p.1:=by
  rcases y2p p.1 0 with z | z
  ·have a:p.1*(c.1.length:Int)<0:=Int.mul_neg_of_neg_of_pos z (by omega)
   have b:0≤PM.tot (z4b ws) c*p.2:=y1r t0 (by omega)
   omega
  ·exact z
 have etot:z30 ws c.2=PM.tot (z4b ws) c:=by
  unfold z30 PM.tot
  rw [y0v fun x hx=>?_]
  unfold z4b
  rw [if_pos (l2 x hx)]
 have wb:=(zf4 hb (chores:=c.2) (by omega) l2).le (show 300+c.2.length≤320 by omega)
 rw [etot] at wb
 have b2:Bd 325 (PM.tot (z4b ws) c*p.2):=Bd.mul (m:=320) (n:=5) wb (by show _<_; omega)
 refine⟨low,n0,by omega,(b2.le (by decide)).of_le ?_⟩
 rw [←e]
 have:p.1≤p.1*(c.1.length:Int):=by
  have:=y2t (show(1:Int)≤(c.1.length:Int) by omega) n0
  omega
 have:0≤p.1*(c.1.length:Int):=y1r n0 (by omega)
 omega
theorem LayOk.falls (lo:LayOk ws L ps)(co:CrOk ws drs many L)(hp:∀x∈ws,1≤x){i:Nat}{c d:PM.Cr}{p q:Int×Int}(hc:L[i]?=some c)(hd:L[i+1]?=some d)(h1:ps[i]?=some p)(h2:ps[i+1]?=some q):q.1*p.2<p.1*q.2:=by
 have h0:0<many:=by
  rcases y1v many with z | z
  ·rw [co.none z] at hc
   simp at hc
  ·exact z
 have f:=PM.Crowds.fall (zcz hp) (co.cr h0) hc hd
 obtain⟨lp,ep⟩:=lo.at_ i c p hc h1
 obtain⟨lq,eq⟩:=lo.at_ (i+1) d q hd h2
 have nc:=y0t.mpr (co.lt (y03 hc)).2.2.1
 have nd:=y0t.mpr (co.lt (y03 hd)).2.2.1
 have p2:=lp.1
 have q2:=lq.1
 have m:0<p.2*q.2:=y3p (by omega) (by omega)
 have a:=y2c f m
 have e1:PM.tot (z4b ws) d*(c.1.length:Int)*(p.2*q.2)=(q.1*p.2)*((c.1.length:Int)*d.1.length):=by grind
 have e2:PM.tot (z4b ws) c*(d.1.length:Int)*(p.2*q.2)=(p.1*q.2)*((c.1.length:Int)*d.1.length):=by grind
 rw [e1,e2] at a
 exact y2y a (y1r (by omega) (by omega))
def z7w (L:List PM.Cr)(i:Nat):List Nat:=(L.take i).flatMap (·.1)
def z91 (L:List PM.Cr)(i:Nat):List Nat:=(L.take i).flatMap (·.2)
theorem z8z (co:CrOk ws drs many L)(h0:0<many):(z7w L L.length).Perm (y0c many):=by
 rw [y61]
 intro h
 unfold z7w
 rw [y05 (y07 _),y4u,y4a]
 exact(co.cr h0).hs h
theorem zbp (co:CrOk ws drs many L)(h0:0<many):(z91 L L.length).Perm (y0c ws.length):=by
 rw [y61]
 intro h
 unfold z91
 rw [y05 (y07 _),y4u,y4a]
 exact(co.cr h0).cs h
end
theorem z5x (l:List Nat):Sh 60 (z3k l):=(zh9 (n:=0) fun d hd=>by
 obtain⟨x,_,rfl⟩:=y22.mp hd
 exact zk6 _).le (by decide)
theorem ziy {n:Nat}{τ:St}{Q:VK}{H:Hp}(hn:n≤20)(hd:∀l,H l=none→Q (.ref l) (upd H l (.lst (z09 (y0c n))))):z6r (Itr 0 n) (z4f 0) zm1 (xV 0) (none :: τ) Q H:=by
 refine z6k (fun i ys H2=>H2=H∧ys=z09 (y0c i)) ⟨rfl,rfl⟩ (z0l (by omega)) ?_ ?_ ?_
 ·rintro i ys H2 hi ⟨rfl,rfl⟩
  rw [z0n,y2u]
  omega
 ·rintro i ys H2 hi ⟨rfl,rfl⟩
  dsimp only [z4f,zm1,xV,sg,List.set]
  refine z8c (CNx.mk ⟨rfl,?_⟩ hi)
  rw [y3h,show(0:Int)+(i:Int)=(i:Int) by omega]
  unfold z09
  rw [y0h]
  rfl
 ·rintro ys H2 ⟨rfl,rfl⟩ l hl'
  exact hd l hl'
end My
set_option Elab.async false
set_option linter.all false
set_option maxRecDepth 100000
namespace My
open PySem L2 L2.EX
def QOk (qs:List (Int×Int)):Prop:=∀q∈qs,1≤q.2∧q.2≤20∧0≤q.1∧Bd 400 q.1
end My
set_option linter.all false
namespace PM
theorem z5n {α:Type}(f:α→List Nat)(g:Nat→Int):∀L:List α,((L.flatMap f).map g).sum=(L.map fun c=>((f c).map g).sum).sum
 | []=>rfl
 | c::r=>by rw [List.flatMap_cons,y0h,y1t,y0m,y0n,z5n f g r]
theorem z5i {l m:List Nat}(g:Nat→Int)(h:l.Perm m):(l.map g).sum=(m.map g).sum:=by
 induction h with
 | nil=>rfl
 | cons x _ ih=>rw [y0m,y0m,y0n,y0n,ih]
 | swap x y l=>simp only [y0m,y0n]; omega
 | trans _ _ a b=>exact a.trans b
theorem z68 {α:Type}{f g:α→Int}:∀{l:List α},(∀x∈l,f x≤g x)→(l.map f).sum≤(l.map g).sum
 | [],_=>y23 _
 | x::r,h=>by
  rw [y0m,y0m,y0n,y0n]
  have a:=h x y0d
  have b:=z68 fun y hy=>h y (y08 x hy)
  omega
theorem sum_mulR {α:Type}(f:α→Int)(k:Int):∀l:List α,(l.map f).sum*k=(l.map fun x=>f x*k).sum
 | []=>by simp
 | x::r=>by rw [y0m,y0m,y0n,y0n,y4l,sum_mulR f k r]
def SH (many:Nat)(T:Nat→Bool)(x:Nat→Int):Int:=((y0c many).map fun h=>if T h then x h else 0).sum
def IW (wk:Nat→Int)(dr:Nat→List Nat)(chores:Nat)(T:Nat→Bool):Int:=((y0c chores).map fun k=>if (dr k).all T then wk k else 0).sum
structure Sol (wk:Nat→Int)(dr:Nat→List Nat)(many chores:Nat)(M:Int)(L:List Cr)(x:Nat→Int):Prop where
 hp:(L.flatMap (·.1)).Perm (y0c many)
 cp:(L.flatMap (·.2)).Perm (y0c chores)
 hi:∀c∈L,Hi wk dr c (tot wk c) c.1.length
 ne:∀c∈L,c.1 ≠ []
 eq:∀c∈L,∀h∈c.1,x h*c.1.length=tot wk c*M
 up:∀(i:Nat) c,L[i]?=some c→∀k∈c.2,∀h∈dr k,∃(j:Nat) (d:Cr),j≤i∧L[j]?=some d∧h∈d.1
 fall:∀(i:Nat) c d,L[i]?=some c→L[i+1]?=some d→∀h∈c.1,∀g∈d.1,x g<x h
 wp:∀k,0<wk k
 mp:0<M
section
variable {wk:Nat→Int}{dr:Nat→List Nat}{many chores:Nat}{M:Int}{L L':List Cr}{x x':Nat→Int}
theorem Sol.len (S:Sol wk dr many chores M L x){c:Cr}(hc:c∈L):(0:Int)<c.1.length:=by
 have:=y0t.mpr (S.ne c hc)
 omega
theorem Sol.same (S:Sol wk dr many chores M L x){c:Cr}(hc:c∈L){h g:Nat}(hh:h∈c.1)(hg:g∈c.1):x h=x g:=by
 have a:=S.eq c hc h hh
 have b:=S.eq c hc g hg
 exact y1b (by have:=S.len hc; omega) (a.trans b.symm)
theorem Sol.borne (S:Sol wk dr many chores M L x)(T:Nat→Bool):IW wk dr chores T*M≤SH many T x:=by
 unfold IW SH
 rw [←z5i _ S.cp,←z5i _ S.hp,z5n,z5n,sum_mulR]
 refine z68 fun c hc=>?_
 have hn:=S.len hc
 obtain⟨h0,r0,e0⟩:=y2g (S.ne c hc)
 have m0:h0∈c.1:=by rw [e0]; exact y0d
 have ex:=S.eq c hc h0 m0
 have one:(c.2.map fun k=>if (dr k).all T then wk k else 0).sum≤z6q wk dr c T:=by
  unfold z6q
  refine z68 fun k hk=>?_
  have wpk:=S.wp k
  by_cases a:(dr k).all T=true
  ·have b:(c.1.all fun h=>(!(dr k).contains h||T h))=true:=y27.mpr fun h hh=>by
    cases q:(dr k).contains h with
    | false=>rfl
    | true =>
     have:=y27.mp a h (y21.mp q)
     rw [this]
     rfl
   rw [if_pos a,if_pos b]
   exact y23 _
  ·rw [if_neg a]
   split<;>omega
 have two:(c.1.map fun h=>if T h then x h else 0).sum=x h0*cnt c T:=by
  unfold cnt
  rw [mul_sum]
  congr 1
  refine y0v fun h hh=>?_
  rw [S.same hc hh m0]
  split<;>simp
 rw [two]
 have thr:=S.hi c hc T
 refine y3c (y2o one (by have:=S.mp; omega)) ?_
 refine y3l (a:=(c.1.length:Int)) ?_ hn
 have e1:x h0*cnt c T*(c.1.length:Int)=tot wk c*cnt c T*M:=by
  rw [y2f,ex,y2f]
 rw [e1,y2f,y1g (z6q wk dr c T) _]
 exact y2o thr (by have:=S.mp; omega)
theorem Sol.falls (S:Sol wk dr many chores M L x):∀(n i:Nat) {c d:Cr},L[i]?=some c→L[i+n]?=some d→∀h∈c.1,∀g∈d.1,x g≤x h
 | 0,i,c,d,hc,hd,h,hh,g,hg=>by
  rw [Nat.add_zero,hc] at hd
  cases hd
  have:=S.same (y03 hc) hh hg
  omega
 | n+1,i,c,d,hc,hd,h,hh,g,hg=>by
  have hlt:=(y00.mp hd).1
  have he:L[i+n]?=some (L[i+n]'(by omega)):=y01 (by omega)
  obtain⟨g0,r0,e0⟩:=y2g (S.ne _ (y03 he))
  have m0:g0∈(L[i+n]'(by omega)).1:=by rw [e0]; exact y0d
  have a:=S.falls n i hc he h hh g0 m0
  have b:=S.fall (i+n) _ _ he hd g0 m0 g hg
  omega
theorem Sol.tight (S:Sol wk dr many chores M L x)(v:Int):SH many (fun h=>decide (v≤x h)) x≤IW wk dr chores (fun h=>decide (v≤x h))*M:=by
 unfold IW SH
 rw [←z5i _ S.cp,←z5i _ S.hp,z5n,z5n,sum_mulR]
 refine z68 fun c hc=>?_
 obtain⟨i,hi⟩:=y0f hc
 have hn:=S.len hc
 obtain⟨h0,r0,e0⟩:=y2g (S.ne c hc)
 have m0:h0∈c.1:=by rw [e0]; exact y0d
 by_cases q:v≤x h0
 ·have one:(c.1.map fun h=>if decide (v≤x h)=true then x h else 0).sum=x h0*(c.1.length:Int):=by
   have:(c.1.map fun h=>if decide (v≤x h)=true then x h else 0)=c.1.map fun _=>x h0*1:=y0v fun h hh=>by
    rw [S.same hc hh m0,if_pos (decide_eq_true q),y57]
   rw [this,←mul_sum]
   congr 1
   clear this e0 m0 hi hn hc
   induction c.1 with
   | nil=>rfl
   | cons y r ih=>rw [y0m,y0n,ih,y11]; omega
  have two:(c.2.map fun k=>if (dr k).all (fun h=>decide (v≤x h))=true then wk k else 0).sum=tot wk c:=by
   unfold tot
   congr 1
   refine y0v fun k hk=>if_pos (y27.mpr fun h hh=>decide_eq_true ?_)
   obtain⟨j,d,hj,hd,hin⟩:=S.up i c hi k hk h hh
   have:=S.falls (i - j) j hd (by rw [show j+(i - j)=i by omega]; exact hi) h hin h0 m0
   omega
  rw [one,two,S.eq c hc h0 m0]
  exact y23 _
 ·have one:(c.1.map fun h=>if decide (v≤x h)=true then x h else 0).sum=0:=by
   have:(c.1.map fun h=>if decide (v≤x h)=true then x h else 0)=c.1.map fun _=>0:=y0v fun h hh=>by
    rw [S.same hc hh m0,if_neg (fun z=>q (of_decide_eq_true z))]
   rw [this]
   clear this e0 m0 hi hn hc
   induction c.1 with
   | nil=>rfl
   | cons y r ih=>rw [y0m,y0n,ih]; rfl
  rw [one]
  refine y1r ?_ (by have:=S.mp; omega)
  have:((c.2.map fun _=>(0:Int))).sum≤(c.2.map fun k=>if (dr k).all (fun h=>decide (v≤x h))=true then wk k else 0).sum:=z68 fun k _=>by
   have:=S.wp k
   split<;>omega
  have z:∀l:List Nat,(l.map fun _=>(0:Int)).sum=0:=fun l=>by
   induction l with
   | nil=>rfl
   | cons y r ih=>rw [y0m,y0n,ih]; rfl
  rw [z] at this
  exact this
end
end PM
set_option Elab.async false
set_option linter.all false
set_option maxRecDepth 100000
namespace My
open PySem L2 L2.EX
def zdr:List (Int×Int)→Int
 | []=>1
 | p::r=>p.2*zdr r
theorem zas:∀{ps:List (Int×Int)},(∀p∈ps,1≤p.2)→0<zdr ps
 | [],_=>by decide
 | p::r,h=>by
  have a:=h p y0d
  have b:=zas fun q hq=>h q (y08 _ hq)
  show 0<p.2*zdr r
  exact y3p (by omega) b
theorem z7i:∀{ps:List (Int×Int)} {p:Int×Int},p∈ps→p.2∣zdr ps
 | q::r,p,h=>by
  show p.2∣q.2*zdr r
  rcases y0k.mp h with rfl | h
  ·exact y55 _ _
  ·exact y36 (z7i h) (y5e _ _)
theorem zmi {p q:Int×Int}(l1:Low p)(l2:Low q)(e:p.1*q.2=q.1*p.2):p=q:=by
 have a:=(z9l l1.2 e).1
 have b:=(z9l l2.2 e.symm).1
 have h1:=l1.1
 have h2:=l2.1
 have e2:p.2=q.2:=Int.dvd_antisymm (by omega) (by omega) a b
 rw [e2] at e
 have e1:=y1b (by omega) e
 exact Prod.ext e1 e2
def xOf (qs:List (Int×Int))(M:Int)(h:Nat):Int:=(qs.getD h (0,1)).1*(M / (qs.getD h (0,1)).2)
theorem zcc {qs:List (Int×Int)}{M:Int}{h:Nat}{p:Int×Int}(hp:qs[h]?=some p)(hd:p.2∣M):xOf qs M h*p.2=p.1*M:=by
 unfold xOf
 rw [y0o,hp]
 show p.1*(M / p.2)*p.2=p.1*M
 rw [y28,y4m hd]
variable {ws:List Int}{drs:List (List Nat)}{many:Nat}{L L':List PM.Cr}{ps ps' qs qs':List (Int×Int)}
theorem z98 {α:Type}{f:PM.Cr→List α}:(L.take L.length).flatMap f=L.flatMap f:=by rw [y05 (y07 _)]
theorem LoadOk.of_hand (lk:LoadOk many L ps qs)(lo:LayOk ws L ps)(co:CrOk ws drs many L)(h0:0<many){h:Nat}(hh:h<many):∃(i:Nat) (c:PM.Cr) (p:Int×Int),L[i]?=some c∧ps[i]?=some p∧h∈c.1∧qs[h]?=some p:=by
 have hm:h∈z7w L L.length:=(z8z co h0).mem_iff.mpr (y1n.mpr hh)
 unfold z7w at hm
 rw [z98] at hm
 obtain⟨c,hc,hin⟩:=y4b.mp hm
 obtain⟨i,hi⟩:=y0f hc
 have hil:=(y00.mp hi).1
 have hp:ps[i]?=some (ps[i]'(by rw [lo.len]; exact hil)):=y01 _
 exact⟨i,c,_,hi,hp,hin,lk.at_ i c _ hi hp h hin⟩
theorem LoadOk.sol (lk:LoadOk many L ps qs)(lo:LayOk ws L ps)(co:CrOk ws drs many L)(h0:0<many)(hp:∀x∈ws,1≤x){M:Int}(hM:0<M)(hd:∀p∈ps,p.2∣M):PM.Sol (z4b ws) (z6s drs) many ws.length M L (xOf qs M):=by
 have K:=co.cr h0
 have pick:∀{i:Nat} {c:PM.Cr},L[i]?=some c→∃p,ps[i]?=some p∧p.2∣M∧Low p∧p.1*(c.1.length:Int)=PM.tot (z4b ws) c*p.2∧∀h∈c.1,xOf qs M h*p.2=p.1*M:=fun {i c} hi=>by
  have hil:=(y00.mp hi).1
  have hp:ps[i]?=some (ps[i]'(by rw [lo.len]; exact hil)):=y01 _
  have a:=lo.at_ i c _ hi hp
  have d:=hd _ (y03 hp)
  exact⟨_,hp,d,a.1,a.2,fun h hh=>zcc (lk.at_ i c _ hi hp h hh) d⟩
 refine⟨by have:=z8z co h0; unfold z7w at this; rwa [z98] at this,by have:=zbp co h0; unfold z91 at this; rwa [z98] at this,fun c hc=>co.rst c hc,K.ne,fun c hc h hh=>?_,K.up,fun i c d hc hd' h hh g hg=>?_,fun k=>zcz hp k,hM⟩
 ·obtain⟨i,hi⟩:=y0f hc
  obtain⟨p,_,_,low,e,ex⟩:=pick hi
  have ex:=ex h hh
  refine y1b (a:=p.2) (by have:=low.1; omega) ?_
  rw [y2f,ex,y2f,e,y2f]
 ·obtain⟨p,hp1,_,low,_,ex⟩:=pick hc
  obtain⟨q,hq1,_,low',_,ey⟩:=pick hd'
  have ex:=ex h hh
  have ey:=ey g hg
  have f:=lo.falls co hp hc hd' hp1 hq1
  have l1:=low.1
  have l2:=low'.1
  have pos:0<p.2*q.2:=y3p (by omega) (by omega)
  refine y2y (a:=p.2*q.2) ?_ (by omega)
  have a1:xOf qs M g*(p.2*q.2)=q.1*p.2*M:=by
   rw [y1g p.2 q.2,←y28,ey,y2f]
  have a2:xOf qs M h*(p.2*q.2)=p.1*q.2*M:=by
   rw [←y28,ex,y2f]
  rw [a1,a2]
  exact y2c f hM
theorem LoadOk.qok (lk:LoadOk many L ps qs)(lo:LayOk ws L ps)(co:CrOk ws drs many L)(h0:0<many)(hm:many≤20)(hp:∀x∈ws,1≤x)(hb:∀x∈ws,Bd 300 x)(hw:ws.length≤20):QOk qs∧∀q∈qs,Low q:=by
 have all:∀q∈qs,Low q∧0≤q.1∧q.2≤20∧Bd 400 q.1:=fun q hq=>by
  obtain⟨h,hh⟩:=y0f hq
  have hl:=(y00.mp hh).1
  rw [lk.len] at hl
  obtain⟨i,c,p,h1,h2,h3,h4⟩:=lk.of_hand lo co h0 hl
  rw [hh] at h4
  cases h4
  exact lo.part co hm hp hb hw h1 h2
 exact⟨fun q hq=>⟨(all q hq).1.1,(all q hq).2.2.1,(all q hq).2.1,(all q hq).2.2.2⟩,fun q hq=>(all q hq).1⟩
end My
set_option Elab.async false
set_option linter.all false
set_option maxRecDepth 100000
namespace My
open PySem L2 L2.EX
section
variable {H H' H'':Hp}{vs us:List V}{l:Addr}{o:HO}
end
end My
namespace My
open PySem L2 L2.EX
variable {L:List PM.Cr}{many:Nat}
end My
namespace My
open PySem L2 L2.EX
end My
set_option linter.all false
namespace PM
def ab (l:List Int)(T:Int):Int:=(l.map fun x=>if T<x then x - T else 0).sum
theorem sum_addI {α:Type}(f g:α→Int):∀l:List α,(l.map fun x=>f x+g x).sum=(l.map f).sum+(l.map g).sum
 | []=>rfl
 | x::r=>by
  simp only [y0m,y0n,sum_addI f g r]
  omega
theorem zdl {α:Type}(f g:α→Int):∀l:List α,(l.map fun x=>f x - g x).sum=(l.map f).sum - (l.map g).sum
 | []=>rfl
 | x::r=>by
  simp only [y0m,y0n,zdl f g r]
  omega
theorem sum_zeroI {α:Type}:∀l:List α,(l.map fun _=>(0:Int)).sum=0
 | []=>rfl
 | x::r=>by rw [y0m,y0n,sum_zeroI r]; rfl
section
variable {wk:Nat→Int}{dr:Nat→List Nat}{many chores:Nat}{M:Int}{L:List Cr}{x o:Nat→Int}
end
end PM
set_option Elab.async false
set_option linter.all false
set_option maxRecDepth 100000
namespace My
open PySem L2 L2.EX
section
variable {X:Cx}{o e:Expr}{es:List Expr}{ta:TE}{t:TA}{apos cpos:Pos}
end
def vl (M:Int)(p:Int×Int):Int:=p.1*(M / p.2)
theorem zk3 {M:Int}{p:Int×Int}(h:p.2∣M):vl M p*p.2=p.1*M:=by
 unfold vl
 rw [y28,y4m h]
def FOk (p:Int×Int):Prop:=1≤p.2∧p.2≤60∧0≤p.1∧Bd 400 p.1
def zqh (lv a p:Int×Int):Int×Int:=if 0<p.1*lv.2 - lv.1*p.2 then (a.1*p.2*lv.2+(p.1*lv.2 - lv.1*p.2)*a.2,a.2*p.2*lv.2) else a
def zpi (qs:List (Int×Int))(lv:Int×Int):Int×Int:=qs.foldl (zqh lv) (0,1)
theorem zap {A B:Hp}{b:Addr}(s:Same A B)(h:B b=none):A b=none:=by
 cases hz:A b with
 | none=>rfl
 | some o=>rw [s _ _ hz] at h; cases h
structure SS (way c size j:Nat)(lf:Int)(ss:List Int):Prop where
 len:ss.length=size
 nn:∀x∈ss,0≤x
 sum:ss.sum+lf=60
 lf0:0≤lf
 zero:∀i,j≤i→i<size→ss[i]?=some 0
 w1:way=1→lf=if c<j then 0 else 60
 w2:way=2→lf=60 - (j:Int)*(60 / (size:Int))
theorem zg3:∀{l:List Int},(∀x∈l,0≤x)→0≤l.sum
 | [],_=>by decide
 | x::r,h=>by
  rw [y0n]
  have:=h x y0d
  have:=zg3 fun y hy=>h y (y08 _ hy)
  omega
theorem zjf:∀{l:List Int},(∀x∈l,0≤x)→∀x∈l,x≤l.sum
 | y::r,h,x,hx=>by
  rw [y0n]
  have a:=h y y0d
  have b:=zg3 fun z hz=>h z (y08 _ hz)
  rcases y0k.mp hx with rfl | hx
  ·omega
  ·have:=zjf (fun z hz=>h z (y08 _ hz)) x hx
   omega
theorem zha (F F':Nat→Int)(g:Nat)(h:∀k,k≠g→F' k=F k):∀n:Nat,((y0c n).map F').sum=((y0c n).map F).sum+(if g<n then F' g - F g else 0)
 | 0=>by simp
 | n+1=>by
  rw [y3h,y0h,y0h,y1t,y1t,zha F F' g h n]
  simp only [y0m,y35,y0n,y5s,y3d]
  by_cases c:n=g
  ·subst c
   rw [if_neg (y2k _),if_pos (y2z _)]
   omega
  ·rw [h n c]
   by_cases d:g<n
   ·rw [if_pos d,if_pos (by omega)]
    omega
   ·rw [if_neg d,if_neg (by omega)]
    omega
def zs (T:Nat→Bool)(w:Int)(l:List (Nat×Int)):Int:=(l.map fun p=>if T p.1 then w*p.2 else 0).sum
structure Cmp (M:Int)(qs oq:List (Int×Int))(ws:List Int):Prop where
 hM:0<M
 qok:∀p∈qs,FOk p∧p.2∣M
 ook:∀p∈oq,FOk p∧p.2∣M
 len:qs.length=oq.length
 ab:∀T,PM.ab (qs.map (vl M)) T≤PM.ab (oq.map (vl M)) T
 sq:(qs.map fun p=>vl M p*vl M p).sum≤(oq.map fun p=>vl M p*vl M p).sum
 tot:(zpi qs (0,1)).1=ws.sum*(zpi qs (0,1)).2
end My
set_option Elab.async false
set_option linter.all false
set_option maxRecDepth 100000
namespace My
open PySem L2 L2.EX
structure Turned (gs ts:List Int)(ties:List (Nat×Nat))(bg bt:List Nat)(m:Nat)(gs2 ts2:List Int)(turned some':List (Nat×Nat)):Prop where
 hbg:bg.Perm (y0c gs.length)
 hbt:bt.Perm (y0c ts.length)
 lg:gs2.length=gs.length+m
 lt:ts2.length=ts.length+m
 g1:∀e<gs.length,gs2.getD e 0=gs.getD (bg.getD e 0) 0
 g2:∀e,gs.length≤e→gs2.getD e 0=0
 t1:∀e<ts.length,ts2.getD e 0=ts.getD (bt.getD e 0) 0
 t2:∀e,0≤ts2.getD e 0
 hA:∀p'∈turned,∃p∈ties,bg[p'.1]?=some p.1∧bt[p'.2]?=some p.2
 hB:∀p∈ties,∃p'∈turned,bg[p'.1]?=some p.1∧bt[p'.2]?=some p.2
 hs:∀p∈some',gs.length≤p.1∧p.1<gs.length+m∧p.2<ts.length
section
variable {gs ts gs2 ts2 sent spare steps sent' spare' steps':List Int}{ties turned some':List (Nat×Nat)}{bg bt:List Nat}{m:Nat}
end
theorem zeg (l:List Nat):z09 l=(l.map fun (n:Nat)=>(n:Int)).map V.int:=by unfold z09; rw [y2a]; rfl
structure TurnP (ties:List (Nat×Nat))(bg bt bi:List Nat)(tn:List (Nat×Nat)):Prop where
 at_:∀(k:Nat) p',tn[k]?=some p'→∃(a:Nat) (p:Nat×Nat),bi[k]?=some a∧ties[a]?=some p∧bg[p'.1]?=some p.1∧bt[p'.2]?=some p.2
end My
set_option linter.all false
namespace PM
structure Ev (own:(Nat→Bool)→Int)(many:Nat)(x:Nat→Int):Prop where
 borne:∀T,own T≤SH many T x
 tight:∀v:Int,SH many (fun h=>decide (v≤x h)) x≤own fun h=>decide (v≤x h)
section
variable {wk:Nat→Int}{dr:Nat→List Nat}{chores:Nat}
theorem IW_more (T:Nat→Bool):IW wk dr (chores+1) T=IW wk dr chores T+(if (dr chores).all T then wk chores else 0):=by
 unfold IW
 rw [y3h,y0h,y1t]
 simp only [y0m,y35,y0n,y5s,y3d]
theorem IW_congr {wk':Nat→Int}{dr':Nat→List Nat}{T T':Nat→Bool}(h:∀k<chores,(if (dr k).all T then wk k else 0)=(if (dr' k).all T' then wk' k else 0)):IW wk dr chores T=IW wk' dr' chores T':=by
 unfold IW
 congr 1
 exact y0v fun k hk=>h k (y1n.mp hk)
end
theorem zin {many:Nat}{T T':Nat→Bool}{x x':Nat→Int}(h:∀g<many,T g=T' g∧x g=x' g):SH many T x=SH many T' x':=by
 unfold SH
 congr 1
 refine y0v fun g hg=>?_
 rw [(h g (y1n.mp hg)).1,(h g (y1n.mp hg)).2]
theorem Ev.all {own:(Nat→Bool)→Int}{many:Nat}{x:Nat→Int}(hc:∀T T':Nat→Bool,(∀h<many,T h=T' h)→own T=own T')(E:Ev own many x)(nn:∀h<many,0≤x h):SH many (fun _=>true) x=own fun _=>true:=by
 have a:=E.borne fun _=>true
 have b:=E.tight 0
 have e:∀h<many,decide (0≤x h)=true:=fun h hh=>decide_eq_true (nn h hh)
 rw [hc _ (fun _=>true) e,zin (T':=fun _=>true) (x':=x) fun g hg=>⟨e g hg,rfl⟩] at b
 omega
theorem Sol.ev {wk:Nat→Int}{dr:Nat→List Nat}{many chores:Nat}{M:Int}{L:List Cr}{x:Nat→Int}(S:Sol wk dr many chores M L x):Ev (fun T=>IW wk dr chores T*M) many x:=⟨S.borne,S.tight⟩
end PM
set_option Elab.async false
set_option linter.all false
set_option maxRecDepth 100000
namespace L2.EX
section
variable {X:Cx}
open PySem
def zpk (x y:V)(H:Hp)(Q:VK):Prop:=match y with
 | .non=>Q (.bl (!decide (x = .non))) H
 | _=>False
end
end L2.EX
namespace My
open PySem L2 L2.EX
def zjk (ws:List Int)(drs:List (List Nat))(M:Int)(T:Nat→Bool):Int:=PM.IW (z4b ws) (z6s drs) ws.length T*M
def zpm (p:Int×Int):Prop:=Low p∧0≤p.1∧p.2≤20∧Bd 400 p.1
structure Borns (ws:List Int)(drs:List (List Nat))(many:Nat)(qs:List (Int×Int)):Prop where
 len:qs.length=many
 ok:∀q∈qs,zpm q
 ev:∃D:Int,0<D∧(∀q∈qs,q.2∣D)∧∀M:Int,0<M→D∣M→PM.Ev (zjk ws drs M) many (xOf qs M)
theorem zi5 {ws:List Int}{drs:List (List Nat)}{many:Nat}{L:List PM.Cr}{ps qs:List (Int×Int)}(co:CrOk ws drs many L)(lo:LayOk ws L ps)(lk:LoadOk many L ps qs)(h0:0<many)(hm:many≤20)(hp:∀x∈ws,1≤x)(hb:∀x∈ws,Bd 300 x)(hw:ws.length≤20):Borns ws drs many qs:=by
 obtain⟨qok,qlow⟩:=lk.qok lo co h0 hm hp hb hw
 have low:∀p∈ps,1≤p.2:=fun p hp=>by
  obtain⟨i,hi⟩:=y0f hp
  have hil:=(y00.mp hi).1
  rw [lo.len] at hil
  exact(lo.at_ i _ p (y01 hil) hi).1.1
 refine⟨lk.len,fun q hq=>⟨qlow q hq,(qok q hq).2.2.1,(qok q hq).2.1,(qok q hq).2.2.2⟩,zdr ps,zas low,fun q hq=>?_,fun M hM hd=>?_⟩
 ·obtain⟨h,hh⟩:=y0f hq
  have hl:=(y00.mp hh).1
  rw [lk.len] at hl
  obtain⟨i,c,p,_,h2,_,h4⟩:=lk.of_hand lo co h0 hl
  rw [hh] at h4
  cases h4
  exact z7i (y03 h2)
 ·exact(lk.sol lo co h0 hp hM fun p hp=>y36 (z7i hp) hd).ev
theorem zgs {ws:List Int}{drs:List (List Nat)}{M:Int}{many:Nat}(dk:DoOk ws drs many):∀T T':Nat→Bool,(∀h<many,T h=T' h)→zjk ws drs M T=zjk ws drs M T':=fun T T' e=>by
 unfold zjk
 rw [PM.IW_congr (T':=T') fun k hk=>?_]
 have:(z6s drs k).all T=(z6s drs k).all T':=by
  rw [y2m,y27,y27]
  exact⟨fun z h hh=>by rw [←e h (dk.lt k hk h hh)]; exact z h hh,fun z h hh=>by rw [e h (dk.lt k hk h hh)]; exact z h hh⟩
 rw [this]
theorem Borns.x {ws:List Int}{drs:List (List Nat)}{many:Nat}{qs:List (Int×Int)}(t:Borns ws drs many qs){M:Int}(hd:∀q∈qs,q.2∣M){h:Nat}(hh:h<many):∃q,qs[h]?=some q∧zpm q∧xOf qs M h*q.2=q.1*M:=by
 have hq:qs[h]?=some (qs[h]'(by rw [t.len]; exact hh)):=y01 _
 exact⟨_,hq,t.ok _ (y03 hq),zcc hq (hd _ (y03 hq))⟩
section
variable {ws ws':List Int}{drs drs':List (List Nat)}{many:Nat}{qs qs':List (Int×Int)}
theorem zgn {ws:List Int}{drs:List (List Nat)}:PM.IW (z4b ws) (z6s drs) ws.length (fun _=>true)=ws.sum:=by
 unfold PM.IW
 have e:((y0c ws.length).map fun k=>if (z6s drs k).all (fun _=>true)=true then z4b ws k else 0)=ws:=by
  refine y3j fun i=>?_
  by_cases c:i<ws.length
  ·rw [y0b,y25 c,y01 c]
   simp [z4b,c]
  ·rw [y1a (by rw [y04,y2u]; omega),y1a (by omega)]
 rw [e]
theorem zp7 {ws:List Int}{k:Nat}(h:k<ws.length):z4b ws k=ws.getD k 0:=if_pos h
end
structure TArgs (K:y02)(H:Hp)(a aw ad al:Addr)(ns ws:List Int)(drs:List (List Nat))(many:Nat)(qs:List (Int×Int)):Prop where
 s:SqL K H a (ns.map V.int)
 ask:AsksC K H aw ad ws drs
 rows:RowsOk ws.length many drs
 works:∀x∈ws,x≤10^60+1000
 h0:0<many
 h5:many≤5
 few:ws.length≤6
 isf:Is K H (.ref al) (z56 qs)
 b:Borns ws drs many qs
theorem zca {l:List Nat}{ms:List Int}(hp:ms.Perm (l.map fun (x:Nat)=>(x:Int))):∃r:List Nat,ms.map V.int=z09 r∧r.Perm l:=by
 have e:(ms.map y45).Perm l:=by
  have:=hp.map y45
  rw [y2a] at this
  have i:l.map (y45∘fun (x:Nat)=>(x:Int))=l:=by
   conv=>rhs; rw [←List.map_id l]
   exact y0v fun x _=>by simp
  rw [i] at this
  exact this
 refine⟨ms.map y45,?_,e⟩
 unfold z09
 rw [y2a]
 refine y0v fun x hx=>?_
 obtain⟨n,_,rfl⟩:=y22.mp (hp.mem_iff.mp hx)
 simp
end My
set_option linter.all false
namespace PM
theorem Ev.above {own:(Nat→Bool)→Int}{many:Nat}{x o:Nat→Int}(E:Ev own many x)(ho:∀T:Nat→Bool,own T≤SH many T o)(T:Int):ab ((y0c many).map x) T≤ab ((y0c many).map o) T:=by
 have t:=E.tight (T+1)
 have b:=ho fun h=>decide (T+1≤x h)
 unfold ab
 rw [y2a,y2a]
 have e:∀y:Nat→Int,((y0c many).map fun h=>if decide (T+1≤x h)=true then y h - T else 0).sum=SH many (fun h=>decide (T+1≤x h)) y - SH many (fun h=>decide (T+1≤x h)) (fun _=>T):=fun y=>by
  unfold SH
  rw [←zdl]
  congr 1
  refine y0v fun h _=>?_
  show _=_ - (if decide (T+1≤x h)=true then T else 0)
  split<;>omega
 have e1:((y0c many).map ((fun z=>if T<z then z - T else 0)∘x))=(y0c many).map fun h=>if decide (T+1≤x h)=true then x h - T else 0:=y0v fun h _=>by
  show(if T<x h then x h - T else 0)=_
  by_cases c:T<x h
  ·rw [if_pos c,if_pos (decide_eq_true (by omega))]
  ·rw [if_neg c,if_neg (fun z=>c (by have:=of_decide_eq_true z; omega))]
 have le:((y0c many).map fun h=>if decide (T+1≤x h)=true then o h - T else 0).sum≤((y0c many).map ((fun z=>if T<z then z - T else 0)∘o)).sum:=z68 fun h _=>by
  show _≤(if T<o h then o h - T else 0)
  split<;>split<;>omega
 refine y3c ?_ le
 rw [e1,e x,e o]
 omega
theorem zgk (T:Int):∀l:List Int,l.sum - (l.length:Int)*T≤ab l T∧(0≤ab l T)∧((∃x∈l,x<T)→l.sum - (l.length:Int)*T<ab l T)∧((∀x∈l,T≤x)→l.sum - (l.length:Int)*T=ab l T)∧((∀x∈l,x≤T)→ab l T=0)∧((∃x∈l,T<x)→0<ab l T)
 | []=>⟨by simp [ab],by simp [ab],fun ⟨x,h,_⟩=>(by cases h),fun _=>by simp [ab],fun _=>rfl,fun ⟨x,h,_⟩=>(by cases h)⟩
 | x::r=>by
  obtain⟨a1,a2,a3,a4,a5,a6⟩:=zgk T r
  have e:ab (x::r) T=(if T<x then x - T else 0)+ab r T:=rfl
  have n:(((x::r).length:Nat):Int)*T=(r.length:Int)*T+T:=by
   rw [y11,show((r.length+1:Nat):Int)=(r.length:Int)+1 by omega,y4l,Int.one_mul]
  rw [e,n,y0n]
  refine⟨by split<;>omega,by split<;>omega,?_,?_,?_,?_⟩
  ·rintro⟨y,hy,hlt⟩
   rcases y0k.mp hy with rfl | hy
   ·rw [if_neg (by omega)]; omega
   ·have:=a3 ⟨y,hy,hlt⟩
    split<;>omega
  ·intro h
   have:=a4 fun y hy=>h y (y08 _ hy)
   have:=h x y0d
   split<;>omega
  ·intro h
   have:=a5 fun y hy=>h y (y08 _ hy)
   have:=h x y0d
   rw [if_neg (by omega)]
   omega
  ·rintro⟨y,hy,hlt⟩
   rcases y0k.mp hy with rfl | hy
   ·rw [if_pos hlt]; omega
   ·have:=a6 ⟨y,hy,hlt⟩
    split<;>omega
theorem ends_of {l m:List Int}(hl:l.length=m.length)(hs:l.sum=m.sum)(h:∀T,ab l T≤ab m T){a b c d:Int}(ha:a∈l)(hb:b∈l)(hc:∀y∈m,c≤y)(hd:∀y∈m,y≤d):c≤a∧b≤d:=by
 constructor
 ·by_cases z:c≤a
  ·exact z
  ·have h1:=(zgk c l).2.2.1 ⟨a,ha,by omega⟩
   have h2:=(zgk c m).2.2.2.1 hc
   have:=h c
   rw [hl,hs] at h1
   omega
 ·by_cases z:b≤d
  ·exact z
  ·have h1:=(zgk d l).2.2.2.2.2 ⟨b,hb,by omega⟩
   have h2:=(zgk d m).2.2.2.2.1 hd
   have:=h d
   omega
end PM
set_option Elab.async false
set_option linter.all false
set_option maxRecDepth 100000
namespace My
open PySem L2 L2.EX
theorem zke (ns:List Int)(a n:Nat):∃ms:List Int,zel (ns.map V.int) (some (a:Int)) (some ((a:Int)+(n:Int)))=ms.map V.int∧ms.length≤n∧ms.length≤ns.length:=by
 unfold zel
 rw [show(a:Int)+(n:Int)=((a+n:Nat):Int) by omega,HT.sIx_nat,HT.sIx_nat]
 refine⟨(ns.drop (min a (ns.map V.int).length)).take (min (a+n) (ns.map V.int).length - min a (ns.map V.int).length),?_,?_,?_⟩
 ·rw [y7c,y7d]
 ·rw [y0r,y46]
  omega
 ·rw [y0r,y46]
  omega
def zh2:Sp:=fun vs H Q _=>∃c:Int,vs = [.int c]∧∀z:Int,1≤z→z≤10^60→Q (.int z) H
def zgr:Sp:=fun vs H Q _=>∃(c:Int) (many:Nat) (th:Bool),vs = [.int c,.int (many:Int),.bl th]∧1≤many∧many≤12∧∀(r:Addr) (row:List Nat) (H':Hp),row ≠ []→row.Pairwise (· < ·)→(∀h∈row,h<many)→H r=none→Same H H'→H' r=some (.lst (z09 row))→Q (.ref r) H'
structure CrowdA (K:y02)(H:Hp)(aw ad:Addr)(ws:List Int)(drs:List (List Nat))(many:Nat):Prop where
 ask:AsksC K H aw ad ws drs
 rows:RowsOk ws.length many drs
 works:∀x∈ws,x≤10^60
 h0:0<many
 h12:many≤12
 few:ws.length≤8
theorem CrowdA.same {K:y02}{H H':Hp}{aw ad:Addr}{ws:List Int}{drs:List (List Nat)}{many:Nat}(c:CrowdA K H aw ad ws drs many)(s:Same H H'):CrowdA K H' aw ad ws drs many:=⟨c.ask.same s,c.rows,c.works,c.h0,c.h12,c.few⟩
def zhh (K:y02):Sp:=fun vs H Q _=>∃(a:Addr) (ns:List Int),vs = [.ref a]∧SqL K H a (ns.map V.int)∧ns.length≤63∧∀(p aw ad:Addr) (ws:List Int) (drs:List (List Nat)) (many:Nat) (H':Hp),CrowdA K H' aw ad ws drs many→Same H H'→H' p=some (.tup [.ref aw,.ref ad,.int (many:Int)])→Q (.ref p) H'
theorem zf9 {K:y02}{H:Hp}{lw ld u:Addr}{O:HO}(h1:H lw=none)(h2:upd H lw (.lst []) ld=none)(h3:upd (upd H lw (.lst [])) ld (.lst []) u=none):Two K (upd H u O) (upd (upd (upd H lw (.lst [])) ld (.lst [])) u O) lw ld [] [] [] []∧u≠lw∧u≠ld∧H u=none:=by
 have n1:ld≠lw:=fun z=>by rw [z,z01] at h2; cases h2
 have n2:u≠ld:=fun z=>by rw [z,z01] at h3; cases h3
 have n3:u≠lw:=fun z=>by rw [z,z0a n1.symm,z01] at h3; cases h3
 have hld:H ld=none:=by rw [z0a n1] at h2; exact h2
 have hu:H u=none:=by rw [z0a n2,z0a n3] at h3; exact h3
 refine⟨⟨n1.symm,fun b o hb=>?_,?_,?_,z0t,z0t⟩,n3,n2,hu⟩
 ·by_cases z:b=u
  ·subst z
   rw [z3p n3 n2,z01]
   rw [z01] at hb
   exact hb
  ·rw [z0a z] at hb
   have m1:=z08 hb h1
   have m2:=z08 hb hld
   rw [z3p m1 m2,z0a z,z0a m2,z0a m1]
   exact hb
 ·rw [z0a n3.symm,z0a n1.symm,z01]
 ·rw [z0a n2.symm,z01]
theorem zkb {P:Bool→Prop}{c b:Bool}(h:∀th,P th):if c=true then P true else P b:=by
 split
 ·exact h _
 ·exact h _
theorem zgw {l:List Nat}{ms:List Int}(nd:l.Nodup)(hp:ms.Perm (l.map fun (x:Nat)=>(x:Int)))(hs:ms.Pairwise (·≤·)):∃r:List Nat,ms.map V.int=z09 r∧r.Perm l∧r.Pairwise (· < ·):=by
 obtain⟨r,e,p⟩:=zca hp
 refine⟨r,e,p,?_⟩
 have em:ms=r.map fun (x:Nat)=>(x:Int):=by
  rw [zeg] at e
  exact List.map_inj_right (fun x y h=>by cases h; rfl) |>.mp e
 rw [em,List.pairwise_map] at hs
 have nr:r.Nodup:=p.nodup_iff.mpr nd
 exact(hs.and nr).imp fun h=>by omega
def zaf (j many:Nat):List Nat:=if 2≤many then [j % many,(j+1) % many] else [j % many]
theorem ziw {j many:Nat}(h0:0<many):(zaf j many).Nodup∧zaf j many ≠ []∧∀h∈zaf j many,h<many:=by
 unfold zaf
 have a:=y76 j h0
 have b:=y76 (j+1) h0
 split
 ·rename_i h2
  refine⟨?_,by simp,fun h hh=>?_⟩
  ·have:j % many≠(j+1) % many:=fun z=>by
    have e:(j+1) % many=(j % many+1) % many:=by rw [Nat.add_mod,y6q (show 1<many by omega)]
    rw [e] at z
    by_cases w:j % many+1<many
    ·rw [y6q w] at z
     omega
    ·have w':j % many+1=many:=by omega
     rw [w',Nat.mod_self] at z
     omega
   simp [this]
  ·simp at hh
   omega
 ·exact⟨by simp,by simp,fun h hh=>by simp at hh; omega⟩
theorem zia {j many:Nat}(h0:0<many):zel [V.int ((j:Int) % (many:Int)),V.int (((j:Int)+1) % (many:Int))] none (some (if (2:Int)<(many:Int) then 2 else (many:Int)))=((zaf j many).map fun (x:Nat)=>(x:Int)).map V.int:=by
 obtain⟨m,hm⟩:∃m:Nat,(if (2:Int)<(many:Int) then (2:Int) else (many:Int))=(m:Int):=by
  split
  ·exact⟨2,rfl⟩
  ·exact⟨many,rfl⟩
 rw [hm,zgg]
 unfold zaf
 have e1:(j:Int) % (many:Int)=((j % many:Nat):Int):=by omega
 have e2:((j:Int)+1) % (many:Int)=(((j+1) % many:Nat):Int):=by
  rw [show(j:Int)+1=((j+1:Nat):Int) by omega]
  omega
 rw [e1,e2]
 split
 ·rename_i h2
  have:m=2:=by split at hm<;>omega
  subst this
  rfl
 ·rename_i h2
  have:m=1:=by split at hm<;>omega
  subst this
  rfl
def bag (M:Int)(L:List (Nat×(Int×Int)))(h:Nat):Int:=(L.map fun x=>if x.1=h then vl M x.2 else 0).sum
def z2a (drs:List (List Nat))(shs:List (List (Int×Int))):List (Nat×(Int×Int)):=(drs.zip shs).flatMap fun x=>x.1.zip x.2
def LdB (M:Int)(L:List (Nat×(Int×Int)))(qs:List (Int×Int)):Prop:=∀(h:Nat) q,qs[h]?=some q→Low q∧q.1*M=q.2*bag M L h
theorem zj6 (M:Int)(L:List (Nat×(Int×Int)))(g:Nat)(p:Int×Int)(h:Nat):bag M (L ++ [(g,p)]) h=bag M L h+(if g=h then vl M p else 0):=by
 unfold bag
 rw [y0h,y1t]
 simp only [y0m,y35,y0n,y5s,y3d]
theorem LdB.add {M:Int}{L:List (Nat×(Int×Int))}{qs:List (Int×Int)}(b:LdB M L qs){g:Nat}{q p:Int×Int}(hq:qs[g]?=some q)(hp:1≤p.2)(hd:p.2∣M){n e:Int}(lo:Low (n,e))(he:n*(q.2*p.2)=(q.1*p.2+p.1*q.2)*e):LdB M (L ++ [(g,p)]) (qs.set g (n,e)):=by
 intro h r hr
 rw [zj6]
 have gl:=(y00.mp hq).1
 by_cases z:g=h
 ·subst z
  rw [y0y gl] at hr
  cases hr
  refine⟨lo,?_⟩
  rw [if_pos rfl]
  obtain⟨l1,e1⟩:=b g q hq
  have v:=zk3 hd
  have pos:q.2*p.2≠0:=y4n (by have:=l1.1; omega) (by omega)
  refine y1b pos ?_
  show n*M*(q.2*p.2)=e*(bag M L g+vl M p)*(q.2*p.2)
  have a1:n*M*(q.2*p.2)=(q.1*M)*p.2*e+(p.1*M)*q.2*e:=by
   have:n*M*(q.2*p.2)=n*(q.2*p.2)*M:=by grind
   rw [this,he]
   grind
  rw [a1,e1,←v]
  grind
 ·rw [y16 (by omega)] at hr
  rw [if_neg z,y3d]
  exact b h r hr
theorem z5u {drs:List (List Nat)}{shs:List (List (Int×Int))}{i:Nat}{r:List Nat}{s:List (Int×Int)}(hr:drs[i]?=some r)(hs:shs[i]?=some s):z2a (drs.take (i+1)) (shs.take (i+1))=z2a (drs.take i) (shs.take i)++r.zip s:=by
 unfold z2a
 have hi:=(y00.mp hr).1
 have hi2:=(y00.mp hs).1
 rw [z0g hr,z0g hs,y5r (by rw [y0r,y0r]; omega),y62]
 simp
theorem zhj {M:Int}{m n:Nat}(hM:0<M)(bM:Bd n M)(h:Nat):∀(L:List (Nat×(Int×Int))),(∀x∈L,1≤x.2.2∧x.2.2∣M∧Bd m x.2.1)→(bag M L h).natAbs≤L.length*2^(m+n)
 | [],_=>by simp [bag]
 | x::r,hx=>by
  have a:=hx x y0d
  have ih:=zhj hM bM h r fun y hy=>hx y (y08 _ hy)
  have e:bag M (x::r) h=(if x.1=h then vl M x.2 else 0)+bag M r h:=rfl
  have v:(vl M x.2).natAbs≤2^(m+n):=by
   unfold vl
   have b:Bd n (M / x.2.2):=by
    refine Bd.of_le bM ?_
    have h1:0≤M / x.2.2:=y3b (by omega) (by omega)
    have h2:M / x.2.2≤M:=y47 _ (by omega)
    omega
   exact y4p (a.2.2.mul b)
  have t:(if x.1=h then vl M x.2 else 0).natAbs≤2^(m+n):=by
   split
   ·exact v
   ·exact y2j _
  rw [e,y11,y70,Nat.one_mul]
  have:=y53 (if x.1=h then vl M x.2 else 0) (bag M r h)
  omega
theorem LdB.bd {M:Int}(hM:0<M)(bM:Bd 600 M){L:List (Nat×(Int×Int))}(hL:∀x∈L,1≤x.2.2∧x.2.2∣M∧Bd 600 x.2.1)(few:L.length≤240){qs:List (Int×Int)}(b:LdB M L qs){h:Nat}{q:Int×Int}(hq:qs[h]?=some q):Bd 1300 q.1∧Bd 600 q.2:=by
 obtain⟨l,e⟩:=b h q hq
 rw [y1g q.2] at e
 obtain⟨l1,l2⟩:=zfz l.2 (by omega) e
 refine⟨?_,bM.of_le l2⟩
 have k:(bag M L h).natAbs≤L.length*2^1200:=zhj hM bM h L hL
 show q.1.natAbs<2^1300
 have e2:(2:Nat)^1300=2^100*2^1200:=by rw [←y5a]
 rw [e2]
 have k2:L.length*2^1200≤240*2^1200:=y31 _ few
 have k3:240*2^1200<2^100*2^1200:=y4o (by decide) (y63 (by decide))
 omega
structure ShOk (M:Int)(drs:List (List Nat))(many:Nat)(shs:List (List (Int×Int))):Prop where
 len:shs.length=drs.length
 few:drs.length≤20
 row:∀(i:Nat) r s,drs[i]?=some r→shs[i]?=some s→s.length=r.length∧r.length≤12∧∀h∈r,h<many
 ok:∀s∈shs,∀p∈s,Low p∧p.2∣M∧Bd 600 p.1
 hM:0<M
 bM:Bd 600 M
theorem zl1 {M:Int}{drs:List (List Nat)}{many:Nat}{shs:List (List (Int×Int))}(k:ShOk M drs many shs):∀x∈z2a drs shs,1≤x.2.2∧x.2.2∣M∧Bd 600 x.2.1:=fun x hx=>by
 unfold z2a at hx
 obtain⟨y,hy,hxy⟩:=y4b.mp hx
 obtain⟨a,b,c⟩:=k.ok y.2 (y1x hy).2 x.2 (y1x hxy).2
 exact⟨a.1,b,c⟩
theorem zhw {drs:List (List Nat)}{shs:List (List (Int×Int))}(hl:shs.length=drs.length)(i:Nat):∀x∈z2a (drs.take i) (shs.take i),x∈z2a drs shs:=fun x hx=>by
 unfold z2a at hx ⊢
 have e:drs.zip shs=(drs.take i).zip (shs.take i)++(drs.drop i).zip (shs.drop i):=by
  rw [←y5r (by rw [y0r,y0r,hl]),y5t,y5t]
 rw [e,y62]
 exact y3m _ hx
theorem z94 {M:Int}{drs:List (List Nat)}{many:Nat}{shs:List (List (Int×Int))}(k:ShOk M drs many shs):∀i:Nat,i≤drs.length→(z2a (drs.take i) (shs.take i)).length≤12*i
 | 0,_=>by simp [z2a]
 | i+1,hi=>by
  have hr:drs[i]?=some (drs[i]'(by omega)):=y01 _
  have hs:shs[i]?=some (shs[i]'(by rw [k.len]; omega)):=y01 _
  rw [z5u hr hs,y09,y5u]
  have:=z94 k i (by omega)
  have:=k.row i _ _ hr hs
  omega
def zjh (K:y02):Sp:=fun vs H Q _=>∃(ad as:Addr) (many:Nat) (drs:List (List Nat)) (shs:List (List (Int×Int))) (M:Int),vs = [.ref ad,.int (many:Int),.ref as]∧Is K H (.ref ad) (zh4 drs)∧Is K H (.ref as) (.list (shs.map z56))∧ShOk M drs many shs∧many≤20∧∀qs:List (Int×Int),qs.length=many→LdB M (z2a drs shs) qs→Res K H Q (z56 qs)
theorem Grow.setAt {K:y02}{H H':Hp}{l:Addr}{vs:List V}{ds:List PyData}{v:V}{d:PyData}(g:Grow K H H' l vs ds)(i:Nat)(h:Is K (del H' l) v d):Grow K H (upd H' l (.lst (vs.set i v))) l (vs.set i v) (ds.set i d) :=
 ⟨by rw [z2e]; exact g.old,z01,by rw [z2e]; exact z7x g.all h⟩
def FV (M:Int)(p:Int×Int)(X:Int):Prop:=Low p∧p.1*M=p.2*X
section
variable {M:Int}{p q:Int×Int}{X Y:Int}
theorem FV.uniq (hM:0<M)(a:FV M p X)(b:FV M q X):p=q:=by
 refine zmi a.1 b.1 ?_
 refine y1b (a:=M) (by omega) ?_
 have e1:=a.2
 have e2:=b.2
 have:p.1*q.2*M=p.1*M*q.2:=by grind
 rw [this,e1]
 have:q.1*p.2*M=q.1*M*p.2:=by grind
 rw [this,e2]
 grind
theorem FV.lt (hM:0<M)(a:FV M p X)(b:FV M q Y):p.1*q.2<q.1*p.2↔X<Y:=by
 have e1:=a.2
 have e2:=b.2
 have p1:=a.1.1
 have q1:=b.1.1
 have pos:0<p.2*q.2:=y3p (by omega) (by omega)
 have c1:p.1*q.2*M=X*(p.2*q.2):=by
  have:p.1*q.2*M=p.1*M*q.2:=by grind
  rw [this,e1]
  grind
 have c2:q.1*p.2*M=Y*(p.2*q.2):=by
  have:q.1*p.2*M=q.1*M*p.2:=by grind
  rw [this,e2]
  grind
 constructor
 ·intro h
  have:=y2c h hM
  rw [c1,c2] at this
  exact y2y this (by omega)
 ·intro h
  have:=y2c h pos
  rw [←c1,←c2] at this
  exact y2y this (by omega)
theorem FV.plus (a:FV M p X)(b:FV M q Y){n e:Int}(he:1≤e)(hg:y13 n e=1)(h:n*(p.2*q.2)=(p.1*q.2+q.1*p.2)*e):FV M (n,e) (X+Y):=by
 refine⟨⟨he,hg⟩,?_⟩
 have p1:=a.1.1
 have q1:=b.1.1
 have pos:p.2*q.2≠0:=y4n (by omega) (by omega)
 refine y1b pos ?_
 show n*M*(p.2*q.2)=e*(X+Y)*(p.2*q.2)
 have:n*M*(p.2*q.2)=n*(p.2*q.2)*M:=by grind
 rw [this,h]
 have:(p.1*q.2+q.1*p.2)*e*M=(p.1*M)*q.2*e+(q.1*M)*p.2*e:=by grind
 rw [this,a.2,b.2]
 grind
theorem FV.neg (a:FV M p X):FV M (-p.1,p.2) (-X):=by
 refine⟨⟨a.1.1,?_⟩,?_⟩
 ·show y13 (-p.1) p.2=1
  rw [y6v]
  exact a.1.2
 ·show -p.1*M=p.2 * -X
  have:=a.2
  grind
theorem FV.zero:FV M (0,1) 0:=⟨⟨y23 _,by decide⟩,by simp⟩
theorem FV.times (a:FV M p X){k n e:Int}(he:1≤e)(hg:y13 n e=1)(h:n*(p.2*1)=p.1*k*e):FV M (n,e) (k*X):=by
 refine⟨⟨he,hg⟩,?_⟩
 have p1:=a.1.1
 refine y1b (a:=p.2) (by omega) ?_
 show n*M*p.2=e*(k*X)*p.2
 have:n*M*p.2=n*(p.2*1)*M:=by grind
 rw [this,h]
 have:p.1*k*e*M=(p.1*M)*k*e:=by grind
 rw [this,a.2]
 grind
theorem FV.low {a b n d:Int}(h:n*b=a*d)(hb:1≤b)(hd:1≤d)(hg:y13 n d=1)(hx:a*M=b*X):FV M (n,d) X:=by
 refine⟨⟨hd,hg⟩,?_⟩
 refine y1b (a:=b) (by omega) ?_
 show n*M*b=d*X*b
 have:n*M*b=n*b*M:=by grind
 rw [this,h]
 have:a*d*M=a*M*d:=by grind
 rw [this,hx]
 grind
theorem FV.bd (hM:0<M)(bM:Bd 600 M)(bX:Bd 1300 X)(a:FV M p X):Bd 1300 p.1∧Bd 600 p.2:=by
 have e:=a.2
 rw [y1g p.2] at e
 obtain⟨l1,l2⟩:=zfz a.1.2 (by omega) e
 exact⟨bX.of_le l1,bM.of_le l2⟩
theorem FV.whole {w:Int}(hM:0<M)(a:FV M p (w*M)):p=(w,1):=by
 refine FV.uniq hM a ⟨⟨y23 _,by show y13 w 1=1; simp⟩,by show w*M=1*(w*M); simp⟩
end
structure FVs (M:Int)(ps:List (Int×Int))(Xs:List Int):Prop where
 len:ps.length=Xs.length
 at_:∀(i:Nat) p X,ps[i]?=some p→Xs[i]?=some X→FV M p X
 hM:0<M
 bM:Bd 600 M
 bX:∀X∈Xs,Bd 1220 X
 few:Xs.length≤30
theorem FVs.get {M:Int}{ps:List (Int×Int)}{Xs:List Int}(f:FVs M ps Xs){i:Nat}{p:Int×Int}(h:ps[i]?=some p):∃X,Xs[i]?=some X∧FV M p X∧Bd 1220 X:=by
 have hi:=(y00.mp h).1
 have hx:Xs[i]?=some (Xs[i]'(by rw [←f.len]; exact hi)):=y01 _
 exact⟨_,hx,f.at_ i p _ h hx,f.bX _ (y03 hx)⟩
theorem zg4 {k:Nat}:∀(l:List Int),(∀x∈l,Bd k x)→l.sum.natAbs≤l.length*2^k
 | [],_=>by simp
 | x::r,h=>by
  have a:=h x y0d
  have b:=zg4 r fun y hy=>h y (y08 _ hy)
  rw [y0n,y11,y70,Nat.one_mul]
  have:=y53 x r.sum
  have a':x.natAbs<2^k:=a
  omega
theorem znp {k n:Nat}{x:Int}(h:x.natAbs≤n*2^k)(hn:n≤64):Bd (k+7) x:=by
 show x.natAbs<2^(k+7)
 rw [y5a]
 have:n*2^k≤64*2^k:=y31 _ hn
 have:0<2^k:=y63 (by decide)
 omega
theorem zg7 {k:Nat}{l:List Int}(h:∀x∈l,Bd k x)(hl:l.length≤64):Bd (k+7) l.sum:=znp (zg4 l h) hl
def z73 (K:y02):Sp:=fun vs H Q _=>∃(x:V) (ps:List (Int×Int)) (Xs:List Int) (M:Int),vs = [x]∧Is K H x (z56 ps)∧FVs M ps Xs∧∀p,FV M p Xs.sum→Res K H Q (z2m p.1 p.2)
def z9i (K:y02):Sp:=fun vs H Q _=>∃(x y:V) (ps:List (Int×Int)) (Xs:List Int) (M:Int) (lv:Int×Int) (L:Int),vs = [x,y]∧Is K H x (z56 ps)∧Is K H y (z2m lv.1 lv.2)∧FVs M ps Xs∧Xs.length≤20∧FV M lv L∧Bd 1200 L∧∀p,FV M p (PM.ab Xs L)→Res K H Q (z2m p.1 p.2)
def zfm (K:y02):Sp:=fun vs H Q _=>∃(x:V) (ps:List (Int×Int)) (Xs:List Int) (M:Int),vs = [x]∧Is K H x (z56 ps)∧FVs M ps Xs∧0<Xs.length∧∀(p q:Int×Int) (A B:Int),A∈Xs→B∈Xs→(∀X∈Xs,A≤X∧X≤B)→FV M p A→FV M q B→Res K H Q (.tuple [z2m p.1 p.2,z2m q.1 q.2])
theorem FVs.nil {M:Int}(hM:0<M)(bM:Bd 600 M):FVs M [] []:=⟨rfl,fun i p X h=>(by simp at h),hM,bM,fun X h=>(by cases h),by decide⟩
theorem FVs.snoc {M:Int}{ps:List (Int×Int)}{Xs:List Int}(f:FVs M ps Xs){p:Int×Int}{X:Int}(h:FV M p X)(b:Bd 1220 X)(hl:Xs.length<30):FVs M (ps ++ [p]) (Xs ++ [X]):=by
 have len:=f.len
 refine⟨by rw [y09,y09,f.len]; rfl,fun i q Y hq hY=>?_,f.hM,f.bM,fun Y hY=>?_,by rw [y09]; show _+1≤_; omega⟩
 ·by_cases c:i<ps.length
  ·rw [y0l c] at hq
   rw [y0l (by omega)] at hY
   exact f.at_ i q Y hq hY
  ·rw [y0s (by omega)] at hq
   rw [y0s (by omega)] at hY
   have z:i - ps.length=0:=by
    have:=(y00.mp hq).1
    simp at this
    omega
   rw [z] at hq
   rw [show i - Xs.length=0 by omega] at hY
   cases hq
   cases hY
   exact h
 ·rcases y0u.mp hY with z | z
  ·exact f.bX Y z
  ·rw [y0a.mp z]
   exact b
theorem zc4 (l:List Int)(x T:Int):PM.ab (l ++ [x]) T=PM.ab l T+(if T<x then x - T else 0):=by
 unfold PM.ab
 rw [y0h,y1t]
 simp only [y0m,y35,y0n,y5s,y3d]
theorem z5f (l:List Int)(x:Int):(l ++ [x]).sum=l.sum+x:=by
 rw [y1t]
 simp
theorem zf1 {k:Nat}{l:List Int}(h:∀x∈l,Bd k x)(hl:l.length≤64)(i:Nat):Bd (k+7) (l.take i).sum:=zg7 (fun x hx=>h x (y4d hx)) (by rw [y0r]; omega)
theorem zm2 {l:List Int}{L:Int}(h:∀x∈l,Bd 1220 x)(hL:Bd 1200 L)(hl:l.length≤30):Bd 1230 (PM.ab l L):=by
 unfold PM.ab
 refine(zg7 (k:=1221) (fun y hy=>?_) (by rw [y04]; omega)).le (by decide)
 obtain⟨x,hx,rfl⟩:=y22.mp hy
 have a:x.natAbs<2^1220:=h x hx
 have b:L.natAbs<2^1220:=hL.le (by decide)
 show Int.natAbs _<2^1221
 have e:(2:Nat)^1221=2*2^1220:=by rw [Nat.pow_succ]; omega
 rw [e]
 generalize (2:Nat)^1220=z at *
 split<;>omega
def zjp (K:y02):Sp:=fun vs H Q _=>∃(a:Addr) (ns:List Int) (at' k:Int),vs = [.ref a,.int at',.int k]∧SqL K H a (ns.map V.int)∧0≤at'∧at'≤62∧0≤k∧k≤2∧∀z:Int,0≤z→Q (.int z) H
def za7 (K:y02):Sp:=fun vs H Q _=>∃(a:Addr) (ns:List Int) (at' n:Nat),vs = [.ref a,.int (at':Int),.int (n:Int)]∧SqL K H a (ns.map V.int)∧at'≤100∧1≤n∧n≤12∧∀(l:Addr) (wts:List Int) (H':Hp),wts.length=n→(∀x∈wts,0≤x∧x≤3)→1≤wts.sum→Same H H'→H' l=some (.lst (wts.map V.int))→Q (.ref l) H'
structure Deal (M:Int)(ws:List Int)(drs:List (List Nat))(shs:List (List (Int×Int))):Prop where
 len:shs.length=drs.length
 at_:∀(i:Nat) r s,drs[i]?=some r→shs[i]?=some s→s.length=r.length∧(s.map (vl M)).sum=ws.getD i 0*M
 ok:∀s∈shs,∀p∈s,Low p∧0≤p.1∧p.2∣M∧Bd 300 p.1
def zgf (K:y02):Sp:=fun vs H Q _=>∃(a aw ad:Addr) (ns ws:List Int) (drs:List (List Nat)) (many:Nat),vs = [.ref a,.ref aw,.ref ad]∧SqL K H a (ns.map V.int)∧CrowdA K H aw ad ws drs many∧∀(shs:List (List (Int×Int))) (Md:Int),0<Md→Bd 60 Md→(∀M:Int,0<M→Md∣M→Deal M ws drs shs)→Res K H Q (.list (shs.map z56))
theorem zc0:∀{l:List Int},(∀x∈l,0≤x∧x≤3)→0≤l.sum∧l.sum≤3*(l.length:Int)
 | [],_=>by simp
 | x::r,h=>by
  have a:=h x y0d
  have b:=zc0 fun y hy=>h y (y08 _ hy)
  rw [y0n,y11]
  omega
theorem Deal.snoc {M:Int}{ws:List Int}{drs:List (List Nat)}{i:Nat}{shs:List (List (Int×Int))}(D:Deal M ws (drs.take i) shs)(hl:shs.length=i){r:List Nat}(hr:drs[i]?=some r){s:List (Int×Int)}(h1:s.length=r.length)(h2:(s.map (vl M)).sum=ws.getD i 0*M)(h3:∀p∈s,Low p∧0≤p.1∧p.2∣M∧Bd 300 p.1):Deal M ws (drs.take (i+1)) (shs ++ [s]):=by
 have hi:=(y00.mp hr).1
 refine⟨by rw [y09,y0r]; simp; omega,fun k r' s' hr' hs'=>?_,fun s' hs'=>?_⟩
 ·by_cases c:k<shs.length
  ·rw [y0l c] at hs'
   refine D.at_ k r' s' ?_ hs'
   rw [y3w] at hr' ⊢
   rw [if_pos (by omega)] at hr' ⊢
   exact hr'
  ·rw [y0s (by omega)] at hs'
   have z:k - shs.length=0:=by
    have:=(y00.mp hs').1
    simp at this
    omega
   rw [z] at hs'
   cases hs'
   have:k=i:=by omega
   subst this
   rw [y3w,if_pos (by omega),hr] at hr'
   cases hr'
   exact⟨h1,h2⟩
 ·rcases y0u.mp hs' with z | z
  ·exact D.ok s' z
  ·rw [y0a.mp z]
   exact h3
theorem zhv {M w:Int}{wts:List Int}{s:List (Int×Int)}(hl:s.length=wts.length)(h:∀(i:Nat) p wt,s[i]?=some p→wts[i]?=some wt→Low p∧p.1*wts.sum=w*wt*p.2)(h1:1≤wts.sum)(hM:0<M)(hd:wts.sum∣M)(wb:∀x∈wts,0≤x∧x≤3)(w1:1≤w)(w2:w≤10^60):(s.map (vl M)).sum=w*M∧∀p∈s,Low p∧0≤p.1∧p.2∣M∧Bd 300 p.1:=by
 have one:∀(i:Nat) p wt,s[i]?=some p→wts[i]?=some wt→p.2∣M∧vl M p*wts.sum=w*M*wt:=fun i p wt hp hw=>by
  obtain⟨l,e⟩:=h i p wt hp hw
  have d:=y36 (z9l l.2 e).1 hd
  refine⟨d,?_⟩
  have v:=zk3 d
  have p1:=l.1
  refine y1b (a:=p.2) (by omega) ?_
  have:vl M p*wts.sum*p.2=vl M p*p.2*wts.sum:=by grind
  rw [this,v]
  have:p.1*M*wts.sum=p.1*wts.sum*M:=by grind
  rw [this,e]
  grind
 refine⟨?_,fun p hp=>?_⟩
 ·refine y1b (a:=wts.sum) (by omega) ?_
  rw [PM.sum_mulR]
  have e:(s.map fun p=>vl M p*wts.sum)=wts.map fun wt=>w*M*wt:=by
   refine y3j fun i=>?_
   by_cases c:i<s.length
   ·rw [y0b,y0b,y01 c,y01 (show i<wts.length by omega)]
    simp only [y6t]
    rw [(one i _ _ (y01 c) (y01 (show i<wts.length by omega))).2]
   ·rw [y1a (by rw [y04]; omega),y1a (by rw [y04]; omega)]
  rw [e]
  have m:∀l:List Int,(l.map fun wt=>w*M*wt).sum=w*M*l.sum:=fun l=>by
   induction l with
   | nil=>simp
   | cons x r ih=>rw [y0m,y0n,ih,y0n,y4j]
  exact m wts
 ·obtain⟨i,hi⟩:=y0f hp
  have hil:=(y00.mp hi).1
  have hw:wts[i]?=some (wts[i]'(by omega)):=y01 _
  generalize wts[i]'(by omega)=wt at hw
  obtain⟨l,e⟩:=h i p wt hi hw
  have b:=wb wt (y03 hw)
  have p1:=l.1
  refine⟨l,?_,(one i p wt hi hw).1,?_⟩
  ·refine y3l (a:=wts.sum) ?_ (by omega)
   rw [y5o,e]
   exact y1r (y1r (by omega) b.1) (by omega)
  ·obtain⟨l1,_⟩:=zfz l.2 (by omega) e
   have c:(w*wt).natAbs≤10^60*3:=by
    rw [y2b]
    have t:(10:Int)^60=((10^60:Nat):Int):=by norm_cast
    have u:w.natAbs≤10^60:=by omega
    have v:wt.natAbs≤3:=by omega
    exact Nat.mul_le_mul u v
   show p.1.natAbs<2^300
   have:(10:Nat)^60*3<2^300:=by decide +kernel
   omega
def zsV (M:Int)(T:Nat→Bool)(l:List (Nat×(Int×Int))):Int:=(l.map fun x=>if T x.1 then vl M x.2 else 0).sum
theorem zg5 {M:Int}{many:Nat}(T:Nat→Bool):∀{L:List (Nat×(Int×Int))},(∀x∈L,x.1<many)→PM.SH many T (bag M L)=zsV M T L
 | [],_=>by
  show((y0c many).map fun h=>if T h then (0:Int) else 0).sum=0
  have:((y0c many).map fun h=>if T h=true then (0:Int) else 0)=(y0c many).map fun _=>(0:Int):=y0v fun h _=>by split<;>rfl
  rw [this,PM.sum_zeroI]
 | x::r,hx=>by
  have ih:=zg5 (M:=M) T fun y hy=>hx y (y08 _ hy)
  have x1:=hx x y0d
  have e:zsV M T (x::r)=(if T x.1 then vl M x.2 else 0)+zsV M T r:=rfl
  rw [e,←ih]
  unfold PM.SH
  have s1:=zha (fun _=>(0:Int)) (fun h=>if T h=true then (if x.1=h then vl M x.2 else 0) else 0) x.1 (fun k hk=>by
   show(if T k=true then (if x.1=k then vl M x.2 else 0) else 0)=0
   rw [if_neg (Ne.symm hk)]
   split<;>rfl) many
  rw [PM.sum_zeroI,if_pos x1,y3r] at s1
  simp only [if_true,Int.sub_zero] at s1
  rw [←s1,←PM.sum_addI]
  congr 1
  refine y0v fun h _=>?_
  show(if T h=true then bag M (x::r) h else 0)=_
  have:bag M (x::r) h=(if x.1=h then vl M x.2 else 0)+bag M r h:=rfl
  rw [this]
  split
  ·rfl
  ·rfl
theorem zev (M:Int)(T:Nat→Bool)(l m:List (Nat×(Int×Int))):zsV M T (l++m)=zsV M T l+zsV M T m:=by
 unfold zsV
 rw [y0h,y1t]
theorem zl2 {M:Int}{T:Nat→Bool}{r:List Nat}{s:List (Int×Int)}(hl:s.length=r.length)(nn:∀p∈s,0≤vl M p):(if r.all T then (s.map (vl M)).sum else 0)≤zsV M T (r.zip s):=by
 unfold zsV
 split
 ·rename_i h
  have e:((r.zip s).map fun x=>if T x.1 then vl M x.2 else 0)=s.map (vl M):=by
   rw [show s.map (vl M)=((r.zip s).map Prod.snd).map (vl M) by rw [y6r (by omega)],y2a]
   refine y0v fun x hx=>?_
   have:=y27.mp h x.1 (y1x hx).1
   rw [if_pos this]
   rfl
  rw [e]
  exact y23 _
 ·refine zg3 fun x hx=>?_
  obtain⟨y,hy,rfl⟩:=y22.mp hx
  have:=nn y.2 (y1x hy).2
  split<;>omega
theorem Deal.vl {M:Int}{ws:List Int}{drs:List (List Nat)}{shs:List (List (Int×Int))}(D:Deal M ws drs shs)(hM:0<M){s:List (Int×Int)}(hs:s∈shs):∀p∈s,0≤vl M p:=fun p hp=>by
 obtain⟨a,b,_,_⟩:=D.ok s hs p hp
 exact y1r b (y3b (by omega) (by have:=a.1; omega))
theorem Deal.own {M:Int}{ws:List Int}{drs:List (List Nat)}{shs:List (List (Int×Int))}(D:Deal M ws drs shs)(hM:0<M)(hl:drs.length=ws.length)(T:Nat→Bool):zjk ws drs M T≤zsV M T (z2a drs shs):=by
 have key:∀i:Nat,i≤ws.length→PM.IW (z4b ws) (z6s drs) i T*M≤zsV M T (z2a (drs.take i) (shs.take i)):=by
  intro i
  induction i with
  | zero=>intro _; simp [PM.IW,zsV,z2a]
  | succ i ih =>
   intro hi
   have ih:=ih (by omega)
   have hr:drs[i]?=some (drs[i]'(by omega)):=y01 _
   have hs:shs[i]?=some (shs[i]'(by rw [D.len]; omega)):=y01 _
   generalize drs[i]'(by omega)=r at hr
   generalize shs[i]'(by rw [D.len]; omega)=s at hs
   obtain⟨h1,h2⟩:=D.at_ i r s hr hs
   have row:=zl2 (T:=T) h1 (D.vl hM (y03 hs))
   rw [PM.IW_more,z5u hr hs,zev,y4l]
   have e:z6s drs i=r:=by unfold z6s; rw [y0o,hr]; rfl
   rw [e,zp7 (show i<ws.length by omega)]
   rw [h2] at row
   have:(if r.all T=true then ws.getD i 0 else 0)*M=if r.all T=true then ws.getD i 0*M else 0:=by
    split
    ·rfl
    ·exact y5o _
   rw [this]
   omega
 have:=key ws.length (y07 _)
 rw [show drs.take ws.length=drs from y05 (by omega),show shs.take ws.length=shs from y05 (by rw [D.len]; omega)] at this
 exact this
theorem zlz {ws:List Int}{drs:List (List Nat)}{many:Nat}{shs:List (List (Int×Int))}(h:∀r∈drs,∀g∈r,g<many):∀x∈z2a drs shs,x.1<many:=fun x hx=>by
 unfold z2a at hx
 obtain⟨y,hy,hxy⟩:=y4b.mp hx
 exact h y.1 (y1x hy).1 x.1 (y1x hxy).1
theorem Deal.all {M:Int}{ws:List Int}{drs:List (List Nat)}{shs:List (List (Int×Int))}(D:Deal M ws drs shs)(hl:drs.length=ws.length):zsV M (fun _=>true) (z2a drs shs)=ws.sum*M:=by
 have key:∀i:Nat,i≤ws.length→zsV M (fun _=>true) (z2a (drs.take i) (shs.take i))=(ws.take i).sum*M:=by
  intro i
  induction i with
  | zero=>intro _; simp [zsV,z2a]
  | succ i ih =>
   intro hi
   have ih:=ih (by omega)
   have hr:drs[i]?=some (drs[i]'(by omega)):=y01 _
   have hs:shs[i]?=some (shs[i]'(by rw [D.len]; omega)):=y01 _
   generalize drs[i]'(by omega)=r at hr
   generalize shs[i]'(by rw [D.len]; omega)=s at hs
   obtain⟨h1,h2⟩:=D.at_ i r s hr hs
   rw [z5u hr hs,zev,ih,z0g (z0y (show i<ws.length by omega)),z5f,y4l,←h2]
   congr 1
   unfold zsV
   rw [show s.map (My.vl M)=((r.zip s).map Prod.snd).map (My.vl M) by rw [y6r (by omega)],y2a]
   rfl
 have:=key ws.length (y07 _)
 rw [show drs.take ws.length=drs from y05 (by omega),show shs.take ws.length=shs from y05 (by rw [D.len]; omega),y05 (y07 _)] at this
 exact this
theorem zk8 {q:Int}(h1:1≤q)(h2:q≤20):q∣232792560:=by
 obtain⟨n,rfl⟩:=y2e (show 0≤q by omega)
 have k:∀n:Fin 21,1≤n.val→((n.val:Nat):Int)∣232792560:=by decide
 exact k ⟨n,by omega⟩ (by show 1≤n; omega)
theorem zq2 {ws:List Int}{drs:List (List Nat)}{many:Nat}{L:List PM.Cr}{ps qs:List (Int×Int)}(co:CrOk ws drs many L)(lo:LayOk ws L ps)(lk:LoadOk many L ps qs)(h0:0<many)(hm:many≤20)(hp:∀x∈ws,1≤x)(hb:∀x∈ws,Bd 300 x)(hw:ws.length≤20){M:Int}(hM:0<M)(hd:232792560∣M):PM.Ev (zjk ws drs M) many (xOf qs M):=by
 refine(lk.sol lo co h0 hp hM fun p hp'=>?_).ev
 obtain⟨i,hi⟩:=y0f hp'
 have hil:=(y00.mp hi).1
 rw [lo.len] at hil
 obtain⟨a,_,c,_⟩:=lo.part co hm hp hb hw (y01 hil) hi
 exact y36 (zk8 a.1 c) hd
structure Both (M:Int)(qs oq:List (Int×Int))(Xs Os:List Int)(w:Int):Prop where
 f1:FVs M qs Xs
 f2:FVs M oq Os
 b1:∀X∈Xs,Bd 1200 X
 b2:∀X∈Os,Bd 1200 X
 len:Xs.length=Os.length
 l12:Xs.length≤12
 pos:0<Xs.length
 s1:Xs.sum=w*M
 s2:Os.sum=w*M
 ab:∀T,PM.ab Xs T≤PM.ab Os T
 d:232792560∣M
theorem Deal.shOk {K:y02}{H:Hp}{aw ad:Addr}{M:Int}{ws:List Int}{drs:List (List Nat)}{many:Nat}{shs:List (List (Int×Int))}(D:Deal M ws drs shs)(c:CrowdA K H aw ad ws drs many)(hM:0<M)(bM:Bd 600 M):ShOk M drs many shs:=by
 have dl:=c.ask.len
 have few:=c.few
 refine⟨D.len,by omega,fun i r s hr hs=>⟨(D.at_ i r s hr hs).1,?_,(c.rows.2 r (y03 hr)).2.2⟩,fun s hs p hp=>?_,hM,bM⟩
 ·have:=c.rows.2 r (y03 hr)
  exact y19 (z1h this.2.1 this.2.2) c.h12
 ·obtain⟨a,_,d,e⟩:=D.ok s hs p hp
  exact⟨a,d,e.le (by decide)⟩
theorem zln {K:y02}{H:Hp}{aw ad:Addr}{M:Int}{ws:List Int}{drs:List (List Nat)}{many:Nat}{shs:List (List (Int×Int))}{qs oq:List (Int×Int)}(D:Deal M ws drs shs)(c:CrowdA K H aw ad ws drs many)(hM:0<M)(bM:Bd 100 M)(hd:232792560∣M)
  (E:PM.Ev (zjk ws drs M) many (xOf qs M)) (B:Borns ws drs many qs) (ol:oq.length=many) (ob:LdB M (z2a drs shs) oq):Both M qs oq ((y0c many).map (xOf qs M)) ((y0c many).map (bag M (z2a drs shs))) ws.sum:=by
 have dk:DoOk ws drs many:=c.rows.doOk rfl (by have:=c.h12; omega)
 have h12:=c.h12
 have h0:=c.h0
 have dl:=c.ask.len
 have qd:∀q∈qs,q.2∣M:=fun q hq=>y36 (zk8 (B.ok q hq).1.1 (B.ok q hq).2.2.1) hd
 have fx:∀h q,qs[h]?=some q→FV M q (xOf qs M h):=fun h q hq=>⟨(B.ok q (y03 hq)).1,by rw [y1g q.2,zcc hq (qd q (y03 hq))]⟩
 have flt:=zlz (ws:=ws) (shs:=shs) fun r hr g hg=>(c.rows.2 r hr).2.2 g hg
 have fok:∀x∈z2a drs shs,1≤x.2.2∧x.2.2∣M∧Bd 300 x.2.1:=fun x hx=>by
  unfold z2a at hx
  obtain⟨y,hy,hxy⟩:=y4b.mp hx
  obtain⟨a,_,b,e⟩:=D.ok y.2 (y1x hy).2 x.2 (y1x hxy).2
  exact⟨a.1,b,e⟩
 have flen:(z2a drs shs).length≤240:=by
  have k:=z94 (D.shOk c hM (bM.le (by decide))) drs.length (y07 _)
  rw [y05 (y07 _),y05 (by rw [D.len]; exact y07 _)] at k
  have:=c.few
  omega
 have bo:∀h,Bd 500 (bag M (z2a drs shs) h):=fun h=>by
  have k:(bag M (z2a drs shs) h).natAbs≤(z2a drs shs).length*2^400:=zhj hM bM h _ fok
  show _<2^500
  have e:(2:Nat)^500=2^100*2^400:=by rw [←y5a]
  rw [e]
  have k2:(z2a drs shs).length*2^400≤240*2^400:=y31 _ flen
  have k3:240*2^400<2^100*2^400:=y4o (by decide) (y63 (by decide))
  omega
 have bx:∀h<many,Bd 500 (xOf qs M h):=fun h hh=>by
  obtain⟨q,hq,ok,ex⟩:=B.x qd hh
  have l1:=ok.1.1
  refine((ok.2.2.2.mul bM).le (by decide)).of_le ?_
  rw [←ex,y2b]
  exact y2d _ (by omega)
 have nn:∀h<many,0≤xOf qs M h:=fun h hh=>by
  obtain⟨q,hq,ok,ex⟩:=B.x qd hh
  have l:=ok.1.1
  refine y3l (a:=q.2) ?_ (by omega)
  rw [y5o,ex]
  exact y1r ok.2.1 (y1p hM)
 have rl:∀f:Nat→Int,((y0c many).map f).length=many:=fun f=>by rw [y04,y2u]
 have at_:∀(f:Nat→Int) (i:Nat) X,((y0c many).map f)[i]?=some X→i<many∧X=f i:=fun f i X h=>by
  have hi:=(y00.mp h).1
  rw [rl] at hi
  rw [y0b,y25 hi] at h
  cases h
  exact⟨hi,rfl⟩
 have mem:∀(f:Nat→Int) X,X∈(y0c many).map f→∃i,i<many∧X=f i:=fun f X h=>by
  obtain⟨i,hi,rfl⟩:=y22.mp h
  exact⟨i,y1n.mp hi,rfl⟩
 refine⟨⟨by rw [rl,B.len],fun i p X hp hX=>?_,hM,bM.le (by decide),fun X hX=>?_,by rw [rl]; omega⟩,⟨by rw [rl,ol],fun i p X hp hX=>?_,hM,bM.le (by decide),fun X hX=>?_,by rw [rl]; omega⟩,fun X hX=>?_,fun X hX=>?_,by rw [rl,rl],by rw [rl]; exact h12,by rw [rl]; exact h0,?_,?_,fun T=>?_,hd⟩
 ·obtain⟨_,rfl⟩:=at_ _ i X hX
  exact fx i p hp
 ·obtain⟨i,hi,rfl⟩:=mem _ X hX
  exact(bx i hi).le (by decide)
 ·obtain⟨_,rfl⟩:=at_ _ i X hX
  exact ob i p hp
 ·obtain⟨i,hi,rfl⟩:=mem _ X hX
  exact(bo i).le (by decide)
 ·obtain⟨i,hi,rfl⟩:=mem _ X hX
  exact(bx i hi).le (by decide)
 ·obtain⟨i,hi,rfl⟩:=mem _ X hX
  exact(bo i).le (by decide)
 ·have:=E.all (zgs dk) nn
  unfold zjk at this
  rw [zgn] at this
  rw [←this]
  unfold PM.SH
  congr 1
 ·have a:=zg5 (M:=M) (many:=many) (fun _=>true) flt
  rw [D.all dl] at a
  rw [←a]
  unfold PM.SH
  congr 1
 ·exact E.above (fun T=>by rw [zg5 T flt]; exact D.own hM dl T) T
end My
set_option Elab.async false
set_option linter.all false
set_option maxRecDepth 100000
set_option maxHeartbeats 4000000
namespace My
open PySem L2 L2.EX
def top (i:Nat):Stmt:=PySem.Challenge.pw_evenyoke_k34_whole_none_is_better.main.body.getD i (.Pass ⟨0,0,0,0⟩)
local macro_rules | `(tactic| walk_at "run")=>`(tactic| try dsimp only [zc9,zpk,zhp,Cx.nox,Cx.wish,zpu,zpc,xT,onB,tOp,xV,sg,tC,zjj,z4f,List.set,zoe,zl3,tCB,zlj,zmm,tUn,znv,zny,zo7,zo0,znz,znt,znu,uEq,uNe,uLt,uLe,uGt,uGe,zo5,zj1,znn,zpq,ziz,tyN,zou,xOr,zoz,zo9,tOr,zp6,zky,zoy,zk7,zol,zod,spG,z5j,zcp,z3s,z3i,zmo,zju,zfb,zbl,zob,zof,z9h,zm1,zb9,zkc,zow,zoo,zm7,zpp,zls,zpv,zjg,zps,zog,zpx,zkm,zoi,tIf,zp2,zlk,zi4,zl7,znw,xSl,zon,zom,zjx,znx,zd8,zdk,zp3,zp0,xR1,xR2,xR3,xT2,xT3,zkk,uIs])
local macro_rules | `(tactic| walk_at "one")=>`(tactic| try dsimp only [zc9,zpk,zhp,Cx.nox,Cx.wish,zpc,xT,onB,tOp,xV,sg,tC,zjj,z4f,List.set,zoe,zl3,tCB,zlj,zmm,tUn,znv,zny,zo7,zo0,znz,znt,znu,uEq,uNe,uLt,uLe,uGt,uGe,zo5,zj1,znn,zpq,ziz,tyN,zou,xOr,zoz,zo9,tOr,zp6,zky,zoy,zk7,zol,zod,spG,z5j,zcp,z3s,z3i,zmo,zju,zfb,zbl,zob,zof,z9h,zm1,zb9,zkc,zow,zoo,zm7,zpp,zls,zpv,zjg,zps,zog,zpx,zkm,zoi,tIf,zp2,zlk,zi4,zl7,znw,xSl,zon,zom,zjx,znx,zd8,zdk,zp3,zp0,xR1,xR2,xR3,xT2,xT3,zkk,uIs])
local macro_rules | `(tactic| walk_at "c")=>`(tactic| first | rfl | (dsimp only [z0q]; done) | (dsimp only [z0q]; rfl))
section
variable {P:Program}{w:World}{K:y02}{mg:Str→Option Value}{base:Heap}
structure FldsPour (K:y02)(C:Addr):Prop where
 many_gives:ClsF K C "many_gives"
 sent:ClsF K C "sent"
 spare:ClsF K C "spare"
 tie_ends:ClsF K C "tie_ends"
 ties_at:ClsF K C "ties_at"
variable {CPour:Addr}
abbrev z4t:Stmt:=top 27
theorem sc_Lmixed:FnScope ["_law_cell","_law_k","_law_number","_law_time"] ["_law_cell","_law_k"] (z05 z4t):=⟨rfl,rfl,rfl,by decide +kernel,rfl,by decide +kernel,by decide +kernel⟩
theorem zfv (T:Top K mg "_law_mixed" z4t ["_law_cell","_law_k"])(B:Blt mg) :Def P w K mg base "_law_mixed" 1 ["_law_cell","_law_k"] (z3i):=by
 refine z0x (k:=0) T sc_Lmixed (fun vs H Q E h=>?_) (fun f cdv A outer s H vs Q E hr h=>?_)
 ·unfold z3i at h
  split at h
  ·rfl
  ·exact h.elim
 unfold z3i at h
 split at h
 ·rename_i c k
  obtain⟨k0,k1,q⟩:=h
  refine⟨_,(z02 (z2p (z0s z5b (z0j z1t (cv 0) z04) z04 (z0o _))
   (z02 (z0c 2 sc_Lmixed.nd (z0j z2n (z3m z9n B.abs zal (z00 (cv 0) z03)) z04))
    (z02 (z23 (zep B.range (z00 (cv 1) z03)) (z0f 3 sc_Lmixed.nd)
    (z07 (z0c 2 sc_Lmixed.nd (z0j z2n (cv 2) (z0j zji z04 z04)))))
    (z07 (z0m (cv 2)))))
   z0z)
   (z02 (z0c 2 sc_Lmixed.nd (z0j z1t (z0j z1p (cv 0) (z0j z1y z04 (cv 1))) z04))
   (z02 (z0c 2 sc_Lmixed.nd (z0j z1t (z0j z1p (z0j z1p (z0j z1y (cv 2) (cv 2)) (z0j z1y z04 (cv 2))) (cv 1)) z04))
   (z07 (z0m (z0j z1t (z0j z1y (cv 2) (cv 2)) z04)))))),?_⟩
  refine rd (σ':=[some (.int c),some (.int k),none,none]) rfl ?_
  walk_at "run"
  refine⟨by decide,z3j (fun _=>?_) (fun _=>?_)⟩
  ·refine⟨by decide,by decide +kernel,⟨by omega,by omega⟩,?_⟩
   refine zcw (fun i σ H'=>H'=H∧∃(z:Int) (t:Option V),σ = [some (.int c),some (.int k),some (.int z),t]∧0≤z) ⟨rfl,_,_,rfl,?_⟩ ?_ ?_
   ·rw [y2x _ (by decide)]
    have:=zak c
    omega
   ·rintro i σ H' hi ⟨rfl,z,t,rfl,hz⟩
    walk_at "run"
    refine⟨by decide,by decide +kernel,by decide +kernel,by decide +kernel,rfl,_,_,rfl,?_⟩
    rw [y2x _ (by decide +kernel)]
    exact y3b hz (by decide +kernel)
   ·rintro σ H' ⟨rfl,z,t,rfl,hz⟩
    exact q z hz
  ·have m1:=y1l (c+7919*k) (show(2147483629:Int)≠0 by decide)
   have m2:=y1m (c+7919*k) (show(0:Int)<2147483629 by decide)
   have b1:=zdi m1 m2
   refine⟨z4c (m:=20) (n:=20) (by show _<_; decide) ?_ (by decide),by decide,z4c b1 b1 (by decide),z4c (m:=20) (by show _<_; decide) b1 (by decide),by decide,?_⟩
   ·show k.natAbs<2^20
    have:(2:Nat)^20=1048576:=by decide
    omega
   have m3:=y1l ((c+7919*k) % 2147483629*((c+7919*k) % 2147483629)+16807*((c+7919*k) % 2147483629)+k) (show(2147483629:Int)≠0 by decide)
   have m4:=y1m ((c+7919*k) % 2147483629*((c+7919*k) % 2147483629)+16807*((c+7919*k) % 2147483629)+k) (show(0:Int)<2147483629 by decide)
   have b2:=zdi m3 m4
   exact⟨z4c b2 b2 (by decide),by decide,q _ (y1l _ (by decide))⟩
 ·exact h.elim
abbrev z36:Stmt:=top 26
theorem zc2:FnScope ["_law_script","_law_k"] ["_law_script","_law_k"] (z05 z36):=⟨rfl,rfl,rfl,by decide +kernel,rfl,by decide +kernel,by decide +kernel⟩
theorem zb7 (T:Top K mg "_law_cell_at" z36 ["_law_script","_law_k"])(B:Blt mg) :Def P w K mg base "_law_cell_at" 1 ["_law_script","_law_k"] (z5j K):=by
 refine z0x (k:=0) T zc2 (fun vs H Q E h=>?_) (fun f cdv A outer s H vs Q E hr h=>?_)
 ·unfold z5j at h
  split at h
  ·rfl
  ·exact h.elim
 unfold z5j at h
 split at h
 ·rename_i a k
  obtain⟨ns,hS,hk,q⟩:=h
  refine⟨_,(z02 (z2p (z0s z6z (cv 1) (z3m z24 B.len y17 (z00 (cv 0) z03)) (z0o _))
   (z07 (z0m (z0h z0i (cv 0) (cv 1) (fun _ _=>rfl))))
   z0z)
   (z07 (z0m z04))),?_⟩
  refine rd (σ':=[some (.ref a),some (.int k)]) rfl ?_
  walk_at "run"
  refine⟨_,.inl hS,z3j (fun c=>?_) (fun c=>?_)⟩
  ·exact⟨_,_,.inl hS,zgt hk (of_decide_eq_true c),q⟩
  ·have c':¬k<((ns.map V.int).length:Nat):=fun z=>c (decide_eq_true z)
   rw [y04] at c'
   have e:ns.getD k.toNat 0=0:=by
    rw [y0o,y1a (by omega)]
    rfl
   rw [e] at q
   exact q
 ·exact h.elim
abbrev z8p:Stmt:=top 33
theorem sc_Lrow:FnScope ["_law_cell","_law_many","_law_thin","_law_number","_law_other","_law_row_here","_law_hand"] ["_law_cell","_law_many","_law_thin"] (z05 z8p):=⟨rfl,rfl,rfl,by decide +kernel,rfl,by decide +kernel,by decide +kernel⟩
theorem zla (T:Top K mg "_law_row" z8p ["_law_cell","_law_many","_law_thin"])(B:Blt mg)(D_Lmixed:Def P w K mg base "_law_mixed" 1 ["_law_cell","_law_k"] (z3i)):Def P w K mg base "_law_row" 2 ["_law_cell","_law_many","_law_thin"] (zgr):=by
 refine z0x (k:=1) T sc_Lrow (fun vs H Q E h=>?_) (fun f cdv A outer s H vs Q E hr h=>?_)
 ·obtain⟨c,many,th,rfl,_⟩:=h
  rfl
 obtain⟨c,many,th,rfl,hm1,hm,q⟩:=h
 refine⟨_,(z02 (z0c 3 sc_Lrow.nd (z0b D_Lmixed (hr.mono (by decide)) (z00 (cv 0) (z00 z04 z03))))
   (z02 (z0c 4 sc_Lrow.nd (z0b D_Lmixed (hr.mono (by decide)) (z00 (cv 0) (z00 z04 z03))))
   (z02 (z0c 5 sc_Lrow.nd (z1l z03))
   (z02 (z23 (zep B.range (z00 (cv 1) z03)) (z0f 6 sc_Lrow.nd)
   (z02 (z5m (z2p (zau (z0s z5b (z0j z1t (cv 3) z04) z04 (z0o _)) (z77 (z8f (z0s z5b (z0j z1t (cv 4) z04) z04 (z0o _)) (z7f (z4m (z2l (cv 2))))).pt)).pt
    (z07 (z25 (z19 (cv 5) (z00 (cv 6) z03))))
    z0z))
    (z02 (z0c 3 sc_Lrow.nd (z0j z2n (cv 3) z04))
    (z07 (z0c 4 sc_Lrow.nd (z0j z2n (cv 4) z04))))))
   (z02 (z2p (z0s (znh hr) (cv 5) (z1l z03) (z0o _))
   (z07 (z0c 5 sc_Lrow.nd (z1l (z00 (z0j z1t (z0b D_Lmixed (hr.mono (by decide)) (z00 (cv 0) (z00 z04 z03))) (cv 1)) z03))))
   z0z)
   (z07 (z0m (cv 5)))))))),?_⟩
 refine rd (σ':=[some (.int c),some (.int (many:Int)),some (.bl th),none,none,none,none]) rfl ?_
 walk_at "run"
 refine⟨by decide,by decide,fun z z0=>?_⟩
 walk_at "run"
 refine⟨by decide,by decide,fun z' z0'=>?_⟩
 walk_at "run"
 refine⟨sz (by show 0≤1000; decide),fun r hr1=>⟨⟨by omega,by omega⟩,?_⟩⟩
 refine zcw (fun j σ' H'=>∃y y' t6 row,σ' = [some (.int c),some (.int (many:Int)),some (.bl th),some (.int y),some (.int y'),some (.ref r),t6]∧Same H H'∧H' r=some (.lst (z09 row))∧row.Pairwise (· < ·)∧∀h∈row,h<j) ⟨_,_,_,[],rfl,z06 hr1 _,z01,y6e,fun _ z=>(by cases z)⟩ ?_ ?_
 ·rintro j σ' H' hj ⟨y,y',t6,row,rfl,s2,kr,rp,rb⟩
  have rl:row.length≤j:=z1h rp rb
  walk_at "run"
  refine⟨fun σ' H'=>∃row,σ' = [some (.int c),some (.int (many:Int)),some (.bl th),some (.int y),some (.int y'),some (.ref r),some (.int (j:Int))]∧Same H H'∧H' r=some (.lst (z09 row))∧row.Pairwise (· < ·)∧∀h∈row,h<j+1,?_,?_⟩
  ·have no:∃row,[some (V.int c),some (.int (many:Int)),some (.bl th),some (.int y),some (.int y'),some (.ref r),some (.int (0+(j:Int)))] = [some (V.int c),some (.int (many:Int)),some (.bl th),some (.int y),some (.int y'),some (.ref r),some (.int (j:Int))]∧Same H H'∧H' r=some (.lst (z09 row))∧row.Pairwise (· < ·)∧∀h∈row,h<j+1:=⟨row,by rw [y3r],s2,kr,rp,fun h hh=>by have:=rb h hh; omega⟩
   have yes:(∃xs,H' r=some (.lst xs))∧∃xs,H' r=some (.lst xs)∧xs.length<sizeLine∧∃row,[some (V.int c),some (.int (many:Int)),some (.bl th),some (.int y),some (.int y'),some (.ref r),some (.int (0+(j:Int)))] = [some (V.int c),some (.int (many:Int)),some (.bl th),some (.int y),some (.int y'),some (.ref r),some (.int (j:Int))]∧Same H (upd H' r (.lst (xs ++ [.int (0+(j:Int))])))∧upd H' r (.lst (xs ++ [.int (0+(j:Int))])) r=some (.lst (z09 row))∧row.Pairwise (· < ·)∧∀h∈row,h<j+1:=by
    obtain⟨ra,rb'⟩:=RowOk.add (many:=many) ⟨rp,rb⟩
    refine⟨⟨_,kr⟩,_,kr,z0l (by rw [z0n]; omega),row ++ [j],by rw [y3r],fun b o hb=>?_,?_,ra,rb'⟩
    ·rw [z0a (z08 hb hr1)]
     exact s2 _ _ hb
    ·rw [z01]
     unfold z09
     rw [y0h,y3r]
     rfl
   walk_at "run"
   refine⟨by decide,z3j (fun _=>⟨by decide,z3j (fun _=>z8c yes) (fun _=>?_)⟩) (fun _=>z8b no)⟩
   cases th
   ·exact z8c yes
   ·exact z8b no
  ·rintro σ' H' ⟨row,rfl,s2,kr,rp,rb⟩
   walk_at "run"
   exact⟨by decide,by decide +kernel,by decide,by decide +kernel,_,_,_,row,rfl,s2,kr,rp,rb⟩
 ·rintro σ' H' ⟨y,y',t6,row,rfl,s2,kr,rp,rb⟩
  rw [show((many:Int)).toNat=many by omega] at rb
  walk_at "run"
  refine⟨sz (by show 0≤1000; decide),fun u hu=>?_⟩
  have sU:=z06 hu (.lst [])
  refine⟨z3k row,.list [],is_list.mpr ⟨r,_,rfl,sU _ _ kr,z2h _⟩,is_list.mpr ⟨u,[],rfl,z01,z0t⟩,z5x _,z5x [],?_⟩
  walk_at "run"
  unfold z3k
  rw [zl9]
  refine z3j (fun _=>?_) (fun hne=>?_)
  ·have mpos:(0:Int)<(many:Int):=by omega
   refine⟨by decide,by decide,fun w w0=>⟨mpos,sz (by show 1≤1000; decide),fun r2 hr2=>?_⟩⟩
   obtain⟨m,hm'⟩:=y2e (y1l w (show(many:Int)≠0 by omega))
   have hml:=y1m w mpos
   rw [hm'] at hml ⊢
   refine q r2 [m] _ (by simp) (y5b _ _) (fun h hh=>by rw [y0a.mp hh]; omega) (zap (s2.trans sU) hr2) (s2.trans (sU.trans (z06 hr2 _))) z01
  ·refine q r row _ (fun z=>?_) rp rb hr1 (s2.trans sU) (sU _ _ kr)
   subst z
   exact hne rfl
abbrev z63:Stmt:=top 32
theorem sc_Lwork:FnScope ["_law_cell","_law_number"] ["_law_cell"] (z05 z63):=⟨rfl,rfl,rfl,by decide +kernel,rfl,by decide +kernel,by decide +kernel⟩
theorem ziu (T:Top K mg "_law_work" z63 ["_law_cell"])(B:Blt mg)(D_Lmixed:Def P w K mg base "_law_mixed" 1 ["_law_cell","_law_k"] (z3i)):Def P w K mg base "_law_work" 2 ["_law_cell"] (zh2):=by
 refine z0x (k:=1) T sc_Lwork (fun vs H Q E h=>?_) (fun f cdv A outer s H vs Q E hr h=>?_)
 ·obtain⟨c,rfl,_⟩:=h
  rfl
 obtain⟨c,rfl,q⟩:=h
 refine⟨_,(z02 (z0c 1 sc_Lwork.nd (z0b D_Lmixed (hr.mono (by decide)) (z00 (cv 0) (z00 z04 z03))))
   (z02 (z2p (z0s z5b (z0j z1t (cv 1) z04) z04 (z0o _))
   (z07 (z0m (z0j z1p z04 (z0j z1t (cv 0) (z0j zme (z0j zji z04 z04) z04)))))
   z0z)
   (z02 (z2p (z0s z5b (z0j z1t (cv 1) z04) z04 (z0o _))
   (z07 (z0m (z0j z1p z04 (z0j z1t (z0j z2n (cv 1) z04) z04))))
   z0z)
   (z07 (z0m (z0j z1p z04 (z0j z1t (z0j z2n (cv 1) z04) z04))))))),?_⟩
 refine rd (σ':=[some (.int c),none]) rfl ?_
 walk_at "run"
 refine⟨by decide,by decide,fun z z0=>?_⟩
 walk_at "run"
 have big:(1001:Int)≤10^60:=by decide +kernel
 refine⟨by decide,z3j (fun _=>?_) (fun _=>⟨by decide,z3j (fun _=>?_) (fun _=>?_)⟩)⟩
 ·have m0:=y1l c (show(10^y45 60 - 1:Int)≠0 by decide +kernel)
  have m1:=y1m c (show(0:Int)<10^y45 60 - 1 by decide +kernel)
  have e6:(10:Int)^y45 60=10^60:=rfl
  exact⟨by decide,by decide +kernel,by decide +kernel,q _ (by omega) (by rw [e6] at m1 ⊢; omega)⟩
 ·have m0:=y1l (z.fdiv 4) (show(1000:Int)≠0 by decide)
  have m1:=y1m (z.fdiv 4) (show(0:Int)<1000 by decide)
  exact⟨by decide,by decide +kernel,by decide,q _ (by omega) (by omega)⟩
 ·have m0:=y1l (z.fdiv 4) (show(5:Int)≠0 by decide)
  have m1:=y1m (z.fdiv 4) (show(0:Int)<5 by decide)
  exact⟨by decide,by decide +kernel,by decide,q _ (by omega) (by omega)⟩
abbrev z4o:Stmt:=top 34
theorem sc_Lcrowd:FnScope ["_law_script","_law_number","_law_many","_law_way","_law_works","_law_doers","_law_k","_law_cell","_law_row_here"] ["_law_script"] (z05 z4o):=⟨rfl,rfl,rfl,by decide +kernel,rfl,by decide +kernel,by decide +kernel⟩
theorem zg1 (T:Top K mg "_law_crowd" z4o ["_law_script"])(B:Blt mg)(D_Lmixed:Def P w K mg base "_law_mixed" 1 ["_law_cell","_law_k"] (z3i))(D_Lcell_at:Def P w K mg base "_law_cell_at" 1 ["_law_script","_law_k"] (z5j K))(D_Lrow:Def P w K mg base "_law_row" 2 ["_law_cell","_law_many","_law_thin"] (zgr))(D_Lwork:Def P w K mg base "_law_work" 2 ["_law_cell"] (zh2)):Def P w K mg base "_law_crowd" 3 ["_law_script"] (zhh K):=by
 refine z0x (k:=2) T sc_Lcrowd (fun vs H Q E h=>?_) (fun f cdv A outer s H vs Q E hr h=>?_)
 ·obtain⟨a,ns,rfl,_⟩:=h
  rfl
 obtain⟨a,ns,rfl,hS,hlen,q⟩:=h
 refine⟨_,(z02 (z0c 1 sc_Lcrowd.nd (z0b D_Lmixed (hr.mono (by decide)) (z00 (z0b D_Lcell_at (hr.mono (by decide)) (z00 (cv 0) (z00 z04 z03))) (z00 z04 z03))))
   (z02 (z0c 2 sc_Lcrowd.nd (z0j z1p z04 (z0j z1t (cv 1) z04)))
   (z02 (z0c 3 sc_Lcrowd.nd (z0j z1t (z0j z2n (cv 1) z04) z04))
   (z02 (z5m (z2p (z0s z5b (cv 3) z04 (z0o _))
   (z07 (z0c 2 sc_Lcrowd.nd z04))
   z0z))
   (z02 (z0c 4 sc_Lcrowd.nd (z1l z03))
   (z02 (z0c 5 sc_Lcrowd.nd (z1l z03))
   (z02 (z23 (z7n B.enumerate (zhq (cv 0) (z3g z04) (z3g (z0j z1p z04 (z0j z1t (z0j z2n (cv 1) z04) z04))))) (z8e (z0f 6 sc_Lcrowd.nd) (z0f 7 sc_Lcrowd.nd))
   (z02 (z0c 8 sc_Lcrowd.nd (z0b D_Lrow (hr.mono (by decide)) (z00 (cv 7) (z00 (cv 2) (z00 (zn1 (z3e z6z (cv 3) z04 (z0o _)) (z7g (z3e z5b (cv 3) z04 (z0o _)))) z03)))))
    (z02 (z5m (z2p (z0s z5b (cv 3) z04 (z0o _))
    (z07 (z0c 8 sc_Lcrowd.nd (z3m zew B.sorted zgp (z00 (zhq (z1l (z00 (z0j z1t (cv 6) (cv 2)) (z00 (z0j z1t (z0j z1p (cv 6) z04) (cv 2)) z03))) z64 (z3g (z3m zlm B.min zjy (z00 (cv 2) (z00 z04 z03))))) z03))))
    z0z))
    (z02 (z5m (z2p (z0s z5b (cv 3) z04 (z0o _))
    (z07 (zbq (N:=["_law_hand"]) (fr:=[]) 8 1 sc_Lcrowd.nd (zep B.range (z00 (z0j z1p z04 (z0j z1t (cv 6) (cv 2))) z03)) (fun C hN=>by exact pgC ((z0f 0 hN)) (by walk_at "c")) (fun C hN=>by exact peC ((cv 0)) (by walk_at "c"))))
    z0z))
    (z02 (z25 (z19 (cv 4) (z00 (z0b D_Lwork (hr.mono (by decide)) (z00 (cv 7) z03)) z03)))
    (z07 (z25 (z19 (cv 5) (z00 (cv 8) z03)))))))))
   (z07 (z0m (z22 (z00 (cv 4) (z00 (cv 5) (z00 (cv 2) z03))))))))))))),?_⟩
 refine rd (σ':=[some (.ref a),none,none,none,none,none,none,none,none]) rfl ?_
 walk_at "run"
 refine⟨ns,hS,by decide,by decide,by decide,fun z z0=>⟨by decide,by decide,by decide +kernel,by decide,?_⟩⟩
 obtain⟨n,hn⟩:∃n:Nat,z.fdiv 48 % 9=(n:Int):=⟨(z.fdiv 48 % 9).toNat,by omega⟩
 have n8:n≤8:=by omega
 refine⟨fun σ' H'=>H'=H∧∃(many:Nat) (way:Int),σ' = [some (.ref a),some (.int z),some (.int (many:Int)),some (.int way),none,none,none,none,none]∧0<many∧many≤12,?_,?_⟩
 ·walk_at "run"
  refine z3j (fun _=>⟨rfl,12,_,rfl,by decide,by decide⟩) (fun _=>⟨rfl,(1+z % 6).toNat,z.fdiv 6 % 8,?_,by omega,by omega⟩)
  rw [show(((1+z % 6).toNat:Nat):Int)=1+z % 6 by omega]
 rintro σ' H' ⟨rfl,many,way,rfl,h0,h12⟩
 walk_at "run"
 refine⟨sz (by show 0≤1000; decide),fun lw hlw=>⟨sz (by show 0≤1000; decide),fun ld hld=>⟨by decide,by decide +kernel,by decide,?_⟩⟩⟩
 rw [hn]
 have mpos:(0:Int)<(many:Int):=by omega
 have sW:=(z06 hlw (.lst [])).trans (z06 hld (.lst []))
 refine⟨_,sW.seq hS,fun u hu=>?_⟩
 obtain⟨ms,hms,hml,hml2⟩:=zke ns 2 n
 rw [show((2:Nat):Int)=2 by rfl] at hms
 rw [hms]
 obtain⟨tw0,nu1,nu2,hu0⟩:=zf9 (K:=K) (O:=.lst (ms.map V.int)) hlw hld hu
 have sB:=z06 hu0 (.lst (ms.map V.int))
 have kb:=z01 (H:=H') (a:=u) (o:=.lst (ms.map V.int))
 generalize upd H' u (.lst (ms.map V.int))=Hb at tw0 sB kb
 have ku0:=tw0.same _ _ kb
 generalize upd (upd (upd H' lw (.lst [])) ld (.lst [])) u (.lst (ms.map V.int))=H3 at tw0 ku0 ⊢
 refine⟨⟨_,SqL.of ku0⟩,?_⟩
 refine zbk (xs:=ms.map V.int) (fun j σ' H'=>∃t6 t7 t8 ws rs drs,σ' = [some (.ref a),some (.int z),some (.int (many:Int)),some (.int way),some (.ref lw),some (.ref ld),t6,t7,t8]∧Two K Hb H' lw ld (ws.map V.int) rs (ws.map PyData.int) (drs.map z3k)∧ws.length=j∧drs.length=j∧(∀x∈ws,1≤x∧x≤10^60)∧∀r∈drs,r ≠ []∧r.Pairwise (· < ·)∧∀h∈r,h<many) ⟨_,_,_,[],[],[],rfl,tw0,rfl,rfl,fun _ z=>(by cases z),fun _ z=>(by cases z)⟩ ?_ ?_ ?_
 ·rintro j σ' H' _ ⟨t6,t7,t8,ws,rs,drs,rfl,tw,_⟩
  exact SqL.of (tw.same _ _ kb)
 ·rintro j x σ' H' Tp hx ⟨t6,t7,t8,ws,rs,drs,rfl,tw,wl,dl,wb,db⟩ hT
  obtain⟨c,hc,rfl⟩:=zg0 hx
  have hj:=(y00.mp hc).1
  have sT:=z06 hT (.tup [.int (j:Int),.int c])
  have tw1:=tw.more sT
  have kT:=z01 (H:=H') (a:=Tp) (o:=.tup [.int (j:Int),.int c])
  generalize upd H' Tp (.tup [.int (j:Int),.int c])=H4 at tw1 kT ⊢
  walk_at "run"
  refine⟨_,_,SqT.of kT,?_⟩
  walk_at "run"
  refine zkb (P:=fun th=>zgr [.int c,.int (many:Int),.bl th] H4 _ E0) fun th=>?_
  refine⟨c,many,th,rfl,h0,h12,fun r row H5 rne rise rlt nr s5 hr5=>?_⟩
  have tw2:=tw1.more s5
  have n1:r≠lw:=fun z=>by rw [z,tw1.h1] at nr; cases nr
  have n2:r≠ld:=fun z=>by rw [z,tw1.h2] at nr; cases nr
  clear tw tw1 sT kT s5 nr
  refine⟨fun σ' H'=>∃r row,σ' = [some (.ref a),some (.int z),some (.int (many:Int)),some (.int way),some (.ref lw),some (.ref ld),some (.int (j:Int)),some (.int c),some (.ref r)]∧Two K Hb H' lw ld (ws.map V.int) rs (ws.map PyData.int) (drs.map z3k)∧r≠lw∧r≠ld∧H' r=some (.lst (z09 row))∧row ≠ []∧row.Pairwise (· < ·)∧∀h∈row,h<many,?_,?_⟩
  ·walk_at "run"
   refine z3j (fun _=>?_) (fun _=>⟨r,row,rfl,tw2,n1,n2,hr5,rne,rise,rlt⟩)
   refine⟨mpos,mpos,sz (by show 2≤1000; decide),fun l1 hl1=>?_⟩
   have f1:=z06 hl1 (.lst [.int ((j:Int) % (many:Int)),.int (((j:Int)+1) % (many:Int))])
   refine⟨_,SqL.of z01,fun l2 hl2=>?_⟩
   rw [zia h0]
   have f2:=z06 hl2 (.lst (((zaf j many).map fun (x:Nat)=>(x:Int)).map V.int))
   obtain⟨rk1,rk2,rk3⟩:=ziw (j:=j) h0
   refine⟨_,SqL.of z01,by rw [y04]; unfold zaf; split<;>simp,fun ss ps os l3 hl3=>?_⟩
   obtain⟨r',er,pr,sr⟩:=zgw rk1 ps os
   rw [er]
   have f3:=z06 hl3 (.lst (z09 r'))
   have tw3:=tw2.more (f1.trans (f2.trans f3))
   have h3:=zap (f1.trans f2) hl3
   refine⟨l3,r',rfl,tw3,fun z=>?_,fun z=>?_,z01,fun z=>?_,sr,fun h hh=>rk3 h (pr.mem_iff.mp hh)⟩
   ·rw [z,tw2.h1] at h3; cases h3
   ·rw [z,tw2.h2] at h3; cases h3
   ·subst z
    exact rk2 (List.nil_perm.mp pr)
  rintro σ' H6 ⟨r,row,rfl,tw3,n1,n2,hr6,rne,rise,rlt⟩
  clear tw2 hr5
  refine⟨fun σ' H'=>∃r row,σ' = [some (.ref a),some (.int z),some (.int (many:Int)),some (.int way),some (.ref lw),some (.ref ld),some (.int (j:Int)),some (.int c),some (.ref r)]∧Two K Hb H' lw ld (ws.map V.int) rs (ws.map PyData.int) (drs.map z3k)∧r≠lw∧r≠ld∧H' r=some (.lst (z09 row))∧row ≠ []∧row.Pairwise (· < ·)∧∀h∈row,h<many,?_,?_⟩
  ·walk_at "run"
   refine z3j (fun _=>?_) (fun _=>⟨r,row,rfl,tw3,n1,n2,hr6,rne,rise,rlt⟩)
   have jm:(j:Int) % (many:Int)=((j % many:Nat):Int):=by omega
   have jl:=y76 j h0
   refine⟨mpos,⟨by omega,by omega⟩,?_⟩
   rw [jm,show((1:Int)+((j % many:Nat):Int)).toNat=1+j % many by omega]
   refine cgo (σ':=[none]) rfl ?_
   refine ziy (by omega) fun l1 hl1=>?_
   have f1:=z06 hl1 (.lst (z09 (y0c (1+j % many))))
   refine⟨l1,y0c (1+j % many),rfl,tw3.more f1,fun z=>?_,fun z=>?_,z01,fun z=>?_,y3y,fun h hh=>?_⟩
   ·rw [z,tw3.h1] at hl1; cases hl1
   ·rw [z,tw3.h2] at hl1; cases hl1
   ·have:=congrArg y5y z
    rw [y2u] at this
    simp at this
   ·have:=y1n.mp hh
    omega
  rintro σ' H7 ⟨r,row,rfl,tw4,n1,n2,hr7,rne,rise,rlt⟩
  clear tw3 hr6
  walk_at "run"
  refine⟨⟨_,tw4.h1⟩,c,rfl,fun w w1 w2=>?_⟩
  refine⟨_,tw4.h1,z0l (by rw [y04]; omega),?_⟩
  have ai:IsAll K (z6y H7 lw ld) (ws.map V.int ++ [.int w]) (ws.map PyData.int ++ [.int w]):=z1f tw4.a1 (by simp only [Is])
  have tw5:=tw4.set1 ai
  have hr8:upd H7 lw (.lst (ws.map V.int ++ [.int w])) r=some (.lst (z09 row)):=by rw [z0a n1]; exact hr7
  generalize upd H7 lw (.lst (ws.map V.int ++ [.int w]))=H8 at tw5 hr8 ⊢
  have rl:rs.length=j:=by rw [z0k tw4.a2,y04,dl]
  refine⟨⟨_,tw5.h2⟩,_,tw5.h2,z0l (by omega),?_⟩
  have tw6:=tw5.set2 (z1f tw5.a2 (is_list.mpr ⟨r,_,rfl,by rw [z3p n1 n2]; exact hr8,z2h row⟩))
  refine⟨_,_,_,ws ++ [w],rs ++ [.ref r],drs ++ [row],rfl,by rw [y0h,y0h,y0h]; exact tw6,by rw [y09]; simp; omega,by rw [y09]; simp; omega,fun x hx=>?_,fun x hx=>?_⟩
  ·rcases y0u.mp hx with hx | hx
   ·exact wb x hx
   ·rw [y0a.mp hx]
    exact⟨w1,w2⟩
  ·rcases y0u.mp hx with hx | hx
   ·exact db x hx
   ·rw [y0a.mp hx]
    exact⟨rne,rise,rlt⟩
 ·rintro σ' H' ⟨t6,t7,t8,ws,rs,drs,rfl,tw,wl,dl,wb,db⟩
  rw [y04] at wl dl
  walk_at "run"
  refine⟨sz (by show 3≤1000; decide),fun p hp=>?_⟩
  have s5:=z06 hp (.tup [.ref lw,.ref ld,.int (many:Int)])
  have tw5:=tw.more s5
  have rok:RowsOk ws.length many drs:=⟨by rw [dl,wl],db⟩
  refine q p lw ld ws drs many _ ⟨⟨tw5.h1,is_list.mpr ⟨ld,rs,rfl,tw5.h2,IsAll.same z5o _ _ tw5.a2⟩,by rw [dl,wl],by omega,rok.row (by omega),fun x hx=>(wb x hx).1,fun x hx=>?_⟩,rok,fun x hx=>(wb x hx).2,h0,h12,by omega⟩ (sB.trans tw5.same) z01
  have:=wb x hx
  show x.natAbs<2^300
  have:(10:Nat)^60<2^300:=by decide +kernel
  omega
abbrev z2w:Stmt:=z2x (top 12) 0
theorem sc_Pour_init:FnScope ["self","gives","takes","ties","sent","tie","ends","end"] ["self","gives","takes","ties","sent"] (z05 z2w):=⟨rfl,rfl,rfl,by decide +kernel,rfl,by decide +kernel,by decide +kernel⟩
theorem z9u (T:MTop K CPour "__init__" "Pour.__init__" z2w ["self","gives","takes","ties","sent"])(B:Blt mg)(F:FldsPour K CPour) :MDef P w K mg base CPour "__init__" 1 ["self","gives","takes","ties","sent"] (zfd K CPour):=by
 refine z2u (k:=0) T sc_Pour_init (fun vs H Q E h=>?_) (fun f cdv A outer s H vs Q E hr h=>?_)
 ·obtain⟨x,dx,ag,ak,ai,ase,gs,ts,ss,ties,rfl,_⟩:=h
  rfl
 obtain⟨x,dx,ag,ak,ai,ase,gs,ts,ss,ties,rfl,hx,hg,hk,hi,hs,hties,hssl,hsm,htl,q⟩:=h
 obtain⟨_,tv,e1,hai,hal⟩:=is_list.mp hi
 cases e1
 have htv:tv.length=ties.length:=by simpa using z0k hal
 have nk:∀{b:Addr} {xs:List V},H b=some (.lst xs)→b≠x:=fun h=>z66 h hx (by intro z; cases z)
 have nkt:∀{b:Addr} {xs:List V},H b=some (.tup xs)→b≠x:=fun h=>z66 h hx (by intro z; cases z)
 refine⟨_,(z02 (za5 F.many_gives (cv 0) (z3m z24 B.len y17 (z00 (cv 1) z03)))
   (z02 (za5 F.tie_ends (cv 0) (z3o (N:=["give","take","self"]) (fr:=[0]) 2 (z1k (cv 3)) (fun C hN=>by exact pgC ((z8e (z0f 0 hN) (z0f 1 hN))) (by walk_at "c")) (fun C hN=>by exact peC ((z22 (z00 (cv 0) (z00 (z0j z1p (z1m F.many_gives (cv 2)) (cv 1)) z03)))) (by walk_at "c"))))
   (z02 (za5 F.sent (cv 0) (zo6 zbh B.list z7b (z00 (cv 4) z03)))
   (z02 (za5 F.spare (cv 0) (z0j z1p (cv 1) (cv 2)))
   (z02 (za5 F.ties_at (cv 0) (z3o (N:=["end"]) (fr:=[]) 1 (z1k (z1m F.spare (cv 0))) (fun C hN=>by exact pgC ((z0f 0 hN)) (by walk_at "c")) (fun C hN=>by exact peC ((z1l z03)) (by walk_at "c"))))
   (z07 (z23 (z7n B.enumerate (z1m F.tie_ends (cv 0))) (z8e (z0f 5 sc_Pour_init.nd) (z0f 6 sc_Pour_init.nd))
   (z07 (z23 (z1k (cv 6)) (z0f 7 sc_Pour_init.nd)
    (z02 (z59 (z1m F.spare (cv 0)) (cv 7) z7v (z0h z0i (z1m F.sent (cv 0)) (cv 5) (fun _ _=>rfl)) z9a z4d)
     (z07 (z25 (z19 (z0h z0i (z1m F.ties_at (cv 0)) (cv 7) (fun _ _=>rfl)) (z00 (cv 5) z03)))))))))))))),?_⟩
 refine rd (σ':=[some (.ref x),some (.ref ag),some (.ref ak),some (.ref ai),some (.ref ase),none,none,none]) rfl ?_
 walk_at "run"
 refine⟨_,.inl (SqL.of hg),dx,[],hx,by decide,?_⟩
 have hgl:(gs.map V.int).length=gs.length:=y04 _
 rw [hgl]
 have ff1:=FF.nil.put "many_gives" (.int (gs.length:Int))
 generalize z84 ("many_gives":Str) (V.int (gs.length:Int)) []=fs1 at ff1 ⊢
 have fz1:Frz [x] H (upd H x (.ins CPour dx fs1)):=Frz.upd (by simp)
 have hx1:upd H x (.ins CPour dx fs1) x=some (.ins CPour dx fs1):=z01
 generalize upd H x (.ins CPour dx fs1)=H1 at fz1 hx1 ⊢
 have kp1:∀{b:Addr} {o:HO},b≠x→H b=some o→H1 b=some o:=fun h q=>fz1 _ _ (by simpa using h) q
 refine .inl ⟨⟨_,SqL.of (kp1 (nk hai) hai)⟩,cgo (σ':=[none,none,some (.ref x)]) rfl ?_⟩
 refine z1q (xs:=tv) (fun i ys H'=>Same H1 H'∧IsAll K H' ys (((z0p gs.length ties).take i).map pr)∧ys.length≤i) ⟨Same.refl _,z0t,y07 _⟩ (z0l (by omega)) ?_ ?_ ?_
 ·rintro i ys H' _ ⟨s1,_,hi⟩
  exact⟨SqL.of (s1 _ _ (kp1 (nk hai) hai)),hi⟩
 ·rintro i y ys H' hy ⟨s1,al,hi⟩
  have hil:=(y00.mp hy).1
  have hp:ties[i]?=some (ties[i]'(by omega)):=y01 _
  obtain⟨a,ha1,ha2⟩:=zj4 hal hp
  rw [hy] at ha1
  cases ha1
  have ha':=s1 _ _ (kp1 (nkt ha2) ha2)
  refine⟨_,_,SqT.of ha',?_⟩
  walk_at "run"
  refine z8c ⟨_,_,.int (gs.length:Int),s1 _ _ hx1,by rw [ff1.get,if_pos rfl],sz (by show 2≤1000; decide),fun p' hp'=>?_⟩
  have s2:=z06 hp' (.tup [.int ((ties[i]'(by omega)).1:Int),.int ((gs.length:Int)+((ties[i]'(by omega)).2:Int))])
  refine CNx.mk ⟨s1.trans s2,?_,by rw [y09]; simp; omega⟩ hil
  have hend:(z0p gs.length ties)[i]?=some ((ties[i]'(by omega)).1,gs.length+(ties[i]'(by omega)).2):=by
   unfold z0p
   rw [y0b,hp]
   rfl
  rw [z0g hend,y0h]
  refine z1f (IsAll.same s2 _ _ al) ?_
  refine is_frac.mpr ⟨p',rfl,?_⟩
  rw [z01]
  rfl
 rintro tl H2 ⟨s2,al2,_⟩ lT hlT
 have hel:(z0p gs.length ties).length=ties.length:=by unfold z0p; rw [y04]
 rw [htv,y05 (by omega)] at al2
 have s3:=z06 hlT (.lst tl)
 refine⟨dx,fs1,(s2.trans s3) _ _ hx1,y2r ff1.len (by decide),?_⟩
 have ff2:=ff1.put "tie_ends" (.ref lT)
 generalize z84 ("tie_ends":Str) (V.ref lT) fs1=fs2 at ff2 ⊢
 have nlTx:lT≠x:=fun z=>(z08 (s2 _ _ hx1) hlT) z.symm
 have fz3:Frz [x] H (upd (upd H2 lT (.lst tl)) x (.ins CPour dx fs2)):=(fz1.trans (Frz.of (s2.trans s3))).trans (Frz.upd (by simp))
 have hx3:upd (upd H2 lT (.lst tl)) x (.ins CPour dx fs2) x=some (.ins CPour dx fs2):=z01
 have hT3:upd (upd H2 lT (.lst tl)) x (.ins CPour dx fs2) lT=some (.lst tl):=by rw [z0a nlTx,z01]
 have al3:IsAll K (upd (upd H2 lT (.lst tl)) x (.ins CPour dx fs2)) tl ((z0p gs.length ties).map pr):=z2g (IsAll.same s3 _ _ al2) fun b xs hb=>by
  rw [z0a (z66 hb ((s2.trans s3) _ _ hx1) (by intro z; cases z))]
  exact hb
 have hHT:H lT=none:=by
  cases z:H lT with
  | none=>rfl
  | some o =>
   exfalso
   have:=s2 _ _ (kp1 nlTx z)
   rw [hlT] at this
   cases this
 clear s3 al2
 generalize upd (upd H2 lT (.lst tl)) x (.ins CPour dx fs2)=H3 at fz3 hx3 hT3 al3 ⊢
 have kp3:∀{b:Addr} {o:HO},b≠x→H b=some o→H3 b=some o:=fun h q=>fz3 _ _ (by simpa using h) q
 refine⟨_,.inl (SqL.of (kp3 (nk hs) hs)),fun lS hlS=>?_⟩
 have s4:=z06 hlS (.lst (ss.map V.int))
 refine⟨dx,fs2,s4 _ _ hx3,y2r ff2.len (by decide),?_⟩
 have ff3:=ff2.put "sent" (.ref lS)
 generalize z84 ("sent":Str) (V.ref lS) fs2=fs3 at ff3 ⊢
 have nSx:lS≠x:=fun z=>(z08 hx3 hlS) z.symm
 have nST:lS≠lT:=fun z=>(z08 hT3 hlS) z.symm
 have hHS:H lS=none:=by
  cases z:H lS with
  | none=>rfl
  | some o =>
   exfalso
   have:=kp3 nSx z
   rw [hlS] at this
   cases this
 have fz4:Frz [x] H (upd (upd H3 lS (.lst (ss.map V.int))) x (.ins CPour dx fs3)):=(fz3.trans (Frz.of s4)).trans (Frz.upd (by simp))
 have hx4:upd (upd H3 lS (.lst (ss.map V.int))) x (.ins CPour dx fs3) x=some (.ins CPour dx fs3):=z01
 have hT4:upd (upd H3 lS (.lst (ss.map V.int))) x (.ins CPour dx fs3) lT=some (.lst tl):=by rw [z0a nlTx]; exact s4 _ _ hT3
 have hS4:upd (upd H3 lS (.lst (ss.map V.int))) x (.ins CPour dx fs3) lS=some (.lst (ss.map V.int)):=by rw [z0a nSx,z01]
 have al4:IsAll K (upd (upd H3 lS (.lst (ss.map V.int))) x (.ins CPour dx fs3)) tl ((z0p gs.length ties).map pr):=z2g (IsAll.same s4 _ _ al3) fun b xs hb=>by
  rw [z0a (z66 hb (s4 _ _ hx3) (by intro z; cases z))]
  exact hb
 clear s4 al3 hx3 hT3 kp3 fz3 hlS
 generalize upd (upd H3 lS (.lst (ss.map V.int))) x (.ins CPour dx fs3)=H4 at fz4 hx4 hT4 hS4 al4 ⊢
 have kp4:∀{b:Addr} {o:HO},b≠x→H b=some o→H4 b=some o:=fun h q=>fz4 _ _ (by simpa using h) q
 refine⟨_,_,kp4 (nk hg) hg,kp4 (nk hk) hk,sz (by rw [y04,y04]; exact hsm),fun lP hlP=>?_⟩
 have ecap:gs.map V.int++ts.map V.int=(gs++ts).map V.int:=by rw [y0h]
 rw [ecap]
 have s5:=z06 hlP (.lst ((gs++ts).map V.int))
 refine⟨dx,fs3,s5 _ _ hx4,y2r ff3.len (by decide),?_⟩
 have ff4:=ff3.put "spare" (.ref lP)
 generalize z84 ("spare":Str) (V.ref lP) fs3=fs4 at ff4 ⊢
 have nPx:lP≠x:=fun z=>(z08 hx4 hlP) z.symm
 have nPT:lP≠lT:=fun z=>(z08 hT4 hlP) z.symm
 have nPS:lP≠lS:=fun z=>(z08 hS4 hlP) z.symm
 have hHP:H lP=none:=by
  cases z:H lP with
  | none=>rfl
  | some o =>
   exfalso
   have:=kp4 nPx z
   rw [hlP] at this
   cases this
 have fz5:Frz [x] H (upd (upd H4 lP (.lst ((gs++ts).map V.int))) x (.ins CPour dx fs4)):=(fz4.trans (Frz.of s5)).trans (Frz.upd (by simp))
 have hx5:upd (upd H4 lP (.lst ((gs++ts).map V.int))) x (.ins CPour dx fs4) x=some (.ins CPour dx fs4):=z01
 have hT5:upd (upd H4 lP (.lst ((gs++ts).map V.int))) x (.ins CPour dx fs4) lT=some (.lst tl):=by rw [z0a nlTx]; exact s5 _ _ hT4
 have hS5:upd (upd H4 lP (.lst ((gs++ts).map V.int))) x (.ins CPour dx fs4) lS=some (.lst (ss.map V.int)):=by rw [z0a nSx]; exact s5 _ _ hS4
 have hP5:upd (upd H4 lP (.lst ((gs++ts).map V.int))) x (.ins CPour dx fs4) lP=some (.lst ((gs++ts).map V.int)):=by rw [z0a nPx,z01]
 have al5:IsAll K (upd (upd H4 lP (.lst ((gs++ts).map V.int))) x (.ins CPour dx fs4)) tl ((z0p gs.length ties).map pr):=z2g (IsAll.same s5 _ _ al4) fun b xs hb=>by
  rw [z0a (z66 hb (s5 _ _ hx4) (by intro z; cases z))]
  exact hb
 clear s5 al4 hx4 hT4 hS4 kp4 fz4 hlP
 generalize upd (upd H4 lP (.lst ((gs++ts).map V.int))) x (.ins CPour dx fs4)=H5 at fz5 hx5 hT5 hS5 hP5 al5 ⊢
 refine⟨_,_,.ref lP,hx5,by rw [ff4.get,if_pos rfl],?_⟩
 refine .inl ⟨⟨_,SqL.of hP5⟩,cgo (σ':=[none]) rfl ?_⟩
 have hcl:((gs++ts).map V.int).length=gs.length+ts.length:=by rw [y04,y09]
 refine z1q (xs:=(gs++ts).map V.int) (fun i ys H'=>Same H5 H'∧∃as:List Addr,ys=as.map V.ref∧as.length=i∧as.Nodup∧∀a∈as,H' a=some (.lst [])∧H5 a=none) ⟨Same.refl _,[],rfl,rfl,List.nodup_nil,fun a ha=>by simp at ha⟩ (z0l (by omega)) ?_ ?_ ?_
 ·rintro i ys H' _ ⟨s6,as,rfl,hal,_⟩
  exact⟨SqL.of (s6 _ _ hP5),by rw [y04]; omega⟩
 ·rintro i y ys H' hy ⟨s6,as,rfl,hal,hnd,has⟩
  walk_at "run"
  refine z8c ⟨sz (by show 0≤1000; decide),fun p hp=>?_⟩
  have s7:=z06 hp (.lst [])
  refine CNx.mk ⟨s6.trans s7,as ++ [p],by rw [y0h]; rfl,by rw [y09]; simp; omega,?_,fun a ha=>?_⟩ (y00.mp hy).1
  ·rw [List.nodup_append]
   refine⟨hnd,by simp,fun a ha b hb=>?_⟩
   rw [y0a.mp hb]
   exact z08 (has a ha).1 hp
  ·rcases y0u.mp ha with ha | ha
   ·exact⟨s7 _ _ (has a ha).1,(has a ha).2⟩
   ·rw [y0a.mp ha]
    exact⟨z01,s6.free hp⟩
 rintro ys H6 ⟨s6,as,rfl,hasl,hnd,has⟩ lA hlA
 have s7:=z06 hlA (.lst (as.map V.ref))
 refine⟨dx,fs4,(s6.trans s7) _ _ hx5,y2r ff4.len (by decide),?_⟩
 have ff5:=ff4.put "ties_at" (.ref lA)
 generalize z84 ("ties_at":Str) (V.ref lA) fs4=fs5 at ff5 ⊢
 have hHA:lA≠x:=fun z=>(z08 (s6 _ _ hx5) hlA) z.symm
 have nfresh:∀a∈as,a≠x∧a≠lT∧a≠lS∧a≠lP∧a≠lA:=fun a ha=>by
  obtain⟨h1,h2⟩:=has a ha
  exact⟨fun z=>(z08 hx5 h2) z.symm,fun z=>(z08 hT5 h2) z.symm,fun z=>(z08 hS5 h2) z.symm,fun z=>(z08 hP5 h2) z.symm,fun z=>(z08 h1 hlA) z⟩
 have Ap:Aprt x lT lS lP lA as:=⟨nPx,nPT,nPS,fun z=>(z08 (s6 _ _ hP5) hlA) z,fun z=>(nfresh _ z).2.2.2.1 rfl,fun z=>(nfresh _ z).1 rfl,fun z=>(nfresh _ z).2.1 rfl,fun z=>(nfresh _ z).2.2.1 rfl,fun z=>(nfresh _ z).2.2.2.2 rfl,hnd⟩
 have nAT:lT≠lA:=z08 (s6 _ _ hT5) hlA
 have nAS:lS≠lA:=z08 (s6 _ _ hS5) hlA
 have fz7:Frz [x] H (upd (upd H6 lA (.lst (as.map V.ref))) x (.ins CPour dx fs5)):=(fz5.trans (Frz.of (s6.trans s7))).trans (Frz.upd (by simp))
 have s67:=s6.trans s7
 have I7:IniAt K CPour (upd (upd H6 lA (.lst (as.map V.ref))) x (.ins CPour dx fs5)) x dx lT lS lP lA fs5 tl (z0p gs.length ties) ss as (gs.length+ts.length) (fun e=>(gs++ts).getD e 0) (fun _=>[]):=by
  refine⟨z01,by rw [z0a nlTx]; exact s67 _ _ hT5,z2g (IsAll.same s67 _ _ al5) fun b xs hb=>by rw [z0a (z66 hb (s67 _ _ hx5) (by intro z; cases z))]; exact hb,by rw [z0a nSx]; exact s67 _ _ hS5,by rw [z0a hHA,z01],?_,fun e a h=>?_⟩
  ·rw [z0a nPx,s67 _ _ hP5]
   have:=zej (gs++ts)
   rw [y09] at this
   rw [this]
  ·have hm:=y03 h
   rw [z0a (nfresh a hm).1]
   exact s7 _ _ (has a hm).1
 generalize upd (upd H6 lA (.lst (as.map V.ref))) x (.ins CPour dx fs5)=H7 at fz7 I7 ⊢
 have hasH:∀a∈as,H a=none:=fun a ha=>by
  cases z:H a with
  | none=>rfl
  | some o =>
   exfalso
   have:=fz5 _ _ (by simpa using (nfresh a ha).1) z
   rw [(has a ha).2] at this
   cases this
 clear s7 s67 s6 hx5 hT5 hS5 hP5 al5 has nfresh hlA fz5
 have hG:fs5.lookup ("many_gives":Str)=some (.int (gs.length:Int)):=by rw [ff5.get,if_neg (by decide),if_neg (by decide),if_neg (by decide),if_neg (by decide),if_pos rfl]
 have hTe:fs5.lookup ("tie_ends":Str)=some (.ref lT):=by rw [ff5.get,if_neg (by decide),if_neg (by decide),if_neg (by decide),if_pos rfl]
 have hSe:fs5.lookup ("sent":Str)=some (.ref lS):=by rw [ff5.get,if_neg (by decide),if_neg (by decide),if_pos rfl]
 have hPe:fs5.lookup ("spare":Str)=some (.ref lP):=by rw [ff5.get,if_neg (by decide),if_pos rfl]
 have hAe:fs5.lookup ("ties_at":Str)=some (.ref lA):=by rw [ff5.get,if_pos rfl]
 have htll:tl.length=ties.length:=by have:=z0k I7.al; rw [y04,hel] at this; exact this
 have hasn:as.length=gs.length+ts.length:=by rw [hasl,hcl]
 walk_at "run"
 refine⟨_,_,_,I7.me,hTe,⟨_,SqL.of I7.te⟩,?_⟩
 refine zbk (xs:=tl) (fun i σ H'=>∃t5 t6 t7:Option V,σ = [some (.ref x),some (.ref ag),some (.ref ak),some (.ref ai),some (.ref ase),t5,t6,t7]∧Frz [x] H H'∧IniAt K CPour H' x dx lT lS lP lA fs5 tl (z0p gs.length ties) ss as (gs.length+ts.length) (zds (gs++ts) (z0p gs.length ties) ss i) (zcs (z0p gs.length ties) i))
  ⟨_,_,_,rfl,fz7,?_⟩ ?_ ?_ ?_
 ·have e1:(fun e=>(gs++ts).getD e 0)=zds (gs++ts) (z0p gs.length ties) ss 0:=by
   funext e
   unfold zds
   simp [PM.load]
  have e2:(fun _=>[])=zcs (z0p gs.length ties) 0:=by
   funext e
   rfl
  rw [←e1,←e2]
  exact I7
 ·rintro i σ H' _ ⟨t5,t6,t7,rfl,fz,I⟩
  exact SqL.of I.te
 ·clear I7 fz7
  rintro i y σ H' p hy ⟨t5,t6,t7,rfl,fz,I⟩ hp
  have hil:i<ties.length:=by rw [←htll]; exact(y00.mp hy).1
  obtain⟨pt,hpt⟩:∃pt,ties[i]?=some pt:=⟨_,y01 hil⟩
  have hend:(z0p gs.length ties)[i]?=some (pt.1,gs.length+pt.2):=by
   unfold z0p
   rw [y0b,hpt]
   rfl
  obtain⟨v1,v2⟩:=hties pt (y03 hpt)
  obtain⟨a,ha1,ha2⟩:=zj4 I.al hend
  rw [hy] at ha1
  cases ha1
  obtain⟨sv,hsv⟩:∃sv,ss[i]?=some sv:=⟨_,y01 (by omega)⟩
  have s8:=z06 hp (.tup [.int (i:Int),.ref a])
  have hpx:H p=none:=by
   cases z:H p with
   | none=>rfl
   | some o =>
    exfalso
    by_cases c:p=x
    ·subst c
     rw [I.me] at hp
     cases hp
    ·rw [fz _ _ (by simpa using c) z] at hp
     cases hp
  have I8:=I.same s8
  have fz8:=fz.trans (Frz.of (L:=[x]) s8)
  refine⟨_,_,SqT.of z01,?_⟩
  have ha8:=s8 _ _ ha2
  clear I fz
  generalize upd H' p (.tup [.int (i:Int),.ref a])=H8 at I8 fz8 ha8 ⊢
  walk_at "run"
  refine .inr ⟨⟨_,SqT.of ha8⟩,?_⟩
  refine zjm (xs:=[.int (pt.1:Int),.int ((gs.length+pt.2:Nat):Int)]) (fun j σ H'=>∃t7:Option V,σ = [some (.ref x),some (.ref ag),some (.ref ak),some (.ref ai),some (.ref ase),some (.int (i:Int)),some (.ref a),t7]∧Frz [x] H H'∧H' a=some (.tup [.int (pt.1:Int),.int ((gs.length+pt.2:Nat):Int)])∧∃(sf:Nat→Int) (af:Nat→List Nat),IniAt K CPour H' x dx lT lS lP lA fs5 tl (z0p gs.length ties) ss as (gs.length+ts.length) sf af ∧
    (∀e,sf e=zds (gs++ts) (z0p gs.length ties) ss i e - (if 1≤j∧e=pt.1 then sv else 0) - (if 2≤j∧e=gs.length+pt.2 then sv else 0))∧(∀e,af e=zcs (z0p gs.length ties) i e++(if 1≤j∧e=pt.1 then [i] else [])++(if 2≤j∧e=gs.length+pt.2 then [i] else [])))
   ⟨_,rfl,fz8,ha8,_,_,I8,fun e=>by simp,fun e=>by simp⟩ ?_ ?_ ?_
  ·rintro j σ H' _ ⟨t7,rfl,fz,h,_⟩
   exact SqT.of h
  ·clear I8 fz8 ha8
   rintro j v σ H' hv ⟨t7,rfl,fz,hta,sf,af,I,hsf,haf⟩
   obtain⟨e,rfl,he,hej⟩:∃e:Nat,v = .int (e:Int)∧e<gs.length+ts.length∧((j=0∧e=pt.1)∨(j=1∧e=gs.length+pt.2)):=by
    match j,hv with
    | 0,hv=>exact⟨pt.1,(y14 hv).symm,by omega,.inl ⟨rfl,rfl⟩⟩
    | 1,hv=>exact⟨gs.length+pt.2,(y14 hv).symm,by omega,.inr ⟨rfl,rfl⟩⟩
    | n+2,hv=>cases hv
   obtain⟨ae,hae⟩:∃ae,as[e]?=some ae:=⟨_,y01 (by omega)⟩
   walk_at "run"
   refine⟨_,_,_,I.me,hPe,_,_,I.sp,by omega,z54 (z5r sf he),_,_,_,I.me,hSe,_,_,.inl (SqL.of I.st),z2z hsv,?_⟩
   walk_at "run"
   refine⟨_,e,I.sp,z31 (by rw [y04,y04,y2u]; exact he),?_⟩
   have hset:(((y0c (gs.length+ts.length)).map sf).map V.int).set e (.int (sf e - sv))=((y0c (gs.length+ts.length)).map (fun y=>if y=e then sf e - sv else sf y)).map V.int:=by rw [←zkg,y2q]
   rw [hset]
   have I9:=I.spare Ap (fun y=>if y=e then sf e - sv else sf y)
   have fz9:Frz [x] H (upd H' lP (.lst (((y0c (gs.length+ts.length)).map (fun y=>if y=e then sf e - sv else sf y)).map V.int))):=fz.new hHP
   have hta9:upd H' lP (.lst (((y0c (gs.length+ts.length)).map (fun y=>if y=e then sf e - sv else sf y)).map V.int)) a=some (.tup [.int (pt.1:Int),.int ((gs.length+pt.2:Nat):Int)]):=by rw [z0a (z66 hta I.sp (by intro z; cases z))]; exact hta
   generalize upd H' lP (.lst (((y0c (gs.length+ts.length)).map (fun y=>if y=e then sf e - sv else sf y)).map V.int))=H9 at I9 fz9 hta9 ⊢
   have hr9:(as.map V.ref)[e]?=some (.ref ae):=by rw [y0b,hae]; rfl
   refine⟨_,_,_,I9.me,hAe,_,_,.inl (SqL.of I9.ta),z1v hr9,?_⟩
   walk_at "run"
   have hafl:(z09 (af e)).length≤2000:=by
    rw [z44,haf e]
    have h1:(zcs (z0p gs.length ties) i e).length≤i:=by
     unfold zcs
     refine y19 (y3g _ _) ?_
     simp
    rw [y09,y09]
    split<;>split<;>simp<;>omega
   refine⟨⟨_,I9.tt e ae hae⟩,_,I9.tt e ae hae,y2r hafl (by decide),?_⟩
   rw [zde]
   have I10:=I9.tie Ap hae (af e ++ [i])
   have hHae:H ae=none:=hasH ae (y03 hae)
   refine⟨_,rfl,fz9.new hHae,by rw [z0a (z66 hta9 (I9.tt e ae hae) (by intro z; cases z))]; exact hta9,_,_,I10,fun y=>?_,fun y=>?_⟩
   ·by_cases c:y=e
    ·subst c
     rw [if_pos rfl,hsf y]
     rcases hej with ⟨rfl,h2⟩ | ⟨rfl,h2⟩
     ·simp [h2]
     ·have:y≠pt.1:=by omega
      simp [h2,this]
    ·rw [if_neg c,hsf y]
     rcases hej with ⟨rfl,h2⟩ | ⟨rfl,h2⟩
     ·have:y≠pt.1:=by omega
      simp [this]
     ·have:y≠gs.length+pt.2:=by omega
      simp [this]
   ·by_cases c:y=e
    ·subst c
     rw [if_pos rfl,haf y]
     rcases hej with ⟨rfl,h2⟩ | ⟨rfl,h2⟩
     ·simp [h2]
     ·have:y≠pt.1:=by omega
      simp [h2,this]
    ·rw [if_neg c,haf y]
     rcases hej with ⟨rfl,h2⟩ | ⟨rfl,h2⟩
     ·have:y≠pt.1:=by omega
      simp [this]
     ·have:y≠gs.length+pt.2:=by omega
      simp [this]
  ·rintro σ H' ⟨t7,rfl,fz,hta,sf,af,I,hsf,haf⟩
   refine⟨_,_,_,rfl,fz,?_⟩
   have e1:sf=zds (gs++ts) (z0p gs.length ties) ss (i+1):=by
    funext e
    rw [hsf e]
    unfold zds
    rw [z0g hend,z0g hsv,zao (by rw [y0r,y0r]; omega)]
    by_cases c1:e=pt.1
    ·have c2:¬e=gs.length+pt.2:=by omega
     have:PM.inc (pt.1,gs.length+pt.2) e=true:=by simp [PM.inc,c1]
     simp [c1,this]
     have c3:¬pt.1=gs.length+pt.2:=by omega
     simp [c3]
     rw [c1] at this
     simp [this]
     omega
    ·by_cases c2:e=gs.length+pt.2
     ·have:PM.inc (pt.1,gs.length+pt.2) e=true:=by simp [PM.inc,c2]
      simp only [c1,and_false,if_false,this,if_true,c2,and_self]
      simp
      rw [c2] at this
      simp [this]
      omega
     ·have:PM.inc (pt.1,gs.length+pt.2) e=false:=by
       simp [PM.inc]
       omega
      simp [c1,c2,this]
   have e2:af=zcs (z0p gs.length ties) (i+1):=by
    funext e
    rw [haf e,zfc,show(z0p gs.length ties).getD i (0,0)=(pt.1,gs.length+pt.2) by simp [y1j,hend]]
    by_cases c1:e=pt.1
    ·subst c1
     have c2:¬pt.1=gs.length+pt.2:=by omega
     have:PM.inc (pt.1,gs.length+pt.2) pt.1=true:=by simp [PM.inc]
     simp [c2,this]
    ·by_cases c2:e=gs.length+pt.2
     ·subst c2
      have:PM.inc (pt.1,gs.length+pt.2) (gs.length+pt.2)=true:=by simp [PM.inc]
      simp [c1,this]
     ·have:PM.inc (pt.1,gs.length+pt.2) e=false:=by
       simp [PM.inc]
       omega
      simp [c1,c2,this]
   rw [←e1,←e2]
   exact I
 ·clear I7 fz7
  rintro σ H' ⟨t5,t6,t7,rfl,fz,I⟩
  rw [htll] at I
  have nin:∀{b:Addr},b≠lS→b≠lP→(if b=lS∨b=lP then none else H' b)=H' b:=fun h1 h2=>if_neg fun z=>z.elim h1 h2
  refine q lS lP H' fz hHS hHP ⟨⟨fun b=>if b=lS∨b=lP then none else H' b,fun b o h=>?_,if_pos (.inl rfl),if_pos (.inr rfl),fun m hm=>by simp at hm,⟨dx,fs5,lT,lA,?_,hG,hTe,hSe,hPe,hAe,?_,?_,fun m hm=>?_⟩⟩,fun m hm=>by simp at hm,I.st,?_,nPS.symm,zd0 hties,?_,?_,?_,?_⟩
  ·have h':(if b=lS∨b=lP then none else H' b)=some o:=h
   split at h'
   ·cases h'
   ·exact h'
  ·refine(nin nSx.symm nPx.symm).trans ?_
   exact I.me
  ·refine is_list.mpr ⟨lT,tl,rfl,?_,z2g I.al fun b ys hb=>?_⟩
   ·refine(nin nST.symm nPT.symm).trans ?_
    exact I.te
   ·refine(nin (z66 hb I.st (by intro z; cases z)) (z66 hb I.sp (by intro z; cases z))).trans ?_
    exact hb
  ·refine is_list.mpr ⟨lA,as.map V.ref,rfl,?_,zcn ?_ fun i v dd h1 h2=>?_⟩
   ·refine(nin nAS.symm Ap.PA.symm).trans ?_
    exact I.ta
   ·show _=(((y0c (gs.length+ts.length)).map (zcs (z0p gs.length ties) ties.length)).map z3k).length
    rw [y04,y04,y04,y2u]
    exact hasn
   ·have h2':(((y0c (gs.length+ts.length)).map (zcs (z0p gs.length ties) ties.length)).map z3k)[i]?=some dd:=h2
    rw [y0b] at h1
    cases z:as[i]? with
    | none=>rw [z] at h1; cases h1
    | some a =>
     rw [z] at h1
     cases h1
     have hin:i<gs.length+ts.length:=by have:=(y00.mp z).1; omega
     rw [y0b,z5r _ hin] at h2'
     cases h2'
     have hm:=y03 z
     refine is_list.mpr ⟨a,_,rfl,?_,z2h _⟩
     refine(nin (fun e=>Ap.inS (by rw [←e]; exact hm)) (fun e=>Ap.inP (by rw [←e]; exact hm))).trans ?_
     exact I.tt i a z
  ·rw [ff5.get]
   simp only [y0k,y1c,or_false] at hm
   rcases hm with rfl | rfl | rfl | rfl | rfl | rfl | rfl | rfl | rfl | rfl | rfl | rfl<;>(rw [if_neg (by decide),if_neg (by decide),if_neg (by decide),if_neg (by decide),if_neg (by decide)])
  ·exact I.sp
  ·show ss.length=(ties.map _).length
   rw [y04]
   exact hssl
  ·show _=gs.length+ts.length
   simp
  ·show gs.length+ts.length≤1000
   exact hsm
  ·show(ties.map _).length≤1000
   rw [y04]
   exact htl
abbrev z0r:Stmt:=z2x (top 12) 3
theorem z49:FnScope ["self"] ["self"] (z05 z0r):=⟨rfl,rfl,rfl,by decide +kernel,rfl,by decide +kernel,by decide +kernel⟩
theorem z47 (T:MTop K CPour "gives_with_rest" "Pour.gives_with_rest" z0r ["self"])(B:Blt mg)(F:FldsPour K CPour) :MDef P w K mg base CPour "gives_with_rest" 1 ["self"] (zhd K CPour):=by
 refine z2u (k:=0) T z49 (fun vs H Q E h=>?_) (fun f cdv A outer s H vs Q E hr h=>?_)
 ·obtain⟨me,N,aS,aP,sent,spare,M,rfl,_⟩:=h
  rfl
 obtain⟨me,N,aS,aP,sent,spare,M,rfl,hP,q⟩:=h
 obtain⟨dx,fs,aT,aA,ts,rs,g1,g2,g3,g4,g5,g6,g7,g8,g9,g10,g11⟩:=hP.get
 refine⟨_,(z07 (z0m (z4i (N:=["give","self"]) (fr:=[0]) 1 (zep B.range (z00 (z1m F.many_gives (cv 0)) z03)) (fun C hN=>by exact pgC ((z0f 0 hN)) (by walk_at "c")) (fun C hN=>by exact ptC ((z0s z6t (z0h z0i (z1m F.spare (cv 1)) (cv 0) (fun _ _=>rfl)) z04 (z0o _))) (by walk_at "c")) (fun C hN=>by exact peC ((cv 0)) (by walk_at "c"))))),?_⟩
 refine rd (σ':=[some (.ref me)]) rfl ?_
 walk_at "run"
 have gG:N.G≤N.nE:=hP.wf.gle
 have hsm:=hP.sm
 refine⟨_,_,_,g1,g2,?_⟩
 walk_at "run"
 refine⟨⟨by omega,by omega⟩,cgo (σ':=[none,some (.ref me)]) rfl ?_⟩
 refine z6k (n:=(N.G:Int).toNat) (fun i ys H'=>H'=H∧ys=z09 ((y0c i).filter fun g=>decide (0<spare.getD g 0))) ⟨rfl,rfl⟩ (z0l (by omega)) ?_ ?_ ?_
 ·rintro i ys H' _ ⟨rfl,rfl⟩
  unfold z09
  rw [y04]
  refine y19 (y3g _ _) ?_
  simp
 ·rintro i ys H' hi ⟨rfl,rfl⟩
  have hi':i<spare.length:=by rw [hP.lp]; omega
  walk_at "run"
  refine⟨_,_,_,g1,g5,_,_,.inl (SqL.of hP.sp),by rw [y3r]; exact z2z (z0y hi'),?_⟩
  walk_at "run"
  have e:(y0c (i+1)).filter (fun g=>decide (0<spare.getD g 0))=(y0c i).filter (fun g=>decide (0<spare.getD g 0))++(if 0<spare.getD i 0 then [i] else []):=by
   rw [y3h,y38]
   congr 1
   by_cases c:0<spare.getD i 0<;>simp only [y37,y6z,decide_eq_true_eq,c,if_true,if_false]
  refine z3j (fun c=>?_) (fun c=>?_)
  ·refine CNx.mk ⟨rfl,?_⟩ hi
   rw [e,if_pos (of_decide_eq_true c)]
   unfold z09
   rw [y0h,y3r]
   rfl
  ·refine CNx.mk ⟨rfl,?_⟩ hi
   rw [e,if_neg (fun z=>c (decide_eq_true z)),y2n]
 ·rintro ys H' ⟨rfl,rfl⟩ l hl
  exact q l hl
abbrev z1n:Stmt:=z2x (top 12) 4
theorem z6x:FnScope ["self","ends"] ["self","ends"] (z05 z1n):=⟨rfl,rfl,rfl,by decide +kernel,rfl,by decide +kernel,by decide +kernel⟩
theorem z6v (T:MTop K CPour "has_room" "Pour.has_room" z1n ["self","ends"])(B:Blt mg)(F:FldsPour K CPour) :MDef P w K mg base CPour "has_room" 1 ["self","ends"] (zdf K CPour):=by
 refine z2u (k:=0) T z6x (fun vs H Q E h=>?_) (fun f cdv A outer s H vs Q E hr h=>?_)
 ·obtain⟨me,N,aS,aP,sent,spare,M,l,es,rfl,_⟩:=h
  rfl
 obtain⟨me,N,aS,aP,sent,spare,M,l,es,rfl,hP,hl,hz,hes,q⟩:=h
 obtain⟨dx,fs,aT,aA,ts,rs,g1,g2,g3,g4,g5,g6,g7,g8,g9,g10,g11⟩:=hP.get
 refine⟨_,(z07 (z0m (z3m zjt B.any zjz (z00 (z3o (N:=["end","self"]) (fr:=[0]) 1 (z1k (cv 1)) (fun C hN=>by exact pgC ((z0f 0 hN)) (by walk_at "c")) (fun C hN=>by exact peC ((zab (z3e zkt (cv 0) (z1m F.many_gives (cv 1)) (z0o _)) (z7g (z3e z6t (z0h z0i (z1m F.spare (cv 1)) (cv 0) (fun _ _=>rfl)) z04 (z0o _))))) (by walk_at "c"))) z03)))),?_⟩
 refine rd (σ':=[some (.ref me),some (.ref l)]) rfl ?_
 walk_at "run"
 refine .inl ⟨⟨_,SqL.of hl⟩,cgo (σ':=[none,some (.ref me)]) rfl ?_⟩
 refine z1q (xs:=z09 es) (fun i ys H'=>H'=H∧ys=((es.take i).map (z55 N spare)).map V.bl) ⟨rfl,rfl⟩ (z0l (by unfold z09; rw [y04]; exact hz)) ?_ ?_ ?_
 ·rintro i ys H' _ ⟨rfl,rfl⟩
  refine⟨SqL.of hl,?_⟩
  rw [y04,y04,y0r]
  omega
 ·rintro i x ys H' hx ⟨rfl,rfl⟩
  obtain⟨e,he,rfl⟩:=z33 hx
  have hil:=(y00.mp hx).1
  have hen:=hes e (y03 he)
  have hlp:=hP.lp
  have hgoal:∀b:Bool,b=z55 N spare e→CNx (fun i ys H''=>H''=H'∧ys=((es.take i).map (z55 N spare)).map V.bl) (z09 es).length (i+1) (((es.take i).map (z55 N spare)).map V.bl ++ [V.bl b]) H':=fun b hb=>by
   refine CNx.mk ⟨rfl,?_⟩ hil
   rw [z0g he,y0h,y0h,hb]
   rfl
  walk_at "run"
  refine z8c ⟨_,_,_,g1,g2,?_⟩
  walk_at "run"
  refine z3j (fun c=>?_) (fun c=>?_)
  ·have c':N.G≤e:=by have:=of_decide_eq_true c; omega
   refine⟨_,_,_,g1,g5,_,_,.inl (SqL.of hP.sp),z2z (z0y (by omega)),?_⟩
   walk_at "run"
   refine hgoal _ ?_
   unfold z55
   rw [decide_eq_true c']
   rfl
  ·have c':¬N.G≤e:=fun z=>c (decide_eq_true (by omega))
   refine hgoal _ ?_
   unfold z55
   rw [decide_eq_false c']
   rfl
 ·rintro ys H' ⟨rfl,rfl⟩ l' hl'
  have hn:(z09 es).length=es.length:=by unfold z09; rw [y04]
  rw [hn,y05 (y07 _)]
  refine⟨es.map (z55 N spare),SqL.of z01,?_⟩
  rw [List.any_map]
  exact q _ (z06 hl' _)
abbrev z1z:Stmt:=z2x (top 12) 1
theorem sc_Pour_far_end:FnScope ["self","end","tie","ends"] ["self","end","tie"] (z05 z1z):=⟨rfl,rfl,rfl,by decide +kernel,rfl,by decide +kernel,by decide +kernel⟩
theorem z7s (T:MTop K CPour "far_end" "Pour.far_end" z1z ["self","end","tie"])(B:Blt mg)(F:FldsPour K CPour) :MDef P w K mg base CPour "far_end" 1 ["self","end","tie"] (zj5 K CPour):=by
 refine z2u (k:=0) T sc_Pour_far_end (fun vs H Q E h=>?_) (fun f cdv A outer s H vs Q E hr h=>?_)
 ·obtain⟨me,N,aS,aP,sent,spare,M,e,k,b,rfl,_⟩:=h
  rfl
 obtain⟨me,N,aS,aP,sent,spare,M,e,k,b,rfl,hP,ht,q⟩:=h
 obtain⟨dx,fs,aT,aA,ts,rs,g1,g2,g3,g4,g5,g6,g7,g8,g9,g10,g11⟩:=hP.get
 obtain⟨p,hp,hpe⟩:=ht
 obtain⟨a,h1,h2⟩:=zj4 g8 hp
 have hlo:=hP.wf.lo k p hp
 refine⟨_,(z02 (z0c 3 sc_Pour_far_end.nd (z0h z0i (z1m F.tie_ends (cv 0)) (cv 2) (fun _ _=>rfl)))
   (z07 (z0m (z9f (z0s z5b (cv 1) (z0h z0i (cv 3) z04 (fun _ _=>rfl)) (z0o _)) (z0h z0i (cv 3) z04 (fun _ _=>rfl)) (z0h z0i (cv 3) z04 (fun _ _=>rfl)))))),?_⟩
 refine rd (σ':=[some (.ref me),some (.int (e:Int)),some (.int (k:Int)),none]) rfl ?_
 walk_at "run"
 refine⟨_,_,_,g1,g3,_,_,.inl (SqL.of g7),z1v h1,?_⟩
 walk_at "run"
 have hT:SqT K H a _:=SqT.of h2
 refine⟨_,_,.inr hT,rfl,z3j (fun c=>?_) (fun c=>?_)⟩
 ·have c':(e:Int)=(p.1:Int):=of_decide_eq_true c
  have hb:b=p.2:=by
   rcases hpe with h | h<;>omega
  rw [hb] at q
  exact⟨_,_,.inr hT,rfl,q⟩
 ·have c':¬(e:Int)=(p.1:Int):=fun z=>c (decide_eq_true z)
  have hb:b=p.1:=by
   rcases hpe with h | h
   ·exact absurd (congrArg Int.ofNat h.1.symm) c'
   ·exact h.2.symm
  rw [hb] at q
  exact⟨_,_,.inr hT,rfl,q⟩
abbrev z27:Stmt:=z2x (top 12) 2
theorem z8a:FnScope ["self","end","tie"] ["self","end","tie"] (z05 z27):=⟨rfl,rfl,rfl,by decide +kernel,rfl,by decide +kernel,by decide +kernel⟩
theorem z89 (T:MTop K CPour "may_go" "Pour.may_go" z27 ["self","end","tie"])(B:Blt mg)(F:FldsPour K CPour) :MDef P w K mg base CPour "may_go" 1 ["self","end","tie"] (zld K CPour):=by
 refine z2u (k:=0) T z8a (fun vs H Q E h=>?_) (fun f cdv A outer s H vs Q E hr h=>?_)
 ·obtain⟨me,N,aS,aP,sent,spare,M,e,k,rfl,_⟩:=h
  rfl
 obtain⟨me,N,aS,aP,sent,spare,M,e,k,rfl,hP,hk,q⟩:=h
 obtain⟨dx,fs,aT,aA,ts,rs,g1,g2,g3,g4,g5,g6,g7,g8,g9,g10,g11⟩:=hP.get
 refine⟨_,(z07 (z0m (zn1 (z3e z6z (cv 1) (z1m F.many_gives (cv 0)) (z0o _)) (z7g (z3e z6t (z0h z0i (z1m F.sent (cv 0)) (cv 2) (fun _ _=>rfl)) z04 (z0o _)))))),?_⟩
 refine rd (σ':=[some (.ref me),some (.int (e:Int)),some (.int (k:Int))]) rfl ?_
 walk_at "run"
 refine⟨_,_,_,g1,g2,?_⟩
 walk_at "run"
 unfold goB at q
 refine z3j (fun c=>?_) (fun c=>?_)
 ·have c':e<N.G:=by have:=of_decide_eq_true c; omega
  rw [decide_eq_true c'] at q
  exact q
 ·have c':¬e<N.G:=fun z=>c (decide_eq_true (by omega))
  rw [decide_eq_false c'] at q
  refine⟨_,_,_,g1,g4,_,_,.inl (SqL.of hP.st),z2z (z0y hk),?_⟩
  walk_at "run"
  exact q
abbrev z1b:Stmt:=z2x (top 12) 6
theorem sc_Pour_row_behind:FnScope ["self","row","steps","behind","end","tie","far"] ["self","row","steps"] (z05 z1b):=⟨rfl,rfl,rfl,by decide +kernel,rfl,by decide +kernel,by decide +kernel⟩
theorem z5h (T:MTop K CPour "row_behind" "Pour.row_behind" z1b ["self","row","steps"])(B:Blt mg)(F:FldsPour K CPour)(D_Pour_far_end:MDef P w K mg base CPour "far_end" 1 ["self","end","tie"] (zj5 K CPour))(D_Pour_may_go:MDef P w K mg base CPour "may_go" 1 ["self","end","tie"] (zld K CPour)):MDef P w K mg base CPour "row_behind" 2 ["self","row","steps"] (zdg K CPour):=by
 refine z2u (k:=1) T sc_Pour_row_behind (fun vs H Q E h=>?_) (fun f cdv A outer s H vs Q E hr h=>?_)
 ·obtain⟨me,N,aS,aP,sent,spare,M,ar,ast,row,steps0,d,rfl,_⟩:=h
  rfl
 obtain⟨me,N,aS,aP,sent,spare,M,ar,ast,row,steps0,d,rfl,hP,hM,hr0,hne,hst,hl0,hrow,q⟩:=h
 obtain⟨G0,f1,f2,f3,f4,fx⟩:=hP.ok
 obtain⟨dx,fs,aT,aA,ts,rs,g1,g2,g3,g4,g5,g6,g7,g8,g9,g10,g11⟩:=fx.get
 have Fst:=f4 _ hM
 refine⟨_,(z02 (z0c 3 sc_Pour_row_behind.nd (z1l z03))
   (z02 (z23 (z1k (cv 1)) (z0f 4 sc_Pour_row_behind.nd)
   (z07 (z23 (z1k (z0h z0i (z1m F.ties_at (cv 0)) (cv 4) (fun _ _=>rfl))) (z0f 5 sc_Pour_row_behind.nd)
    (z02 (z0c 6 sc_Pour_row_behind.nd (z2b D_Pour_far_end (hr.mono (by decide)) (cv 0) (z00 (cv 4) (z00 (cv 5) z03))))
     (z07 (z2p (zau (z0s z6z (z0h z0i (cv 2) (cv 6) (fun _ _=>rfl)) z04 (z0o _)) (z77 (z2l (z2b D_Pour_may_go (hr.mono (by decide)) (cv 0) (z00 (cv 4) (z00 (cv 5) z03)))))).pt
     (z02 (z8x (z0j z1p (z0h z0i (cv 2) (cv 4) (fun _ _=>rfl)) z04) (zag (cv 2) (cv 6) z4d))
      (z07 (z25 (z19 (cv 3) (z00 (cv 6) z03)))))
     z0z))))))
   (z07 (z0m (cv 3))))),?_⟩
 refine rd (σ':=[some (.ref me),some (.ref ar),some (.ref ast),none,none,none,none]) rfl ?_
 walk_at "run"
 refine⟨sz (by show 0≤1000; decide),fun l hl=>.inl ⟨⟨_,SqL.of (z06 hl _ _ _ hr0)⟩,?_⟩⟩
 have hlst:l≠ast:=fun z=>(z08 hst hl) z.symm
 have hlar:ar≠l:=z08 hr0 hl
 have Fl:=f1.free hl
 refine z2f (xs:=z09 row) (fun i σ H'=>∃(steps:List Int) (behind:List Nat) (t4 t5 t6:Option V),σ = [some (.ref me),some (.ref ar),some (.ref ast),some (.ref l),t4,t5,t6]∧Frz [ast] H H'∧H' ast=some (.lst (steps.map V.int))∧H' l=some (.lst (z09 behind))∧PM.Behind N sent d row steps0 (fun a _=>a∈row.take i) steps behind∧behind.length+PM.unr steps=PM.unr steps0)
  ⟨steps0,[],_,_,_,rfl,Frz.of (z06 hl _),z06 hl _ _ _ hst,z01,PM.Behind.start.weak (fun a k h=>by simp at h),by simp⟩ ?_ ?_ ?_
 ·rintro i σ H' _ ⟨steps,behind,t4,t5,t6,rfl,fz,_⟩
  exact SqL.of (fz _ _ (by simpa using hne) hr0)
 ·rintro i x σ H' hx ⟨steps,behind,t4,t5,t6,rfl,fz,h1,h2,B,hu⟩
  obtain⟨e,he,rfl⟩:=z33 hx
  have hem:=y03 he
  have hlv:=hrow e hem
  have hen:e<N.nE:=by rw [←hl0]; exact zan (by omega)
  obtain⟨le,hle⟩:∃le,N.at'[e]?=some le:=⟨_,y01 (by rw [hP.wf.len]; exact hen)⟩
  obtain⟨ae,ha1,ha2⟩:=z5c g10 hle
  have sF':=Same.frz f1 fz (fun x hx=>by rw [y0a.mp hx]; exact Fst)
  walk_at "run"
  refine⟨_,_,_,sF' _ _ g1,g6,_,_,.inl (SqL.of (sF' _ _ g9)),z1v ha1,?_⟩
  walk_at "run"
  refine .inl ⟨⟨_,SqL.of (sF' _ _ ha2)⟩,?_⟩
  refine z2f (xs:=z09 le) (fun j σ H'=>∃(steps:List Int) (behind:List Nat) (t5 t6:Option V),σ = [some (.ref me),some (.ref ar),some (.ref ast),some (.ref l),some (.int (e:Int)),t5,t6]∧Frz [ast] H H'∧H' ast=some (.lst (steps.map V.int))∧H' l=some (.lst (z09 behind))∧PM.Behind N sent d row steps0 (fun a k=>a∈row.take i∨(a=e∧k∈le.take j)) steps behind∧behind.length+PM.unr steps=PM.unr steps0)
   ⟨steps,behind,_,_,rfl,fz,h1,h2,B.weak (fun a k h=>by simpa using h),hu⟩ ?_ ?_ ?_
  ·rintro j σ H' _ ⟨steps,behind,t5,t6,rfl,fz,_⟩
   exact SqL.of ((Same.frz f1 fz (fun x hx=>by rw [y0a.mp hx]; exact Fst)) _ _ ha2)
  ·clear B h1 h2 hu sF' fz
   rintro j x σ H' hx ⟨steps,behind,t5,t6,rfl,fz,h1,h2,B,hu⟩
   obtain⟨k,hk,rfl⟩:=z33 hx
   have hP':=hP.frz fz (fun x hx=>by rw [y0a.mp hx]; exact hM)
   have sF':=Same.frz f1 fz (fun x hx=>by rw [y0a.mp hx]; exact Fst)
   obtain⟨p,hp,hpe⟩:=(hP.wf.mem e le k hle).mp (y03 hk)
   obtain⟨b,ht⟩:∃b,PM.Tie N e k b:=by
    rcases hpe with z | z
    ·exact⟨p.2,p,hp,.inl ⟨z,rfl⟩⟩
    ·exact⟨p.1,p,hp,.inr ⟨z,rfl⟩⟩
   have hkl:k<sent.length:=by rw [hP.ls]; exact(y00.mp hp).1
   have hbn:b<N.nE:=by
    obtain⟨p',hp',hq⟩:=ht
    have:=hP.wf.lo k p' hp'
    have:=hP.wf.gle
    rcases hq with z | z<;>omega
   have hsl:steps.length=N.nE:=by rw [B.len,hl0]
   have hle1:PM.Lv steps e=d:=by rw [B.old e (by omega)]; exact hlv
   have nxt:∀{P:Nat→Nat→Prop} {steps:List Int} {behind:List Nat},PM.Behind N sent d row steps0 (fun x y=>(x∈row.take i∨(x=e∧y∈le.take j))∨(x=e∧y=k)) steps behind→PM.Behind N sent d row steps0 (fun a k=>a∈row.take i∨(a=e∧k∈le.take (j+1))) steps behind:=fun {P steps behind} B=>B.weak fun a y h=>by
    rw [z0g hk] at h
    rcases h with h | ⟨h1,h2⟩
    ·exact .inl (.inl h)
    ·rcases y0u.mp h2 with h2 | h2
     ·exact .inl (.inr ⟨h1,h2⟩)
     ·exact .inr ⟨h1,y0a.mp h2⟩
   walk_at "run"
   refine⟨_,_,sF' _ _ g1,g11 _ (by decide),me,N,aS,aP,sent,spare,M,e,k,b,rfl,hP',ht,?_⟩
   walk_at "run"
   refine⟨_,_,.inl (SqL.of h1),z2z (ze2 (by omega)),?_⟩
   walk_at "run"
   refine z3j (fun c=>?_) (fun c=>?_)
   ·have c':=of_decide_eq_true c
    refine⟨_,_,sF' _ _ g1,g11 _ (by decide),me,N,aS,aP,sent,spare,M,e,k,rfl,hP',hkl,?_⟩
    walk_at "run"
    refine z3j (fun cg=>?_) (fun cg=>?_)
    ·have go:=(zbs hkl).mp cg
     refine⟨_,_,.inl (SqL.of h1),z2z (ze2 (by omega)),?_⟩
     walk_at "run"
     refine⟨_,b,h1,z31 (by rw [y04]; omega),?_⟩
     have hset:(steps.map V.int).set b (.int (PM.Lv steps e+1))=(steps.set b (PM.Lv steps e+1)).map V.int:=by rw [y2q]
     rw [hset,hle1]
     have B':=nxt (P:=fun _ _=>True) (B.mark hP.wf ht go hem c' (by omega))
     have hu':=PM.unr_set (ze2 (steps:=steps) (e:=b) (by omega)) c' (show(0:Int)≤(d:Int)+1 by omega)
     have hul:=PM.unr_len steps0
     have hsm:=hP.sm
     have h2':upd H' ast (.lst ((steps.set b ((d:Int)+1)).map V.int)) l=some (.lst (z09 behind)):=by rw [z0a hlst]; exact h2
     have hbl:(z09 behind).length=behind.length:=by unfold z09; rw [y04]
     refine⟨⟨_,h2'⟩,_,h2',z0l (by omega),?_⟩
     refine⟨_,behind ++ [b],_,_,rfl,?_,?_,?_,B',by rw [y09]; simp; omega⟩
     ·intro x o hx q'
      have hx':x≠ast:=by simpa using hx
      have hxl:x≠l:=z08 q' hl
      rw [z0a hxl,z0a hx']
      exact fz x o hx q'
     ·rw [z0a (Ne.symm hlst),z01]
     ·rw [z01]
      unfold z09
      rw [y0h]
      rfl
    ·exact⟨steps,behind,_,_,rfl,fz,h1,h2,nxt (P:=fun _ _=>True) (B.skip hP.wf ht (.inr fun z=>cg ((zbs hkl).mpr z))),hu⟩
   ·have c':¬PM.Lv steps b<0:=fun z=>c (decide_eq_true z)
    exact⟨steps,behind,_,_,rfl,fz,h1,h2,nxt (P:=fun _ _=>True) (B.skip hP.wf ht (.inl (by omega))),hu⟩
  ·clear B h1 h2 hu sF' fz
   rintro σ H' ⟨steps,behind,t5,t6,rfl,fz,h1,h2,B,hu⟩
   refine⟨steps,behind,_,_,_,rfl,fz,h1,h2,B.weakT fun a k b h t=>?_,hu⟩
   rw [z0g he] at h
   rcases y0u.mp h with h | h
   ·exact .inl h
   ·have:=y0a.mp h
    subst this
    refine .inr ⟨rfl,?_⟩
    have hn:(z09 le).length=le.length:=by unfold z09; rw [y04]
    rw [hn,y05 (y07 _)]
    exact t.mem hP.wf hle
 ·rintro σ H' ⟨steps,behind,t4,t5,t6,rfl,fz,h1,h2,B,hu⟩
  walk_at "run"
  refine q l steps behind H' fz h1 hl h2 (B.weak fun a k h=>?_) hu
  have hn:(z09 row).length=row.length:=by unfold z09; rw [y04]
  rw [hn,y05 (y07 _)]
  exact h
abbrev z0w:Stmt:=z2x (top 12) 5
theorem sc_Pour_steps_to_room:FnScope ["self","steps","row","give"] ["self"] (z05 z0w):=⟨rfl,rfl,rfl,by decide +kernel,rfl,by decide +kernel,by decide +kernel⟩
theorem z4k (T:MTop K CPour "steps_to_room" "Pour.steps_to_room" z0w ["self"])(B:Blt mg)(F:FldsPour K CPour)(D_Pour_gives_with_rest:MDef P w K mg base CPour "gives_with_rest" 1 ["self"] (zhd K CPour))(D_Pour_has_room:MDef P w K mg base CPour "has_room" 1 ["self","ends"] (zdf K CPour))(D_Pour_row_behind:MDef P w K mg base CPour "row_behind" 2 ["self","row","steps"] (zdg K CPour)):MDef P w K mg base CPour "steps_to_room" 3 ["self"] (zfi K CPour):=by
 refine z2u (k:=2) T sc_Pour_steps_to_room (fun vs H Q E h=>?_) (fun f cdv A outer s H vs Q E hr h=>?_)
 ·obtain⟨me,N,aS,aP,sent,spare,M,rfl,_⟩:=h
  rfl
 obtain⟨me,N,aS,aP,sent,spare,M,rfl,hP,q⟩:=h
 obtain⟨dx,fs,aT,aA,ts,rs,g1,g2,g3,g4,g5,g6,g7,g8,g9,g10,g11⟩:=hP.get
 have hsm:=hP.sm
 have hg:=hP.wf.gle
 have hsp:(spare.map V.int).length=N.nE:=by rw [y04]; exact hP.lp
 refine⟨_,(z02 (z0c 1 sc_Pour_steps_to_room.nd (z0j z1y (z1l (z00 (z9k z5k z04) z03)) (z3m z24 B.len y17 (z00 (z1m F.spare (cv 0)) z03))))
   (z02 (z0c 2 sc_Pour_steps_to_room.nd (z5p D_Pour_gives_with_rest (hr.mono (by decide)) (cv 0)))
   (z02 (z23 (z1k (cv 2)) (z0f 3 sc_Pour_steps_to_room.nd)
   (z07 (z8x z04 (zag (cv 1) (cv 3) z4d))))
   (z02 (z3y (zau (z0s z6t (z3m z24 B.len y17 (z00 (cv 2) z03)) z04 (z0o _)) (z77 (z4m (z2l (z2b D_Pour_has_room (hr.mono (by decide)) (cv 0) (z00 (cv 2) z03)))))).pt
   (z07 (z0c 2 sc_Pour_steps_to_room.nd (z2b D_Pour_row_behind (hr.mono (by decide)) (cv 0) (z00 (cv 2) (z00 (cv 1) z03))))))
   (z07 (z0m (cv 1))))))),?_⟩
 refine rd (σ':=[some (.ref me),none,none,none]) rfl ?_
 walk_at "run"
 refine⟨sz (by show 1≤1000; decide),fun l0 hl0=>?_⟩
 have s0:=z06 hl0 (.lst [.int (-1)])
 refine⟨_,_,_,s0 _ _ g1,g5,_,.inl (SqL.of (s0 _ _ hP.sp)),?_⟩
 rw [hsp]
 walk_at "run"
 refine⟨_,z01,by omega,by omega,sz (by show 1*_≤1000; omega),fun l hl=>?_⟩
 rw [z48]
 have e0:y06 ((N.nE:Int)).toNat (V.int (-1))=(y06 N.nE (-1)).map V.int:=by rw [y30]; rfl
 rw [e0]
 have s1:=z06 hl (.lst ((y06 N.nE (-1)).map V.int))
 have sA:=s0.trans s1
 have hlH:H l=none:=s0.free hl
 have hP1:=(hP.same s0).new hl |>.same s1
 refine⟨_,_,sA _ _ g1,g11 _ (by decide),me,N,aS,aP,sent,spare,_,rfl,hP1,fun r hr=>?_⟩
 have s2:=z06 hr (.lst (z09 (rest N spare)))
 have hl1:upd (upd (upd H l0 (.lst [.int (-1)])) l (.lst ((y06 N.nE (-1)).map V.int))) r (.lst (z09 (rest N spare))) l=some (.lst ((y06 N.nE (-1)).map V.int)):=s2 _ _ z01
 have hrl:r≠l:=fun z=>by
  subst z
  rw [z01] at hr
  cases hr
 walk_at "run"
 refine .inl ⟨⟨_,SqL.of z01⟩,?_⟩
 have hP3:=hP1.same s2
 have hr3:upd (upd (upd H l0 (.lst [.int (-1)])) l (.lst ((y06 N.nE (-1)).map V.int))) r (.lst (z09 (rest N spare))) r=some (.lst (z09 (rest N spare))):=z01
 have sB:=sA.trans s2
 have e1:H me=some (.ins CPour dx fs):=g1
 clear hP1 s0 s1 s2 sA hr hl e0
 generalize upd (upd (upd H l0 (.lst [.int (-1)])) l (.lst ((y06 N.nE (-1)).map V.int))) r (.lst (z09 (rest N spare)))=H3 at hP3 hr3 hl1 sB ⊢
 have back:∀H',Frz [l] H3 H'→Same H H':=fun H' fz b o h=>fz b o (by simpa using z08 h hlH) (sB b o h)
 have hlen:(z09 (rest N spare)).length=(rest N spare).length:=by unfold z09; rw [y04]
 refine z2f (xs:=z09 (rest N spare)) (fun i σ H'=>∃(steps:List Int) (t:Option V),σ = [some (.ref me),some (.ref l),some (.ref r),t]∧Frz [l] H3 H'∧H' l=some (.lst (steps.map V.int))∧steps.length=N.nE∧∀e,PM.Lv steps e=if e∈(rest N spare).take i then 0 else -1)
  ⟨_,_,rfl,fun b o _ h=>h,hl1,by rw [y1z],fun e=>?_⟩ ?_ ?_ ?_
 ·unfold PM.Lv
  rw [y0o,y1i]
  split<;>simp
 ·rintro i σ H' _ ⟨steps,t,rfl,fz,_⟩
  exact SqL.of (fz _ _ (by simpa using hrl) hr3)
 ·rintro i x σ H' hx ⟨steps,t,rfl,fz,h1,hsl,hlv⟩
  obtain⟨g,hg1,rfl⟩:=z33 hx
  have hgm:=rest_mem.mp (y03 hg1)
  walk_at "run"
  refine⟨_,g,h1,z31 (by rw [y04]; omega),steps.set g 0,_,rfl,fz.trans (Frz.upd (by simp)),by rw [z01,y2q],by rw [y32]; exact hsl,fun e=>?_⟩
  rw [PM.lv_set (by omega),z0g hg1]
  by_cases c:e=g
  ·subst c
   simp
  ·rw [if_neg c,hlv e]
   simp [c]
 rintro σ H' ⟨steps,t,rfl,fz,h1,hsl,hlv⟩
 rw [hlen,y05 (y07 _)] at hlv
 have R0:=zor (sent:=sent) hP.wf hsl hP.lp hlv
 have hrl':=zie (N:=N) (spare:=spare)
 walk_at "run"
 refine⟨fun m σ H'=>∃(d:Nat) (row:List Nat) (steps:List Int) (ar:Addr) (t:Option V),σ = [some (.ref me),some (.ref l),some (.ref ar),t]∧Frz [l] H3 H'∧H' l=some (.lst (steps.map V.int))∧H' ar=some (.lst (z09 row))∧ar≠l∧steps.length=N.nE∧row.length≤1000∧PM.Rows N sent spare d row steps∧m=2*PM.unr steps+(if row = [] then 0 else 1),
  ⟨_,0,rest N spare,steps,r,_,rfl,fz,h1,fz _ _ (by simpa using hrl) hr3,hrl,hsl,by omega,R0,rfl⟩,?_⟩
 clear R0 hlv h1 fz hsl
 rintro m σ H' ⟨d,row,steps,ar,t,rfl,fz,h1,h2,hne,hsl,hrow,R,rfl⟩
 have hrn:(z09 row).length=row.length:=by unfold z09; rw [y04]
 have sH:=back H' fz
 have hP':=hP3.frz fz (fun x hx=>by rw [y0a.mp hx]; exact y0d)
 have inr:∀e∈row,e<N.nE:=fun e he=>by
  have:=(R.row e).mp he
  rw [←hsl]
  exact zan (by omega)
 walk_at "run"
 refine⟨_,.inl (SqL.of h2),?_⟩
 rw [hrn]
 walk_at "run"
 refine z3j (fun c=>?_) (fun c=>z8b ?_)
 ·have c':row ≠ []:=by
   rintro rfl
   simp at c
  refine⟨_,_,sH _ _ g1,g11 _ (by decide),me,N,aS,aP,sent,spare,_,ar,row,rfl,hP',h2,hrow,inr,fun H4 s4=>?_⟩
  walk_at "run"
  refine z3j (fun ca=>?_) (fun ca=>?_)
  ·have nor:∀e∈row,¬PM.Room N spare e:=fun e he hR=>by
    have:row.any (z55 N spare)=true:=y1h.mpr ⟨e,he,(z45 (by rw [hP.lp]; exact inr e he)).mpr hR⟩
    rw [this] at ca
    cases ca
   refine⟨_,_,(sH.trans s4) _ _ g1,g11 _ (by decide),me,N,aS,aP,sent,spare,_,ar,l,row,steps,d,rfl,hP'.same s4,y0d,s4 _ _ h2,hne,s4 _ _ h1,hsl,fun e he=>(R.row e).mp he,fun l2 steps2 behind H5 fz5 k1 k2 k3 B hu=>?_⟩
   have hul:=PM.unr_len steps
   refine⟨_,?_,d+1,behind,steps2,l2,_,rfl,fz.trans ((Frz.of s4).trans fz5),k1,k3,fun z=>?_,by rw [B.len]; exact hsl,by omega,R.next B nor,rfl⟩
   ·rw [if_neg c']
    split
    ·omega
    ·rename_i hb
     have:=y0t.mpr hb
     omega
   ·subst z
    rw [s4 _ _ h1] at k2
    cases k2
  ·have ca':row.any (z55 N spare)=true:=by simpa using ca
   obtain⟨e,he,hR⟩:=y1h.mp ca'
   exact q l steps H4 (sH.trans s4) hlH (s4 _ _ h1) hsl ⟨d,row,R,.inr ⟨e,he,(z45 (by rw [hP.lp]; exact inr e he)).mp hR⟩⟩
 ·have c':row = []:=by
   rcases y1v row.length with z | z
   ·exact y1k.mp z
   ·exact absurd (decide_eq_true (by omega)) c
  exact q l steps H' sH hlH h1 hsl ⟨d,row,R,.inl c'⟩
abbrev z1s:Stmt:=z2x (top 12) 10
theorem z6u:FnScope ["self","end","tie","steps"] ["self","end","tie","steps"] (z05 z1s):=⟨rfl,rfl,rfl,by decide +kernel,rfl,by decide +kernel,by decide +kernel⟩
theorem z6w (T:MTop K CPour "leads_on" "Pour.leads_on" z1s ["self","end","tie","steps"])(B:Blt mg)(D_Pour_may_go:MDef P w K mg base CPour "may_go" 1 ["self","end","tie"] (zld K CPour))(D_Pour_far_end:MDef P w K mg base CPour "far_end" 1 ["self","end","tie"] (zj5 K CPour)):MDef P w K mg base CPour "leads_on" 2 ["self","end","tie","steps"] (zhm K CPour):=by
 refine z2u (k:=1) T z6u (fun vs H Q E h=>?_) (fun f cdv A outer s H vs Q E hr h=>?_)
 ·obtain⟨me,N,aS,aP,sent,spare,M,ast,steps,e,k,b,rfl,_⟩:=h
  rfl
 obtain⟨me,N,aS,aP,sent,spare,M,ast,steps,e,k,b,rfl,hP,hst,hsl,ht,q⟩:=h
 obtain⟨dx,fs,aT,aA,ts,rs,g1,g2,g3,g4,g5,g6,g7,g8,g9,g10,g11⟩:=hP.get
 obtain⟨t1,t2,t3⟩:=zjq hP.wf ht
 refine⟨_,(z07 (z0m (zab (z3e z5b (z0h z0i (cv 3) (z2b D_Pour_far_end (hr.mono (by decide)) (cv 0) (z00 (cv 1) (z00 (cv 2) z03))) (fun _ _=>rfl)) (z0j z1p (z0h z0i (cv 3) (cv 1) (fun _ _=>rfl)) z04) (z0o _)) (z7g (z2b D_Pour_may_go (hr.mono (by decide)) (cv 0) (z00 (cv 1) (z00 (cv 2) z03))))))),?_⟩
 refine rd (σ':=[some (.ref me),some (.int (e:Int)),some (.int (k:Int)),some (.ref ast)]) rfl ?_
 walk_at "run"
 refine⟨_,_,g1,g11 _ (by decide),me,N,aS,aP,sent,spare,M,e,k,b,rfl,hP,ht,?_⟩
 walk_at "run"
 refine⟨_,_,.inl (SqL.of hst),z2z (ze2 (by omega)),_,_,.inl (SqL.of hst),z2z (ze2 (by omega)),?_⟩
 walk_at "run"
 unfold zgm at q
 refine z3j (fun c=>?_) (fun c=>?_)
 ·rw [c,y78] at q
  exact⟨_,_,g1,g11 _ (by decide),me,N,aS,aP,sent,spare,M,e,k,rfl,hP,by rw [hP.ls]; exact t3,q⟩
 ·rw [eq_false_of_ne_true c,y71] at q
  exact q
abbrev z0u:Stmt:=z2x (top 12) 9
theorem sc_Pour_skip_dead_ties:FnScope ["self","end","steps","tried","ties"] ["self","end","steps","tried"] (z05 z0u):=⟨rfl,rfl,rfl,by decide +kernel,rfl,by decide +kernel,by decide +kernel⟩
theorem z4e (T:MTop K CPour "skip_dead_ties" "Pour.skip_dead_ties" z0u ["self","end","steps","tried"])(B:Blt mg)(F:FldsPour K CPour)(D_Pour_leads_on:MDef P w K mg base CPour "leads_on" 2 ["self","end","tie","steps"] (zhm K CPour)):MDef P w K mg base CPour "skip_dead_ties" 3 ["self","end","steps","tried"] (zk1 K CPour):=by
 refine z2u (k:=2) T sc_Pour_skip_dead_ties (fun vs H Q E h=>?_) (fun f cdv A outer s H vs Q E hr h=>?_)
 ·obtain⟨me,N,aS,aP,sent,spare,M,ast,atr,steps,tried,e,g,es,way,rfl,_⟩:=h
  rfl
 obtain⟨me,N,aS,aP,sent,spare,M,ast,atr,steps,tried,e,g,es,way,rfl,hP,hM,hne,hst,hsl,htr,W0,hes,hen,q⟩:=h
 obtain⟨G0,f1,f2,f3,f4,fx⟩:=hP.ok
 obtain⟨dx,fs,aT,aA,ts,rs,g1,g2,g3,g4,g5,g6,g7,g8,g9,g10,g11⟩:=fx.get
 have Ftr:=f4 _ hM
 obtain⟨le,hle⟩:∃le,N.at'[e]?=some le:=⟨_,y01 (by rw [hP.wf.len]; exact hen)⟩
 obtain⟨ae,ha1,ha2⟩:=z5c g10 hle
 have hnl:(z09 le).length=le.length:=by unfold z09; rw [y04]
 refine⟨_,(z02 (z0c 4 sc_Pour_skip_dead_ties.nd (z0h z0i (z1m F.ties_at (cv 0)) (cv 1) (fun _ _=>rfl)))
   (z07 (z3y (zau (z0s z6z (z0h z0i (cv 3) (cv 1) (fun _ _=>rfl)) (z3m z24 B.len y17 (z00 (cv 4) z03)) (z0o _)) (z77 (z4m (z2l (z2b D_Pour_leads_on (hr.mono (by decide)) (cv 0) (z00 (cv 1) (z00 (z0h z0i (cv 4) (z0h z0i (cv 3) (cv 1) (fun _ _=>rfl)) (fun _ _=>rfl)) (z00 (cv 2) z03)))))))).pt
   (z07 (z59 (cv 3) (cv 1) z7v z04 zbu z4d))))),?_⟩
 refine rd (σ':=[some (.ref me),some (.int (e:Int)),some (.ref ast),some (.ref atr),none]) rfl ?_
 walk_at "run"
 refine⟨_,_,_,f1 _ _ g1,g6,_,_,.inl (SqL.of (f1 _ _ g9)),z1v ha1,?_⟩
 refine⟨fun m σ H'=>∃(tried':List Int) (t:Nat),σ = [some (.ref me),some (.int (e:Int)),some (.ref ast),some (.ref atr),some (.ref ae)]∧Frz [atr] H H'∧H' atr=some (.lst (tried'.map V.int))∧PM.Walk N sent spare steps g tried' es way∧PM.pot N.at' tried'≤PM.pot N.at' tried∧(∀b,PM.Exh N spare tried b→PM.Exh N spare tried' b)∧tried'[e]?=some (t:Int)∧t≤le.length∧m=le.length - t,?_,?_⟩
 ·have hl:=W0.tr.len
  obtain⟨z,hz⟩:∃z,tried[e]?=some z:=⟨_,y01 (by omega)⟩
  obtain⟨z0,z1⟩:=W0.tr.ok e le z hle hz
  obtain⟨t,rfl⟩:=y2e z0
  exact⟨_,tried,t,rfl,fun b o _ h=>h,htr,W0,y07 _,fun b h=>h,hz,by omega,rfl⟩
 ·rintro m σ H' ⟨tried',t,rfl,fz,h1,W,hp,hx,ht,htl,rfl⟩
  have sF':=Same.frz f1 fz (fun x hx=>by rw [y0a.mp hx]; exact Ftr)
  have hP':=hP.frz fz (fun x hx=>by rw [y0a.mp hx]; exact hM)
  have hst':=fz _ _ (by simpa using hne) hst
  walk_at "run"
  refine⟨_,_,.inl (SqL.of h1),z2z ht,_,.inl (SqL.of (sF' _ _ ha2)),?_⟩
  rw [hnl]
  walk_at "run"
  refine z3j (fun c=>?_) (fun c=>z8b ?_)
  ·have c':t<le.length:=by have:=of_decide_eq_true c; omega
   have hk:le[t]?=some le[t]:=y01 c'
   obtain⟨b,hb⟩:=zk0 hP.wf hle (y03 hk)
   refine⟨_,_,sF' _ _ g1,g11 _ (by decide),_,_,.inl (SqL.of h1),z2z ht,_,_,.inl (SqL.of (sF' _ _ ha2)),z1v (zjo hk),?_⟩
   refine⟨me,N,aS,aP,sent,spare,M,ast,steps,e,le[t],b,rfl,hP',hst',hsl,hb,?_⟩
   walk_at "run"
   refine z3j (fun cl=>?_) (fun cl=>?_)
   ·have nl:∀b',¬PM.Leads N sent steps e le[t] b':=fun b' L=>by
     have:=hb.uniq hP.wf L.1
     subst this
     rw [(z9z hP.wf hb hP.ls).mpr L] at cl
     cases cl
    refine⟨_,_,h1,by omega,z54 ht,_,e,h1,z31 (by rw [y04]; exact(y00.mp ht).1),?_⟩
    refine⟨le.length - (t+1),by omega,tried'.set e ((t:Int)+1),t+1,rfl,?_,?_,W.skip hes hle ht hk nl,?_,fun b' h=>(hx b' h).keep hle ht (by omega),?_,by omega,rfl⟩
    ·exact fz.trans (Frz.upd (by simp))
    ·rw [z01,y2q]
    ·have:=PM.pot_step hle ht c'
     omega
    ·rw [y0y (y00.mp ht).1]
     rfl
   ·refine q tried' H' fz h1 W hp hx ⟨le,t,hle,ht,htl,fun k' b' hk' tie'=>?_⟩
    rw [hk] at hk'
    cases hk'
    have:=hb.uniq hP.wf tie'
    subst this
    simpa using cl
  ·have c':¬t<le.length:=fun z=>c (decide_eq_true (by omega))
   refine q tried' H' fz h1 W hp hx ⟨le,t,hle,ht,htl,fun k' b' hk' tie'=>?_⟩
   rw [y1a (by omega)] at hk'
   cases hk'
abbrev z1o:Stmt:=z2x (top 12) 8
theorem sc_Pour_way_from:FnScope ["self","give","steps","tried","way","ends","end","tie"] ["self","give","steps","tried"] (z05 z1o):=⟨rfl,rfl,rfl,by decide +kernel,rfl,by decide +kernel,by decide +kernel⟩
theorem z70 (T:MTop K CPour "way_from" "Pour.way_from" z1o ["self","give","steps","tried"])(B:Blt mg)(F:FldsPour K CPour)(D_Pour_has_room:MDef P w K mg base CPour "has_room" 1 ["self","ends"] (zdf K CPour))(D_Pour_skip_dead_ties:MDef P w K mg base CPour "skip_dead_ties" 3 ["self","end","steps","tried"] (zk1 K CPour))(D_Pour_far_end:MDef P w K mg base CPour "far_end" 1 ["self","end","tie"] (zj5 K CPour)):MDef P w K mg base CPour "way_from" 4 ["self","give","steps","tried"] (zno K CPour):=by
 refine z2u (k:=3) T sc_Pour_way_from (fun vs H Q E h=>?_) (fun f cdv A outer s H vs Q E hr h=>?_)
 ·obtain⟨me,N,aS,aP,sent,spare,M,ast,atr,steps,tried,g,rfl,_⟩:=h
  rfl
 obtain⟨me,N,aS,aP,sent,spare,M,ast,atr,steps,tried,g,rfl,hP,hM,hne,hst,hsl,htr,hg0,hgG,T0,D0,q⟩:=h
 obtain⟨G0,f1,f2,f3,f4,fx⟩:=hP.ok
 obtain⟨dx,fs,aT,aA,ts,rs,g1,g2,g3,g4,g5,g6,g7,g8,g9,g10,g11⟩:=fx.get
 have Ftr:=f4 _ hM
 have hsm:=hP.sm
 obtain⟨Bn,hBn⟩:=PM.lv_top steps
 refine⟨_,(z02 (z0c 4 sc_Pour_way_from.nd (z1l z03))
   (z02 (z0c 5 sc_Pour_way_from.nd (z1l (z00 (cv 1) z03)))
   (z02 (z3y (zau (z0s z6t (z3m z24 B.len y17 (z00 (cv 5) z03)) z04 (z0o _)) (z77 (z4m (z2l (z2b D_Pour_has_room (hr.mono (by decide)) (cv 0) (z00 (z1l (z00 (z0h z0i (cv 5) (z9k z5k z04) (fun _ _=>rfl)) z03)) z03)))))).pt
   (z02 (z0c 6 sc_Pour_way_from.nd (z0h z0i (cv 5) (z9k z5k z04) (fun _ _=>rfl)))
    (z02 (z25 (z2b D_Pour_skip_dead_ties (hr.mono (by decide)) (cv 0) (z00 (cv 6) (z00 (cv 2) (z00 (cv 3) z03)))))
    (z07 (z2p (z0s z6z (z0h z0i (cv 3) (cv 6) (fun _ _=>rfl)) (z3m z24 B.len y17 (z00 (z0h z0i (z1m F.ties_at (cv 0)) (cv 6) (fun _ _=>rfl)) z03)) (z0o _))
    (z02 (z0c 7 sc_Pour_way_from.nd (z0h z0i (z0h z0i (z1m F.ties_at (cv 0)) (cv 6) (fun _ _=>rfl)) (z0h z0i (cv 3) (cv 6) (fun _ _=>rfl)) (fun _ _=>rfl)))
     (z02 (z25 (z19 (cv 4) (z00 (cv 7) z03)))
     (z07 (z25 (z19 (cv 5) (z00 (z2b D_Pour_far_end (hr.mono (by decide)) (cv 0) (z00 (cv 6) (z00 (cv 7) z03))) z03))))))
    (z02 (z25 (z7a (cv 5)))
     (z07 (z2p (z0s z6t (z3m z24 B.len y17 (z00 (cv 5) z03)) z04 (z0o _))
     (z02 (z25 (z7a (cv 4)))
      (z07 (z59 (cv 3) (z0h z0i (cv 5) (z9k z5k z04) (fun _ _=>rfl)) z7v z04 zbu z4d)))
     z0z))))))))
   (z07 (z0m (cv 4)))))),?_⟩
 refine rd (σ':=[some (.ref me),some (.int (g:Int)),some (.ref ast),some (.ref atr),none,none,none,none]) rfl ?_
 walk_at "run"
 refine⟨sz (by show 0≤1000; decide),fun lw hlw=>⟨sz (by show 1≤1000; decide),fun le hle=>?_⟩⟩
 have s1:=z06 hlw (.lst [])
 have s2:=z06 hle (.lst [.int (g:Int)])
 have hleH:H le=none:=s1.free hle
 have hlwe:le≠lw:=fun z=>by
  subst z
  rw [z01] at hle
  cases hle
 have nwr:lw≠atr:=fun z=>(z08 htr hlw) z.symm
 have ner:le≠atr:=fun z=>(z08 htr hleH) z.symm
 refine⟨fun m σ H'=>∃(tried':List Int) (es way:List Nat) (t6 t7:Option V),σ = [some (.ref me),some (.int (g:Int)),some (.ref ast),some (.ref atr),some (.ref lw),some (.ref le),t6,t7]∧Frz [atr] H H'∧H' atr=some (.lst (tried'.map V.int))∧H' lw=some (.lst (z09 way))∧H' le=some (.lst (z09 es))∧PM.Walk N sent spare steps g tried' es way∧(∀b,PM.Exh N spare tried b→PM.Exh N spare tried' b)∧m=PM.wm Bn N.at' tried' es,
  ⟨_,tried,[g],[],_,_,rfl,Frz.of (s1.trans s2),(s1.trans s2) _ _ htr,s2 _ _ z01,z01,⟨T0,D0,fun _=>⟨⟨rfl,fun i k hk=>by simp at hk⟩,rfl⟩,fun z=>by simp at z,fun i k e hk=>by simp at hk⟩,fun b h=>h,rfl⟩,?_⟩
 rintro m σ H' ⟨tried',es,way,t6,t7,rfl,fz,h1,h2,h3,W,hx,rfl⟩
 have mono:∀H'',Frz [atr] H H''→Same G0 H''∧PourAt K CPour H'' me N aS aP sent spare M∧H'' ast=some (.lst (steps.map V.int)):=fun H'' fz=>⟨Same.frz f1 fz (fun x hx=>by rw [y0a.mp hx]; exact Ftr),hP.frz fz (fun x hx=>by rw [y0a.mp hx]; exact hM),fz _ _ (by simpa using hne) hst⟩
 obtain⟨sF',hP',hst'⟩:=mono H' fz
 have hshort:=W.short hg0 hBn
 have esl:es.length≤1000:=by
  by_cases z:es = []
  ·subst z; simp
  ·obtain⟨Pt,h0⟩:=W.path z
   have nd:es.Nodup:=by
    refine y2l.mpr fun i j hi hj hij he=>?_
    have hi':es[i]?=some es[i]:=y01 hi
    have hj':es[j]?=some es[i]:=by rw [he]; exact y01 hj
    have:=Pt.inj h0 hi' hj'
    omega
   have sub:∀x∈es,x<N.nE:=fun x hx=>by
    obtain⟨i,hi⟩:=y0f hx
    have:=Pt.lev h0 hi
    rw [←hsl]
    exact zan (by omega)
   have:=zci nd sub
   omega
 walk_at "run"
 refine⟨_,.inl (SqL.of h3),?_⟩
 rw [z44]
 walk_at "run"
 refine z3j (fun c=>?_) (fun c=>z8b ?_)
 ·have hes:es ≠ []:=by
   rintro rfl
   simp at c
  obtain⟨Pt,h0⟩:=W.path hes
  obtain⟨e,hel⟩:∃e,es.getLast?=some e:=⟨_,y1u hes⟩
  have pl:=Pt.len
  have hlast:es[way.length]?=some e:=by
   rw [y18] at hel
   rw [show es.length - 1=way.length by omega] at hel
   exact hel
  have hlev:=Pt.lev h0 hlast
  have hen:e<N.nE:=by
   rw [←hsl]
   exact zan (by omega)
  refine⟨_,_,sF' _ _ g1,g11 _ (by decide),_,_,.inl (SqL.of h3),z74 (z6i hel),sz (by show 1≤1000; decide),fun p hp=>?_⟩
  have s3:=z06 hp (.lst [.int (e:Int)])
  refine⟨me,N,aS,aP,sent,spare,M,p,[e],rfl,hP'.same s3,z01,by show 1≤1000; decide,fun x hx=>by rw [y0a.mp hx]; exact hen,fun H4 s4=>?_⟩
  have s34:=s3.trans s4
  have fz4:=fz.trans (Frz.of s34)
  obtain⟨sF4,hP4,hst4⟩:=mono H4 fz4
  have hany:[e].any (z55 N spare)=z55 N spare e:=by simp
  rw [hany]
  walk_at "run"
  refine z3j (fun cr=>?_) (fun cr=>?_)
  ·have nor:¬PM.Room N spare e:=fun hR=>by
    rw [(z45 (by rw [hP.lp]; exact hen)).mpr hR] at cr
    cases cr
   refine⟨_,_,.inl (SqL.of (s34 _ _ h3)),z74 (z6i hel),_,_,sF4 _ _ g1,g11 _ (by decide),?_⟩
   refine⟨me,N,aS,aP,sent,spare,M,ast,atr,steps,tried',e,g,es,way,rfl,hP4,hM,hne,hst4,hsl,s34 _ _ h1,W,hel,hen,fun tried2 H5 fz5 k1 W2 hpot hx2 hlt=>?_⟩
   obtain⟨l,t,hl,ht,htl,hlead⟩:=hlt
   have fz5':=fz4.trans fz5
   obtain⟨sF5,hP5,hst5⟩:=mono H5 fz5'
   have h2':H5 lw=some (.lst (z09 way)):=fz5 _ _ (by simpa using nwr) (s34 _ _ h2)
   have h3':H5 le=some (.lst (z09 es)):=fz5 _ _ (by simpa using ner) (s34 _ _ h3)
   have hx':∀b,PM.Exh N spare tried b→PM.Exh N spare tried2 b:=fun b h=>hx2 b (hx b h)
   obtain⟨ae,ha1,ha2⟩:=z5c g10 hl
   walk_at "run"
   refine⟨_,_,.inl (SqL.of k1),z2z ht,_,_,_,sF5 _ _ g1,g6,_,_,.inl (SqL.of (sF5 _ _ g9)),z1v ha1,?_⟩
   walk_at "run"
   refine⟨_,.inl (SqL.of (sF5 _ _ ha2)),?_⟩
   rw [z44]
   refine z3j (fun ct=>?_) (fun ct=>?_)
   ·have ct':t<l.length:=by have:=of_decide_eq_true ct; omega
    have hk:l[t]?=some l[t]:=y01 ct'
    obtain⟨b,hb⟩:=zk0 hP.wf hl (y03 hk)
    have L:=(z9z hP.wf hb hP.ls).mp (hlead _ b hk hb)
    have W3:=W2.push hel hl ht hk L nor
    have hsh:=W3.short hg0 hBn
    rw [y09,y43] at hsh
    refine⟨_,_,_,sF5 _ _ g1,g6,_,_,.inl (SqL.of (sF5 _ _ g9)),z1v ha1,_,_,.inl (SqL.of k1),z2z ht,?_⟩
    walk_at "run"
    refine⟨_,_,.inl (SqL.of (sF5 _ _ ha2)),z1v (zjo hk),?_⟩
    walk_at "run"
    have wl:way.length<1000:=by omega
    refine⟨⟨_,h2'⟩,_,h2',z0l (by rw [z44]; omega),?_⟩
    rw [zde]
    have fz6:Frz [atr] H (upd H5 lw (.lst (z09 (way ++ [l[t]])))):=fz5'.new hlw
    obtain⟨sF6,hP6,hst6⟩:=mono _ fz6
    have h3'':upd H5 lw (.lst (z09 (way ++ [l[t]]))) le=some (.lst (z09 es)):=by rw [z0a hlwe]; exact h3'
    refine⟨⟨_,h3''⟩,_,_,sF6 _ _ g1,g11 _ (by decide),me,N,aS,aP,sent,spare,M,e,l[t],b,rfl,hP6,hb,?_⟩
    walk_at "run"
    refine⟨_,h3'',z0l (by rw [z44]; omega),?_⟩
    rw [zde]
    refine⟨_,?_,tried2,es ++ [b],way ++ [l[t]],_,_,rfl,fz6.new hleH,?_,?_,z01,W3,hx',rfl⟩
    ·unfold PM.wm
     rw [if_neg (by simp),if_neg hes,y09,y43]
     have:=y31 (Bn+3) hpot
     omega
    ·rw [z0a (Ne.symm ner),z0a (Ne.symm nwr)]
     exact k1
    ·rw [z0a (Ne.symm hlwe),z01]
   ·have ct':t=l.length:=by
     have:¬t<l.length:=fun z=>ct (decide_eq_true (by omega))
     omega
    rw [ct'] at ht
    have h3l:(z09 es)[(z09 es).length - 1]?=some (.int (e:Int)):=by
     have:=z6i hel
     rw [y18] at this
     exact this
    refine⟨_,_,h3',h3l,?_⟩
    rw [zf5]
    have fz6:Frz [atr] H (upd H5 le (.lst (z09 es.dropLast))):=fz5'.new hleH
    have k1':upd H5 le (.lst (z09 es.dropLast)) atr=some (.lst (tried2.map V.int)):=by rw [z0a (Ne.symm ner)]; exact k1
    have k2':upd H5 le (.lst (z09 es.dropLast)) lw=some (.lst (z09 way)):=by rw [z0a (Ne.symm hlwe)]; exact h2'
    walk_at "run"
    refine⟨_,.inl (SqL.of z01),?_⟩
    rw [z44]
    refine z3j (fun cd=>?_) (fun cd=>?_)
    ·have hd:es.dropLast ≠ []:=by
      intro z
      rw [z] at cd
      simp at cd
     obtain⟨f,hf⟩:∃f,es.dropLast.getLast?=some f:=⟨_,y1u hd⟩
     obtain⟨t2,l2,j1,j2,j3,W3⟩:=W2.pop hP.wf hel hf hl ht nor
     have dl:es.dropLast.length=es.length - 1:=y5v
     have hdl:=y0t.mpr hd
     have hway:way ≠ []:=by
      intro z
      rw [z] at pl
      simp at pl
      omega
     obtain⟨kw,hkw⟩:∃kw,way.getLast?=some kw:=⟨_,y1u hway⟩
     have h2l:(z09 way)[(z09 way).length - 1]?=some (.int (kw:Int)):=by
      have:=z6i hkw
      rw [y18] at this
      exact this
     refine⟨_,_,k2',h2l,?_⟩
     rw [zf5]
     have k3:upd (upd H5 le (.lst (z09 es.dropLast))) lw (.lst (z09 way.dropLast)) le=some (.lst (z09 es.dropLast)):=by rw [z0a hlwe,z01]
     have k4:upd (upd H5 le (.lst (z09 es.dropLast))) lw (.lst (z09 way.dropLast)) atr=some (.lst (tried2.map V.int)):=by rw [z0a (Ne.symm nwr)]; exact k1'
     refine⟨_,_,.inl (SqL.of k3),z74 (z6i hf),?_⟩
     walk_at "run"
     refine⟨_,_,k4,by omega,z54 j2,_,f,k4,z31 (by rw [y04]; exact(y00.mp j2).1),?_⟩
     refine⟨_,?_,tried2.set f ((t2:Int)+1),es.dropLast,way.dropLast,_,_,rfl,(fz6.new hlw).trans (Frz.upd (by simp)),by rw [z01,y2q],?_,?_,W3,fun b h=>(hx' b h).keep j1 j2 (by omega),rfl⟩
     ·unfold PM.wm
      rw [if_neg hd,if_neg hes,dl]
      have p1:=PM.pot_step j1 j2 j3
      have p2:(PM.pot N.at' (tried2.set f ((t2:Int)+1))+1)*(Bn+3)≤PM.pot N.at' tried'*(Bn+3):=y31 _ (by omega)
      rw [y70] at p2
      omega
     ·rw [z0a nwr,z01]
     ·rw [z0a ner]
      exact k3
    ·have hd:es.dropLast = []:=by
      rcases y1v es.dropLast.length with z | z
      ·exact y1k.mp z
      ·exact absurd (decide_eq_true (by omega)) cd
     obtain⟨wn,W3⟩:=W2.fin hel hd hl ht nor
     subst wn
     refine⟨_,?_,tried2,[],[],_,_,rfl,fz6,k1',k2',by rw [z01,hd],W3,hx',rfl⟩
     unfold PM.wm
     rw [if_pos rfl,if_neg hes]
     omega
  ·have cr':z55 N spare e=true:=by simpa using cr
   have hR:=(z45 (by rw [hP.lp]; exact hen)).mp cr'
   have hwne:way ≠ []:=by
    rintro rfl
    have e1:es[0]?=some e:=hlast
    rw [h0] at e1
    cases e1
    have:=hR.1
    omega
   exact q lw way tried' H4 fz4 (s34 _ _ h1) hlw (s34 _ _ h2) W.tr W.dead hx (.inr ⟨hwne,es,e,Pt,h0,hlast,hR⟩) (by omega)
 ·have hes:es = []:=by
   rcases y1v es.length with z | z
   ·exact y1k.mp z
   ·exact absurd (decide_eq_true (by omega)) c
  obtain⟨wn,ex⟩:=W.none hes
  exact q lw way tried' H' fz h1 hlw h2 W.tr W.dead hx (.inl ⟨wn,ex⟩) (by rw [wn]; decide)
abbrev z1c:Stmt:=z2x (top 12) 11
theorem sc_Pour_send_along:FnScope ["self","give","way","take","amount","tie"] ["self","give","way"] (z05 z1c):=⟨rfl,rfl,rfl,by decide +kernel,rfl,by decide +kernel,by decide +kernel⟩
theorem z5t (T:MTop K CPour "send_along" "Pour.send_along" z1c ["self","give","way"])(B:Blt mg)(F:FldsPour K CPour) :MDef P w K mg base CPour "send_along" 1 ["self","give","way"] (zjv K CPour):=by
 refine z2u (k:=0) T sc_Pour_send_along (fun vs H Q E h=>?_) (fun f cdv A outer s H vs Q E hr h=>?_)
 ·obtain⟨me,N,aS,aP,sent,spare,M,lw,cap,steps,g,f',es,way,rfl,_⟩:=h
  rfl
 obtain⟨me,N,aS,aP,sent,spare,M,lw,cap,steps,g,f',es,way,rfl,hP,hM,hlw,hwl,hwn,hF,Pt,h0,h1,hR,hg,hsg,q⟩:=h
 obtain⟨G0,f1,f2,f3,f4,fx⟩:=hP.ok
 obtain⟨dx,fs,aT,aA,ts,rs,g1,g2,g3,g4,g5,g6,g7,g8,g9,g10,g11⟩:=fx.get
 have hgle:=hP.wf.gle
 have hlp:=hP.lp
 have hls:=hP.ls
 obtain⟨hfG,y,hy,hy0⟩:=hR
 have hfl:f'<spare.length:=(y00.mp hy).1
 have hgl:g<spare.length:=by omega
 have hyD:spare.getD f' 0=y:=by simp [y1j,hy]
 obtain⟨kl,hkl⟩:∃k,way.getLast?=some k:=⟨_,y1u hwn⟩
 have hkl':way[way.length - 1]?=some kl:=by rw [y18] at hkl; exact hkl
 have hwp:=y0t.mpr hwn
 obtain⟨a0,b0,ea,eb,tie,_,_⟩:=Pt.link _ kl hkl'
 rw [show way.length - 1+1=way.length by omega,h1] at eb
 cases eb
 obtain⟨pe,hpe,hpq⟩:=tie
 have hlo:=hP.wf.lo kl pe hpe
 have hpf:pe.2=f':=by rcases hpq with ⟨_,z⟩ | ⟨_,z⟩<;>omega
 obtain⟨at1,ht1,ht2⟩:=zj4 g8 hpe
 refine⟨_,(z02 (z0c 3 sc_Pour_send_along.nd (z0h z0i (z0h z0i (z1m F.tie_ends (cv 0)) (z0h z0i (cv 2) (z9k z5k z04) (fun _ _=>rfl)) (fun _ _=>rfl)) z04 (fun _ _=>rfl)))
   (z02 (z0c 4 sc_Pour_send_along.nd (z3m zns B.min zjy (z00 (z0j z1p (z1l (z00 (z0h z0i (z1m F.spare (cv 0)) (cv 1) (fun _ _=>rfl)) (z00 (z0h z0i (z1m F.spare (cv 0)) (cv 3) (fun _ _=>rfl)) z03))) (z3o (N:=["tie","self"]) (fr:=[0]) 1 (z1k (zbj (cv 2) (z3g z04) z64 (z3g z04))) (fun C hN=>by exact pgC ((z0f 0 hN)) (by walk_at "c")) (fun C hN=>by exact peC ((z0h z0i (z1m F.sent (cv 1)) (cv 0) (fun _ _=>rfl))) (by walk_at "c")))) z03)))
   (z02 (z23 (z1k (zbj (cv 2) (z3g z04) z64 (z3g z04))) (z0f 5 sc_Pour_send_along.nd)
   (z07 (z59 (z1m F.sent (cv 0)) (cv 5) z7v (cv 4) zbu z4d)))
   (z02 (z23 (z1k (zbj (cv 2) (z3g z04) z64 (z3g z04))) (z0f 5 sc_Pour_send_along.nd)
   (z07 (z59 (z1m F.sent (cv 0)) (cv 5) z7v (cv 4) z9a z4d)))
   (z02 (z59 (z1m F.spare (cv 0)) (cv 1) z7v (cv 4) z9a z4d)
   (z07 (z59 (z1m F.spare (cv 0)) (cv 3) z7v (cv 4) z9a z4d))))))),?_⟩
 refine rd (σ':=[some (.ref me),some (.int (g:Int)),some (.ref lw),none,none,none]) rfl ?_
 walk_at "run"
 refine⟨_,_,_,f1 _ _ g1,g3,_,_,.inl (SqL.of hlw),z74 (z6i hkl),?_⟩
 walk_at "run"
 refine⟨_,_,.inl (SqL.of (f1 _ _ g7)),z1v ht1,?_⟩
 walk_at "run"
 refine⟨_,_,.inr (SqT.of (f1 _ _ ht2)),rfl,?_⟩
 rw [hpf]
 refine⟨_,_,_,f1 _ _ g1,g5,_,_,.inl (SqL.of hP.sp),z2z (z0y hgl),?_⟩
 walk_at "run"
 refine⟨_,_,_,f1 _ _ g1,g5,_,_,.inl (SqL.of hP.sp),z2z hy,sz (by show 2≤1000; decide),fun l1 hl1=>?_⟩
 have s1:=z06 hl1 (.lst [.int (spare.getD g 0),.int y])
 refine⟨_,SqL.of (s1 _ _ hlw),by decide,fun l2 hl2=>?_⟩
 rw [zcq,za1]
 have s2:=z06 hl2 (.lst (z09 (PM.alt false way)))
 refine .inl ⟨⟨_,SqL.of z01⟩,cgo (σ':=[none,some (.ref me)]) rfl ?_⟩
 have kin:∀{b:Bool} {k:Nat},k∈PM.alt b way→k<sent.length:=fun h=>by rw [hls]; exact Pt.lt (PM.alt_mem h)
 have lao:=zce false way
 have lae:=zce true way
 have nS:∀{l:Addr},H l=none→l≠aS:=fun h z=>(z08 hP.st h) z.symm
 have nP:∀{l:Addr},H l=none→l≠aP:=fun h z=>(z08 hP.sp h) z.symm
 refine z1q (xs:=z09 (PM.alt false way)) (fun i ys H'=>H'=upd (upd H l1 (.lst [.int (spare.getD g 0),.int y])) l2 (.lst (z09 (PM.alt false way)))∧ys=(((PM.alt false way).take i).map fun k=>sent.getD k 0).map V.int) ⟨rfl,rfl⟩ (z0l (by rw [z44]; omega)) ?_ ?_ ?_
 ·rintro i ys H' _ ⟨rfl,rfl⟩
  refine⟨SqL.of z01,?_⟩
  rw [y04,y04,y0r]
  omega
 ·rintro i x ys H' hx ⟨rfl,rfl⟩
  obtain⟨k,hk,rfl⟩:=z33 hx
  have hkl2:=kin (y03 hk)
  walk_at "run"
  refine z8c ⟨_,_,_,(s1.trans s2) _ _ (f1 _ _ g1),g4,_,_,.inl (SqL.of ((s1.trans s2) _ _ hP.st)),z2z (z0y hkl2),?_⟩
  refine CNx.mk ⟨rfl,?_⟩ (y00.mp hx).1
  rw [z0g hk,y0h,y0h]
  rfl
 rintro ys H' ⟨rfl,rfl⟩ l3 hl3
 rw [z44,y05 (y07 _)]
 have s3:=z06 hl3 (.lst (((PM.alt false way).map fun k=>sent.getD k 0).map V.int))
 have s13:=s1.trans (s2.trans s3)
 refine⟨_,_,(s2.trans s3) _ _ z01,z01,szz (by rw [y04,y04]; show 2+_≤1000000; omega),fun l4 hl4=>?_⟩
 have s4:=z06 hl4 (.lst ([.int (spare.getD g 0),.int y]++((PM.alt false way).map fun k=>sent.getD k 0).map V.int))
 have s14:=s13.trans s4
 refine⟨spare.getD g 0::y::((PM.alt false way).map fun k=>sent.getD k 0),SqL.of z01,by simp,fun a ha hmin=>?_⟩
 have a1:a≤spare.getD g 0:=hmin _ y0d
 have a2:a≤y:=hmin _ (y08 _ y0d)
 have a3:∀k∈PM.alt false way,∀s,sent[k]?=some s→a≤s:=fun k hk s hs=>by
  have:=hmin (sent.getD k 0) (y08 _ (y08 _ (y22.mpr ⟨k,hk,rfl⟩)))
  rw [show sent.getD k 0=s by simp [y1j,hs]] at this
  exact this
 have a0:0<a:=by
  rcases y0k.mp ha with rfl | ha
  ·exact hsg
  ·rcases y0k.mp ha with rfl | ha
   ·exact hy0
   ·obtain⟨k,hk,rfl⟩:=y22.mp ha
    obtain⟨s,hs,hs0⟩:=Pt.back hP.wf h0 hg hk
    rw [show sent.getD k 0=s by simp [y1j,hs]]
    exact hs0
 refine⟨_,SqL.of (s14 _ _ hlw),by decide,fun l5 hl5=>?_⟩
 rw [zfk,za1]
 have s5:=z06 hl5 (.lst (z09 (PM.alt true way)))
 have s15:=s14.trans s5
 have hl5H:H l5=none:=s14.free hl5
 refine .inl ⟨⟨_,SqL.of z01⟩,?_⟩
 have hfirst:∀{o:HO},o = .lst (z09 (PM.alt true way))→upd (upd (upd (upd (upd H l1 (.lst [.int (spare.getD g 0),.int y])) l2 (.lst (z09 (PM.alt false way)))) l3 (.lst (((PM.alt false way).map fun k=>sent.getD k 0).map V.int))) l4 (.lst ([.int (spare.getD g 0),.int y]++((PM.alt false way).map fun k=>sent.getD k 0).map V.int))) l5 (.lst (z09 (PM.alt true way))) l5=some o:=fun h=>by rw [h]; exact z01
 have hS5:=s15 _ _ hP.st
 have hP5:=s15 _ _ hP.sp
 have hL5:=hfirst rfl
 have fz5:Frz [aS,aP] H _:=Frz.of s15
 clear hfirst s1 s2 s3 s4 s5 s13 s14
 generalize upd (upd (upd (upd (upd H l1 (.lst [.int (spare.getD g 0),.int y])) l2 (.lst (z09 (PM.alt false way)))) l3 (.lst (((PM.alt false way).map fun k=>sent.getD k 0).map V.int))) l4 (.lst ([.int (spare.getD g 0),.int y]++((PM.alt false way).map fun k=>sent.getD k 0).map V.int))) l5 (.lst (z09 (PM.alt true way)))=H5 at s15 hS5 hP5 hL5 fz5 ⊢
 have stat:∀H',Frz [aS,aP] H H'→Same G0 H':=fun H' fz=>Same.frz f1 fz fun x hx=>by
  simp only [y0k,y1c,or_false] at hx
  rcases hx with rfl | rfl
  ·exact f2
  ·exact f3
 have hlwS:=hP.mu _ hM
 refine z2f (xs:=z09 (PM.alt true way)) (fun i σ H'=>∃t,σ = [some (.ref me),some (.int (g:Int)),some (.ref lw),some (.int (f':Int)),some (.int a),t]∧Frz [aS,aP] H H'∧H' aS=some (.lst ((PM.addAll a sent ((PM.alt true way).take i)).map V.int))∧H' aP=some (.lst (spare.map V.int))∧H' l5=some (.lst (z09 (PM.alt true way)))) ⟨_,rfl,fz5,hS5,hP5,hL5⟩ ?_ ?_ ?_
 ·rintro i σ H' _ ⟨t,rfl,fz,k1,k2,k3⟩
  exact SqL.of k3
 ·rintro i x σ H' hx ⟨t,rfl,fz,k1,k2,k3⟩
  obtain⟨k,hk,rfl⟩:=z33 hx
  have hkn:k<(PM.addAll a sent ((PM.alt true way).take i)).length:=by rw [PM.addAll_len]; exact kin (y03 hk)
  walk_at "run"
  refine⟨_,_,_,stat H' fz _ _ g1,g4,_,_,k1,by omega,z54 (z0y hkn),?_⟩
  walk_at "run"
  refine⟨_,k,k1,z31 (by rw [y04]; exact hkn),_,rfl,fz.trans (Frz.upd (by simp)),?_,?_,?_⟩
  ·rw [z01,z0g hk,z80,y2q]
  ·rw [z0a hP.ne.symm]; exact k2
  ·rw [z0a (nS hl5H)]; exact k3
 rintro σ H' ⟨t,rfl,fz,k1,k2,k3⟩
 rw [z44,y05 (y07 _)] at k1
 walk_at "run"
 have hlw':H' lw=some (.lst (z09 way)):=fz _ _ (by simp only [y0k,y1c,or_false]; exact fun z=>z.elim hlwS.1 hlwS.2) hlw
 refine⟨_,SqL.of hlw',by decide,fun l6 hl6=>?_⟩
 rw [zcq,za1]
 have s6:=z06 hl6 (.lst (z09 (PM.alt false way)))
 have n6S:l6≠aS:=fun z=>(z08 k1 hl6) z.symm
 refine .inl ⟨⟨_,SqL.of z01⟩,?_⟩
 refine z2f (xs:=z09 (PM.alt false way)) (fun i σ H'=>∃t,σ = [some (.ref me),some (.int (g:Int)),some (.ref lw),some (.int (f':Int)),some (.int a),t]∧Frz [aS,aP] H H'∧H' aS=some (.lst ((PM.addAll (-a) (PM.addAll a sent (PM.alt true way)) ((PM.alt false way).take i)).map V.int))∧H' aP=some (.lst (spare.map V.int))∧H' l6=some (.lst (z09 (PM.alt false way)))) ⟨_,rfl,fz.trans (Frz.of s6),s6 _ _ k1,s6 _ _ k2,z01⟩ ?_ ?_ ?_
 ·rintro i σ H' _ ⟨t,rfl,fz,k1,k2,k3⟩
  exact SqL.of k3
 ·clear k1 k2 k3 fz hlw' s6 hl6
  rintro i x σ H' hx ⟨t,rfl,fz,k1,k2,k3⟩
  obtain⟨k,hk,rfl⟩:=z33 hx
  have hkn:k<(PM.addAll (-a) (PM.addAll a sent (PM.alt true way)) ((PM.alt false way).take i)).length:=by rw [PM.addAll_len,PM.addAll_len]; exact kin (y03 hk)
  walk_at "run"
  refine⟨_,_,_,stat H' fz _ _ g1,g4,_,_,k1,by omega,z54 (z0y hkn),?_⟩
  walk_at "run"
  refine⟨_,k,k1,z31 (by rw [y04]; exact hkn),_,rfl,fz.trans (Frz.upd (by simp)),?_,?_,?_⟩
  ·rw [z01,z0g hk,z80,y2q,y4v]
  ·rw [z0a hP.ne.symm]; exact k2
  ·rw [z0a n6S]; exact k3
 clear k1 k2 k3 fz hlw' s6 hl6
 rintro σ H' ⟨t,rfl,fz,k1,k2,k3⟩
 rw [z44,y05 (y07 _)] at k1
 walk_at "run"
 refine⟨_,_,_,stat H' fz _ _ g1,g5,_,_,k2,by omega,z54 (z0y hgl),?_⟩
 walk_at "run"
 refine⟨_,g,k2,z31 (by rw [y04]; exact hgl),?_⟩
 have hset:(spare.map V.int).set g (.int (spare.getD g 0 - a))=(spare.set g (spare.getD g 0 - a)).map V.int:=by rw [y2q]
 rw [hset]
 have fz2:Frz [aS,aP] H (upd H' aP (.lst ((spare.set g (spare.getD g 0 - a)).map V.int))):=fz.trans (Frz.upd (by simp))
 have hgf:f'≠g:=by omega
 have hy2:(spare.set g (spare.getD g 0 - a))[f']?=some y:=by rw [PM.set_at hgf]; exact hy
 refine⟨_,_,_,stat _ fz2 _ _ g1,g5,_,_,z01,by omega,z54 hy2,?_⟩
 walk_at "run"
 refine⟨_,f',z01,z31 (by rw [y04,y32]; exact hfl),?_⟩
 have S:=hF.sent hP.wf Pt h0 h1 hg (by omega) (z0y hgl) hy (y1p a0) a1 a2 a3
 refine q a _ _ a0 (fz2.trans (Frz.upd (by simp))) ?_ ?_ S ?_ ?_
 ·rw [z0a hP.ne,z0a hP.ne]
  exact k1
 ·simp only [z01,y2q]
 ·have:((spare.set g (spare.getD g 0 - a)).set f' (y - a)).getD g 0=spare.getD g 0 - a:=by
   rw [y0o,PM.set_at (Ne.symm hgf),y0y hgl]
   rfl
  omega
 ·intro e he heg
  rw [y0o,PM.set_at (by omega),PM.set_at heg,←y0o]
abbrev z0v:Stmt:=z2x (top 12) 7
theorem sc_Pour_send_by_steps:FnScope ["self","steps","tried","give","way"] ["self","steps"] (z05 z0v):=⟨rfl,rfl,rfl,by decide +kernel,rfl,by decide +kernel,by decide +kernel⟩
theorem z4h (T:MTop K CPour "send_by_steps" "Pour.send_by_steps" z0v ["self","steps"])(B:Blt mg)(F:FldsPour K CPour)(D_Pour_gives_with_rest:MDef P w K mg base CPour "gives_with_rest" 1 ["self"] (zhd K CPour))(D_Pour_way_from:MDef P w K mg base CPour "way_from" 4 ["self","give","steps","tried"] (zno K CPour))(D_Pour_send_along:MDef P w K mg base CPour "send_along" 1 ["self","give","way"] (zjv K CPour)):MDef P w K mg base CPour "send_by_steps" 5 ["self","steps"] (zey K CPour):=by
 refine z2u (k:=4) T sc_Pour_send_by_steps (fun vs H Q E h=>?_) (fun f cdv A outer s H vs Q E hr h=>?_)
 ·obtain⟨me,N,aS,aP,sent0,spare0,M,ast,cap,steps,rfl,_⟩:=h
  rfl
 obtain⟨me,N,aS,aP,sent0,spare0,M,ast,cap,steps,rfl,hP,hM,hst,hsl,hF,hS,q⟩:=h
 obtain⟨G0,f1,f2,f3,f4,fx⟩:=hP.ok
 obtain⟨dx,fs,aT,aA,ts,rs,g1,g2,g3,g4,g5,g6,g7,g8,g9,g10,g11⟩:=fx.get
 have hsm:=hP.sm
 have hgle:=hP.wf.gle
 have hsp:(spare0.map V.int).length=N.nE:=by rw [y04]; exact hP.lp
 obtain⟨na1,na2⟩:=hP.mu _ hM
 refine⟨_,(z02 (z0c 2 sc_Pour_send_by_steps.nd (z0j z1y (z1l (z00 z04 z03)) (z3m z24 B.len y17 (z00 (z1m F.spare (cv 0)) z03))))
   (z07 (z23 (z1k (z5p D_Pour_gives_with_rest (hr.mono (by decide)) (cv 0))) (z0f 3 sc_Pour_send_by_steps.nd)
   (z02 (z0c 4 sc_Pour_send_by_steps.nd (z2b D_Pour_way_from (hr.mono (by decide)) (cv 0) (z00 (cv 3) (z00 (cv 1) (z00 (cv 2) z03)))))
    (z07 (z3y (z0s z6t (z3m z24 B.len y17 (z00 (cv 4) z03)) z04 (z0o _))
    (z02 (z25 (z2b D_Pour_send_along (hr.mono (by decide)) (cv 0) (z00 (cv 3) (z00 (cv 4) z03))))
     (z07 (z0c 4 sc_Pour_send_by_steps.nd (z9f (z0s z6t (z0h z0i (z1m F.spare (cv 0)) (cv 3) (fun _ _=>rfl)) z04 (z0o _)) (z2b D_Pour_way_from (hr.mono (by decide)) (cv 0) (z00 (cv 3) (z00 (cv 1) (z00 (cv 2) z03)))) (z1l z03))))))))))),?_⟩
 refine rd (σ':=[some (.ref me),some (.ref ast),none,none,none]) rfl ?_
 walk_at "run"
 refine⟨sz (by show 1≤1000; decide),fun l0 hl0=>?_⟩
 have s0:=z06 hl0 (.lst [.int 0])
 refine⟨_,_,_,s0 _ _ (f1 _ _ g1),g5,_,.inl (SqL.of (s0 _ _ hP.sp)),?_⟩
 rw [hsp]
 walk_at "run"
 refine⟨_,z01,by omega,by omega,sz (by show 1*_≤1000; omega),fun lt hlt=>?_⟩
 rw [z48]
 have e0:y06 ((N.nE:Int)).toNat (V.int 0)=(y06 N.nE 0).map V.int:=by rw [y30]; rfl
 rw [e0]
 have s1:=z06 hlt (.lst ((y06 N.nE 0).map V.int))
 have sA:=s0.trans s1
 have hltH:H lt=none:=s0.free hlt
 have hP1:=((hP.same s0).new hlt).same s1
 have ntS:lt≠aS:=fun z=>(z08 hP.st hltH) z.symm
 have ntP:lt≠aP:=fun z=>(z08 hP.sp hltH) z.symm
 have nta:ast≠lt:=z08 hst hltH
 refine⟨_,_,sA _ _ (f1 _ _ g1),g11 _ (by decide),me,N,aS,aP,sent0,spare0,_,rfl,hP1,fun r hr=>?_⟩
 have s2:=z06 hr (.lst (z09 (rest N spare0)))
 have hrH:H r=none:=sA.free hr
 have nrt:r≠lt:=fun z=>by
  subst z
  rw [z01] at hr
  cases hr
 have nrS:r≠aS:=fun z=>(z08 hP.st hrH) z.symm
 have nrP:r≠aP:=fun z=>(z08 hP.sp hrH) z.symm
 refine .inl ⟨⟨_,SqL.of z01⟩,?_⟩
 have hP2:=hP1.same s2
 have ht2:upd (upd (upd H l0 (.lst [.int 0])) lt (.lst ((y06 N.nE 0).map V.int))) r (.lst (z09 (rest N spare0))) lt=some (.lst ((y06 N.nE 0).map V.int)):=s2 _ _ z01
 refine z2f (xs:=z09 (rest N spare0)) (fun i σ H'=>∃(sent spare tried:List Int) (t3 t4:Option V),σ = [some (.ref me),some (.ref ast),some (.ref lt),t3,t4]∧PourAt K CPour H' me N aS aP sent spare (lt::M)∧Frz [aS,aP] H H'∧H' lt=some (.lst (tried.map V.int))∧H' r=some (.lst (z09 (rest N spare0)))∧PM.Phase N cap steps sent0 spare0 ((rest N spare0).take i) sent spare tried∧(∀e,e<N.G→e ∉ (rest N spare0).take i→spare.getD e 0=spare0.getD e 0))
  ⟨sent0,spare0,_,_,_,rfl,hP2,Frz.of (sA.trans s2),ht2,z01,⟨hF,tr0 hP.wf,zpd,fun e x y h1 h2=>by rw [h1] at h2; cases h2; exact y23 _,.inl ⟨rfl,rfl,fun g hg=>by simp at hg⟩⟩,fun e _ _=>rfl⟩ ?_ ?_ ?_
 ·rintro i σ H' _ ⟨sent,spare,tried,t3,t4,rfl,hP',fz,h1,h2,_⟩
  exact SqL.of h2
 ·clear hP1 hP2 ht2 s0 s1 s2 sA hr hlt e0
  rintro i x σ H' hx ⟨sent,spare,tried,t3,t4,rfl,hP',fz,h1,h2,Ph,same⟩
  obtain⟨g,hg,rfl⟩:=z33 hx
  have hgm:=rest_mem.mp (y03 hg)
  have hgl:g<spare0.length:=by rw [hP.lp]; omega
  have hg0:PM.Lv steps g=0:=hS.src g _ hgm.1 (z0y hgl) hgm.2
  have stat:∀H'',Frz [aS,aP] H H''→Same G0 H''∧H'' ast=some (.lst (steps.map V.int)):=fun H'' fz=>⟨Same.frz f1 fz fun x hx=>by
   simp only [y0k,y1c,or_false] at hx
   rcases hx with rfl | rfl
   ·exact f2
   ·exact f3,fz _ _ (by simp only [y0k,y1c,or_false]; exact fun z=>z.elim na1 na2) hst⟩
  have thr:∀{H1 H2:Hp},Frz [aS,aP] H H1→Frz [lt] H1 H2→Frz [aS,aP] H H2:=fun a b c o hc h=>b c o (by simpa using z08 h hltH) (a c o hc h)
  walk_at "run"
  refine⟨_,_,(stat H' fz).1 _ _ g1,g11 _ (by decide),me,N,aS,aP,sent,spare,_,ast,lt,steps,tried,g,rfl,hP',y0d,nta,(stat H' fz).2,hsl,h1,hg0,hgm.1,Ph.tr,Ph.dead,fun lw way tried1 H1 fz1 k1 k2 k3 T1 D1 ex1 hway hwl=>?_⟩
  have fz1':=thr fz fz1
  have hPa:=((hP'.new k2).frz fz1 (fun x hx=>by rw [y0a.mp hx]; simp))
  have hr1:H1 r=some (.lst (z09 (rest N spare0))):=fz1 _ _ (by simpa using nrt) h2
  have sg0:spare.getD g 0=spare0.getD g 0:=same g hgm.1 (zdv zeh hg)
  walk_at "run"
  refine⟨fun m σ H2=>∃(sent spare tried:List Int) (way:List Nat) (lw:Addr),σ = [some (.ref me),some (.ref ast),some (.ref lt),some (.int (g:Int)),some (.ref lw)]∧PourAt K CPour H2 me N aS aP sent spare (lw::lt::M)∧Frz [aS,aP] H H2∧H2 lt=some (.lst (tried.map V.int))∧H2 r=some (.lst (z09 (rest N spare0)))∧H2 lw=some (.lst (z09 way))∧way.length≤1000 ∧
    PM.Phase N cap steps sent0 spare0 ((rest N spare0).take i) sent spare tried∧(∀e,e<N.G→e ∉ (rest N spare0).take i→e≠g→spare.getD e 0=spare0.getD e 0) ∧
    ((way = []∧(PM.Exh N spare tried g∨spare.sum<spare0.sum))∨(way ≠ []∧0<spare.getD g 0∧∃(es:List Nat) (f:Nat),PM.Path N steps sent es way∧es[0]?=some g∧es[way.length]?=some f∧PM.Room N spare f))∧m=(spare.getD g 0).toNat,
   ⟨_,sent,spare,tried1,way,lw,rfl,hPa,fz1',k1,hr1,k3,hwl,Ph.walked T1 D1 ex1,fun e he hm _=>same e he hm,hway.imp (fun z=>⟨z.1,.inl z.2⟩) (fun z=>⟨z.1,by rw [sg0]; exact hgm.2,z.2⟩),rfl⟩,?_⟩
  clear hPa fz1' hr1 sg0 k1 k2 k3 T1 D1 ex1 hway hwl fz1 Ph same h1 h2 hP' fz
  rintro m σ H2 ⟨sent,spare,tried,way,lw,rfl,hP',fz,h1,h2,h3,hwl,Ph,same,hway,rfl⟩
  walk_at "run"
  refine⟨_,.inl (SqL.of h3),?_⟩
  rw [z44]
  refine z3j (fun c=>?_) (fun c=>?_)
  ·have hwn:way ≠ []:=by
    rintro rfl
    simp at c
   obtain⟨_,sg,es,f',Pt,p0,p1,pR⟩:=hway.resolve_left (fun z=>hwn z.1)
   refine⟨_,_,(stat H2 fz).1 _ _ g1,g11 _ (by decide),me,N,aS,aP,sent,spare,_,lw,cap,steps,g,f',es,way,rfl,hP',y0d,h3,hwl,hwn,Ph.flow,Pt,p0,p1,pR,hgm.1,sg,fun a spare' H3 a0 fz3 k1 k2 S hless oth=>?_⟩
   have fz3':=fz.trans fz3
   have hP3:=hP'.but fz3 k1 k2 (PM.send_len a sent way) (by rw [S.flow.lp,Ph.flow.lp])
   have Ph3:=Ph.sent hP.wf Pt p0 hgm.1 a0 S
   have nlw:=hP'.mu lw y0d
   have h1':H3 lt=some (.lst (tried.map V.int)):=fz3 _ _ (by simp only [y0k,y1c,or_false]; exact fun z=>z.elim ntS ntP) h1
   have h2':H3 r=some (.lst (z09 (rest N spare0))):=fz3 _ _ (by simp only [y0k,y1c,or_false]; exact fun z=>z.elim nrS nrP) h2
   have hsl':spare'.length=N.nE:=S.flow.lp
   have sp0:0≤spare'.getD g 0:=S.flow.sp g _ (z0y (by omega))
   have sum3:spare'.sum<spare0.sum:=by
    have:=S.sum
    rcases Ph.prog with ⟨_,rfl,_⟩ | z<;>omega
   have same3:∀e,e<N.G→e ∉ (rest N spare0).take i→e≠g→spare'.getD e 0=spare0.getD e 0:=fun e he hm hne=>by rw [oth e he hne]; exact same e he hm hne
   walk_at "run"
   refine⟨_,_,_,(stat H3 fz3').1 _ _ g1,g5,_,_,.inl (SqL.of k2),z2z (z0y (by omega)),z3j (fun cs=>?_) (fun cs=>?_)⟩
   ·have cs':=of_decide_eq_true cs
    have hPl:=hP3.less (L:=lt::M) (fun x hx=>y08 _ hx)
    refine⟨_,_,(stat H3 fz3').1 _ _ g1,g11 _ (by decide),me,N,aS,aP,_,spare',_,ast,lt,steps,tried,g,rfl,hPl,y0d,nta,(stat H3 fz3').2,hsl,h1',hg0,hgm.1,Ph3.tr,Ph3.dead,fun lw2 way2 tried2 H4 fz4 j1 j2 j3 T2 D2 ex2 hway2 hwl2=>?_⟩
    refine⟨_,?_,_,spare',tried2,way2,lw2,rfl,(hPl.new j2).frz fz4 (fun x hx=>by rw [y0a.mp hx]; simp),thr fz3' fz4,j1,fz4 _ _ (by simpa using nrt) h2',j3,hwl2,Ph3.walked T2 D2 ex2,same3,hway2.imp (fun z=>⟨z.1,.inr sum3⟩) (fun z=>⟨z.1,cs',z.2⟩),rfl⟩
    omega
   ·refine⟨sz (by show 0≤1000; decide),fun lw2 hlw2=>?_⟩
    have s4:=z06 hlw2 (.lst [])
    refine⟨_,?_,_,spare',tried,[],lw2,rfl,((hP3.less (L:=lt::M) (fun x hx=>y08 _ hx)).new hlw2).same s4,fz3'.trans (Frz.of s4),s4 _ _ h1',s4 _ _ h2',z01,by decide,Ph3,same3,.inl ⟨rfl,.inr sum3⟩,rfl⟩
    omega
  ·have hwn:way = []:=by
    rcases y1v way.length with z | z
    ·exact y1k.mp z
    ·exact absurd (decide_eq_true (by omega)) c
   have ex:=(hway.resolve_right (fun z=>z.1 hwn)).2
   refine⟨sent,spare,tried,_,_,rfl,hP'.less (fun x hx=>y08 _ hx),fz,h1,h2,?_,fun e he hm=>?_⟩
   ·rw [z0g hg]
    exact Ph.one ex
   ·rw [z0g hg] at hm
    simp only [y0u,y0a,not_or] at hm
    exact same e he hm.1 hm.2
 ·rintro σ H' ⟨sent,spare,tried,t3,t4,rfl,hP',fz,h1,h2,Ph,same⟩
  rw [z44,y05 (y07 _)] at Ph
  refine q sent spare H' fz hP'.st hP'.sp Ph.flow Ph.le fun e he hR=>Ph.less hP.wf hS (fun g hg=>?_) he hR
  obtain⟨a1,x,a2,a3⟩:=hS.zero g hg
  refine rest_mem.mpr ⟨a1,?_⟩
  rw [show spare0.getD g 0=x by simp [y1j,a2]]
  exact a3
abbrev z2s:Stmt:=z2x (top 12) 12
theorem sc_Pour_fill:FnScope ["self","steps"] ["self"] (z05 z2s):=⟨rfl,rfl,rfl,by decide +kernel,rfl,by decide +kernel,by decide +kernel⟩
theorem z9p (T:MTop K CPour "fill" "Pour.fill" z2s ["self"])(B:Blt mg)(D_Pour_steps_to_room:MDef P w K mg base CPour "steps_to_room" 3 ["self"] (zfi K CPour))(D_Pour_has_room:MDef P w K mg base CPour "has_room" 1 ["self","ends"] (zdf K CPour))(D_Pour_send_by_steps:MDef P w K mg base CPour "send_by_steps" 5 ["self","steps"] (zey K CPour)):MDef P w K mg base CPour "fill" 6 ["self"] (zjl K CPour):=by
 refine z2u (k:=5) T sc_Pour_fill (fun vs H Q E h=>?_) (fun f cdv A outer s H vs Q E hr h=>?_)
 ·obtain⟨me,N,aS,aP,sent0,spare0,M,cap,rfl,_⟩:=h
  rfl
 obtain⟨me,N,aS,aP,sent0,spare0,M,cap,rfl,hP,hF,q⟩:=h
 obtain⟨G0,f1,f2,f3,f4,fx⟩:=hP.ok
 obtain⟨dx,fs,aT,aA,ts,rs,g1,g2,g3,g4,g5,g6,g7,g8,g9,g10,g11⟩:=fx.get
 have hsm:=hP.sm
 have hgle:=hP.wf.gle
 have stat:∀H'',Frz [aS,aP] H H''→Same G0 H'':=fun H'' fz=>Same.frz f1 fz fun x hx=>by
  simp only [y0k,y1c,or_false] at hx
  rcases hx with rfl | rfl
  ·exact f2
  ·exact f3
 refine⟨_,(z02 (z0c 1 sc_Pour_fill.nd (z5p D_Pour_steps_to_room (hr.mono (by decide)) (cv 0)))
   (z02 (z3y (z2l (z2b D_Pour_has_room (hr.mono (by decide)) (cv 0) (z00 (z4i (N:=["end","step"]) (fr:=[]) 2 (z7n B.enumerate (cv 1)) (fun C hN=>by exact pgC ((z8e (z0f 0 hN) (z0f 1 hN))) (by walk_at "c")) (fun C hN=>by exact ptC ((z0s zkt (cv 1) z04 (z0o _))) (by walk_at "c")) (fun C hN=>by exact peC ((cv 0)) (by walk_at "c"))) z03)))
   (z02 (z25 (z2b D_Pour_send_by_steps (hr.mono (by decide)) (cv 0) (z00 (cv 1) z03)))
    (z07 (z0c 1 sc_Pour_fill.nd (z5p D_Pour_steps_to_room (hr.mono (by decide)) (cv 0))))))
   (z07 (z0m (z3o (N:=["step"]) (fr:=[]) 1 (z1k (cv 1)) (fun C hN=>by exact pgC ((z0f 0 hN)) (by walk_at "c")) (fun C hN=>by exact peC ((z3e zkt (cv 0) z04 (z0o _))) (by walk_at "c"))))))),?_⟩
 refine rd (σ':=[some (.ref me),none]) rfl ?_
 walk_at "run"
 refine⟨_,_,f1 _ _ g1,g11 _ (by decide),me,N,aS,aP,sent0,spare0,M,rfl,hP,fun l steps H1 s1 hl k1 hsl hfound=>?_⟩
 refine⟨fun m σ H'=>∃(sent spare steps:List Int) (ast:Addr),σ = [some (.ref me),some (.ref ast)]∧PourAt K CPour H' me N aS aP sent spare (ast::M)∧Frz [aS,aP] H H'∧H' ast=some (.lst (steps.map V.int))∧steps.length=N.nE∧PM.Flow N cap sent spare∧(∀(e:Nat) x y,spare0[e]?=some x→spare[e]?=some y→y≤x)∧zn0 N sent spare steps∧m=spare.sum.toNat,
  ⟨_,sent0,spare0,steps,l,rfl,(hP.new hl).same s1,Frz.of s1,k1,hsl,hF,fun e x y h1 h2=>by rw [h1] at h2; cases h2; exact y23 _,hfound,rfl⟩,?_⟩
 clear k1 hsl hfound hl s1
 rintro m σ H' ⟨sent,spare,steps,ast,rfl,hP',fz,k1,hsl,hF',le,⟨d,row,R,hrow⟩,rfl⟩
 walk_at "run"
 refine⟨_,_,stat H' fz _ _ g1,g11 _ (by decide),⟨_,SqL.of k1⟩,cgo (σ':=[none,none]) rfl ?_⟩
 have hml:(steps.map V.int).length=steps.length:=y04 _
 refine zac (xs:=steps.map V.int) (fun i ys H2=>Same H' H2∧ys=z09 (z8d steps i)) ⟨Same.refl _,rfl⟩ (z0l (by omega)) ?_ ?_ ?_
 ·rintro i ys H2 _ ⟨s2,rfl⟩
  exact⟨SqL.of (s2 _ _ k1),by rw [z44]; exact z9v _ _⟩
 ·rintro i x ys H2 p hx ⟨s2,rfl⟩ hp
  have hil:i<steps.length:=by simpa using (y00.mp hx).1
  have ex:x = .int (PM.Lv steps i):=by
   rw [y0b,ze2 hil] at hx
   exact(y14 hx).symm
  subst ex
  have s3:=z06 hp (.tup [.int (i:Int),.int (PM.Lv steps i)])
  refine⟨_,_,SqT.of z01,?_⟩
  walk_at "run"
  refine z3j (fun c=>?_) (fun c=>?_)
  ·refine CNx.mk ⟨s2.trans s3,?_⟩ (by omega)
   rw [z8l,if_pos (of_decide_eq_true c),zde]
  ·refine CNx.mk ⟨s2.trans s3,?_⟩ (by omega)
   rw [z8l,if_neg (fun z=>c (decide_eq_true z)),y2n]
 rintro ys H2 ⟨s2,rfl⟩ le1 hle1
 rw [hml]
 have s3:=z06 hle1 (.lst (z09 (z8d steps steps.length)))
 have s23:=s2.trans s3
 have rl:=z9v steps steps.length
 refine⟨me,N,aS,aP,sent,spare,_,le1,z8d steps steps.length,rfl,hP'.same s23,z01,by omega,fun e he=>?_,fun H3 s4=>?_⟩
 ·rw [←hsl]
  exact zan (reach_mem.mp he)
 have s24:=s23.trans s4
 have fz3:=fz.trans (Frz.of s24)
 walk_at "run"
 refine z3j (fun c=>?_) (fun c=>?_)
 ·obtain⟨e,he,hR⟩:=y1h.mp c
  have he0:=reach_mem.mp he
  have hR':=(z45 (by rw [hP'.lp,←hsl]; exact zan he0)).mp hR
  refine⟨_,_,stat H3 fz3 _ _ g1,g11 _ (by decide),me,N,aS,aP,sent,spare,_,ast,cap,steps,rfl,hP'.same s24,y0d,s24 _ _ k1,hsl,hF',R.st,fun sent' spare' H4 fz4 j1 j2 hF4 le4 less=>?_⟩
  have hP4:=(hP'.same s24).but fz4 j1 j2 (by rw [hF4.ls,hF'.ls]) (by rw [hF4.lp,hF'.lp])
  have fz4':=fz3.trans fz4
  have hP4':=hP4.less (L:=M) (fun x hx=>y08 _ hx)
  walk_at "run"
  refine⟨_,_,stat H4 fz4' _ _ g1,g11 _ (by decide),me,N,aS,aP,sent',spare',M,rfl,hP4',fun l2 steps2 H5 s5 i1 i2 hsl2 hf2=>?_⟩
  have sl:=less e he0 hR'
  have n0:0≤spare'.sum:=PM.sum_nn fun i x hx=>hF4.sp i x hx
  refine⟨_,?_,sent',spare',steps2,l2,rfl,(hP4'.new i1).same s5,fz4'.trans (Frz.of s5),i2,hsl2,hF4,fun e x y h1 h2=>?_,hf2,rfl⟩
  ·omega
  ·have hz:spare[e]?=some (spare[e]'(by have:=(y00.mp h1).1; rw [hP'.lp]; rw [hP.lp] at this; exact this)):=y01 _
   have a1:=le e _ _ h1 hz
   have a2:=le4 e _ _ hz h2
   omega
 ·have nor:∀e,0≤PM.Lv steps e→¬PM.Room N spare e:=fun e he hR=>by
   have hR':=(z45 (by rw [hP'.lp,←hsl]; exact zan he)).mpr hR
   exact c (y1h.mpr ⟨e,reach_mem.mpr he,hR'⟩)
  have Dn:=R.done hF' hrow nor
  refine .inl ⟨⟨_,SqL.of (s24 _ _ k1)⟩,cgo (σ':=[none]) rfl ?_⟩
  refine z1q (xs:=steps.map V.int) (fun i ys H4=>H4=H3∧ys=((steps.take i).map fun s=>decide (0≤s)).map V.bl) ⟨rfl,rfl⟩ (z0l (by omega)) ?_ ?_ ?_
  ·rintro i ys H4 _ ⟨rfl,rfl⟩
   refine⟨SqL.of (s24 _ _ k1),?_⟩
   rw [y04,y04,y0r]
   omega
  ·rintro i x ys H4 hx ⟨rfl,rfl⟩
   have hil:i<steps.length:=by simpa using (y00.mp hx).1
   have hst:steps[i]?=some steps[i]:=y01 hil
   have ex:x = .int steps[i]:=by
    rw [y0b,hst] at hx
    exact(y14 hx).symm
   subst ex
   walk_at "run"
   refine z8c (CNx.mk ⟨rfl,?_⟩ (by omega))
   rw [z0g hst,y0h,y0h]
   rfl
  ·rintro ys H4 ⟨rfl,rfl⟩ l2 hl2
   rw [hml,y05 (y07 _)]
   have s5:=z06 hl2 (.lst ((z3l steps).map V.bl))
   have hl2H:H l2=none:=by
    cases z:H l2 with
    | none=>rfl
    | some o =>
     exfalso
     by_cases hb:l2 ∈ [aS,aP]
     ·simp only [y0k,y1c,or_false] at hb
      rcases hb with rfl | rfl
      ·rw [s24 _ _ hP'.st] at hl2; cases hl2
      ·rw [s24 _ _ hP'.sp] at hl2; cases hl2
     ·rw [fz3 _ _ hb z] at hl2; cases hl2
   exact q l2 sent spare steps _ (fz3.trans (Frz.of s5)) (s5 _ _ (s24 _ _ hP'.st)) (s5 _ _ (s24 _ _ hP'.sp)) Dn le hsl hl2H z01
abbrev z2v:Stmt:=top 14
theorem sc_pour_more:FnScope ["gives","takes","ties","sent","pour","near"] ["gives","takes","ties","sent"] (z05 z2v):=⟨rfl,rfl,rfl,by decide +kernel,rfl,by decide +kernel,by decide +kernel⟩
theorem za3 (T:Top K mg "pour_more" z2v ["gives","takes","ties","sent"])(B:Blt mg)(F:FldsPour K CPour)(D_Pour_init:CDef P w K mg base "Pour" CPour 1 ["self","gives","takes","ties","sent"] (zfd K CPour))(D_Pour_fill:MDef P w K mg base CPour "fill" 6 ["self"] (zjl K CPour)):Def P w K mg base "pour_more" 7 ["gives","takes","ties","sent"] (zk4 K):=by
 refine z0x (k:=6) T sc_pour_more (fun vs H Q E h=>?_) (fun f cdv A outer s H vs Q E hr h=>?_)
 ·obtain⟨ag,ak,ai,ase,gs,ts,ss,ties,rfl,_⟩:=h
  rfl
 obtain⟨ag,ak,ai,ase,gs,ts,ss,ties,rfl,hg,hk,hi,hs,hties,hssl,hsm,htl,hnn,hsp,q⟩:=h
 refine⟨_,(z02 (z0c 4 sc_pour_more.nd (zkv D_Pour_init (hr.mono (by decide)) (z00 (cv 0) (z00 (cv 1) (z00 (cv 2) (z00 (cv 3) z03))))))
   (z02 (z0c 5 sc_pour_more.nd (z5p D_Pour_fill (hr.mono (by decide)) (cv 4)))
   (z07 (z0m (z22 (z00 (z1m F.sent (cv 4)) (z00 (z22 (z00 (zhq (cv 5) z64 (z3g (z3m z24 B.len y17 (z00 (cv 0) z03)))) (z00 (zhq (cv 5) (z3g (z3m z24 B.len y17 (z00 (cv 0) z03))) z64) z03))) z03))))))),?_⟩
 refine rd (σ':=[some (.ref ag),some (.ref ak),some (.ref ai),some (.ref ase),none,none]) rfl ?_
 walk_at "run"
 intro x dx hx hdx hne
 have s1:Same H (upd (upd H dx (.own x)) x (.ins CPour dx [])):=fun b o h=>by
  rw [z0a (z08 h hx),z0a (z08 h hdx)]
  exact h
 refine⟨x,dx,ag,ak,ai,ase,gs,ts,ss,ties,rfl,z01,s1 _ _ hg,s1 _ _ hk,Is.same s1 _ _ hi,s1 _ _ hs,hties,hssl,hsm,htl,fun aS aP H1 fz1 hS hP0 hP=>⟨rfl,?_⟩⟩
 have hSH:H aS=none:=s1.free hS
 have hPH:H aP=none:=s1.free hP0
 have s2:Same H H1:=fun b o h=>fz1 b o (by simpa using z08 h hx) (s1 b o h)
 obtain⟨G0,f1,f2,f3,f4,fx⟩:=hP.ok
 obtain⟨dx',fs,aT,aA,ts',rs,g1,g2,g3,g4,g5,g6,g7,g8,g9,g10,g11⟩:=fx.get
 walk_at "run"
 refine⟨_,_,f1 _ _ g1,g11 _ (by decide),x,zdp gs.length ts.length ties,aS,aP,ss,_,[],gs++ts,rfl,hP,zp5 hssl hnn hsp,fun l sent spare steps H2 fz2 k1 k2 Dn le hsl hl k3=>?_⟩
 have hlH:H l=none:=s2.free hl
 have s3:Same H H2:=fun b o h=>fz2 b o (by simp only [y0k,y1c,or_false]; exact fun z=>z.elim (z08 h hSH) (z08 h hPH)) (s2 b o h)
 have sG:=Same.frz f1 fz2 fun x hx=>by
  simp only [y0k,y1c,or_false] at hx
  rcases hx with rfl | rfl
  ·exact f2
  ·exact f3
 have hsl':steps.length=gs.length+ts.length:=hsl
 have hgl:(gs.map V.int).length=gs.length:=y04 _
 refine⟨_,_,_,sG _ _ g1,g4,?_⟩
 refine⟨_,.inl (SqL.of (s3 _ _ hg)),?_⟩
 rw [hgl]
 walk_at "run"
 refine⟨_,SqL.of k3,fun n1 hn1=>?_⟩
 rw [zgg,←y7c]
 have s4:=z06 hn1 (.lst (((z3l steps).take gs.length).map V.bl))
 refine⟨_,.inl (SqL.of ((s3.trans s4) _ _ hg)),?_⟩
 rw [hgl]
 refine⟨_,SqL.of (s4 _ _ k3),fun n2 hn2=>?_⟩
 rw [zgh,←y7d]
 have s5:=z06 hn2 (.lst (((z3l steps).drop gs.length).map V.bl))
 refine⟨sz (by show 2≤1000; decide),fun q' hq'=>⟨sz (by show 2≤1000; decide),fun p hp=>?_⟩⟩
 have s6:=z06 hq' (.tup [.ref n1,.ref n2])
 have s7:=z06 hp (.tup [.ref aS,.ref q'])
 have sA:=s3.trans (s4.trans (s5.trans (s6.trans s7)))
 refine q p q' aS n1 n2 sent spare steps _ sA ⟨(s3.trans (s4.trans (s5.trans s6))).free hp,(s3.trans (s4.trans s5)).free hq',hSH,s3.free hn1,(s3.trans s4).free hn2⟩ ⟨fun z=>?_,fun z=>?_,fun z=>?_⟩ z01 (s7 _ _ z01) ((s4.trans (s5.trans (s6.trans s7))) _ _ k1) ((s5.trans (s6.trans s7)) _ _ z01) ((s6.trans s7) _ _ z01) Dn hsl' le
 ·subst z
  rw [k1] at hn1
  cases hn1
 ·subst z
  rw [s4 _ _ k1] at hn2
  cases hn2
 ·subst z
  rw [z01] at hn2
  cases hn2
abbrev z3c:Stmt:=top 13
theorem zc8:FnScope ["gives","takes","ties"] ["gives","takes","ties"] (z05 z3c):=⟨rfl,rfl,rfl,by decide +kernel,rfl,by decide +kernel,by decide +kernel⟩
theorem zbr (T:Top K mg "pour_all" z3c ["gives","takes","ties"])(B:Blt mg)(D_pour_more:Def P w K mg base "pour_more" 7 ["gives","takes","ties","sent"] (zk4 K)):Def P w K mg base "pour_all" 8 ["gives","takes","ties"] (zne K):=by
 refine z0x (k:=7) T zc8 (fun vs H Q E h=>?_) (fun f cdv A outer s H vs Q E hr h=>?_)
 ·obtain⟨ag,ak,ai,gs,ts,ties,rfl,_⟩:=h
  rfl
 obtain⟨ag,ak,ai,gs,ts,ties,rfl,hg,hk,hi,hties,hsm,htl,hnn,q⟩:=h
 obtain⟨_,tv,e1,hai,hal⟩:=is_list.mp hi
 cases e1
 have htv:tv.length=ties.length:=by simpa using z0k hal
 refine⟨_,(z07 (z0m (z0b D_pour_more (hr.mono (by decide)) (z00 (cv 0) (z00 (cv 1) (z00 (cv 2) (z00 (z0j z1y (z1l (z00 z04 z03)) (z3m z24 B.len y17 (z00 (cv 2) z03))) z03))))))),?_⟩
 refine rd (σ':=[some (.ref ag),some (.ref ak),some (.ref ai)]) rfl ?_
 walk_at "run"
 refine⟨sz (by show 1≤1000; decide),fun l0 hl0=>?_⟩
 have s0:=z06 hl0 (.lst [.int 0])
 refine⟨_,.inl (SqL.of (s0 _ _ hai)),?_⟩
 rw [htv]
 walk_at "run"
 refine⟨_,z01,by omega,by omega,sz (by show 1*_≤1000; omega),fun l1 hl1=>?_⟩
 rw [z48]
 have e0:y06 ((ties.length:Int)).toNat (V.int 0)=(y06 ties.length 0).map V.int:=by rw [y30]; rfl
 rw [e0]
 have s1:=z06 hl1 (.lst ((y06 ties.length 0).map V.int))
 have sA:=s0.trans s1
 refine⟨ag,ak,ai,l1,gs,ts,y06 ties.length 0,ties,rfl,sA _ _ hg,sA _ _ hk,Is.same sA _ _ hi,z01,hties,by rw [y1z],hsm,htl,fun k s h=>?_,fun e he=>?_,?_⟩
 ·rw [y1i] at h
  split at h
  ·cases h
   exact y23 _
  ·cases h
 ·unfold zds
  rw [y05 (l:=y06 ties.length 0) (by rw [y1z]; exact y07 _),za4]
  have he':e<(gs++ts).length:=by rw [y09]; exact he
  have:=hnn _ (y03 (z0y he'))
  omega
 ·intro p q' aS n1 n2 sent spare steps H' s2 fr ne h1 h2 h3 h4 h5 Dn hsl _
  exact q p q' aS n1 n2 sent spare steps H' (sA.trans s2) ⟨sA.free fr.1,sA.free fr.2.1,sA.free fr.2.2.1,sA.free fr.2.2.2.1,sA.free fr.2.2.2.2⟩ ne h1 h2 h3 h4 h5 Dn hsl trivial
abbrev z3v:Stmt:=top 16
theorem sc_ties_in:FnScope ["doers","crowd","place_of","ties","give","chore"] ["doers","crowd"] (z05 z3v):=⟨rfl,rfl,rfl,by decide +kernel,rfl,by decide +kernel,by decide +kernel⟩
theorem zdo (T:Top K mg "ties_in" z3v ["doers","crowd"])(B:Blt mg) :Def P w K mg base "ties_in" 1 ["doers","crowd"] (zd5 K):=by
 refine z0x (k:=0) T sc_ties_in (fun vs H Q E h=>?_) (fun f cdv A outer s H vs Q E hr h=>?_)
 ·obtain⟨ad,vc,drs,hands,chores,rfl,_⟩:=h
  rfl
 obtain⟨ad,vc,drs,hands,chores,rfl,hd,hcr,hnd,hhl,hcl,hrl,hin,q⟩:=h
 obtain⟨ac,ah,ax,rfl,h1,h2,h3⟩:=is_crowd.mp hcr
 obtain⟨_,rs,e1,hda,hal⟩:=is_list.mp hd
 cases e1
 have hrsl:rs.length=drs.length:=by simpa using z0k hal
 refine⟨_,(z02 (z0c 2 sc_ties_in.nd (zo6 zll B.dict zl4 (z00 (z3o (N:=["place","hand"]) (fr:=[]) 2 (z7n B.enumerate (z0h z0i (cv 1) z04 (fun _ _=>rfl))) (fun C hN=>by exact pgC ((z8e (z0f 0 hN) (z0f 1 hN))) (by walk_at "c")) (fun C hN=>by exact peC ((z22 (z00 (cv 1) (z00 (cv 0) z03)))) (by walk_at "c"))) z03)))
   (z02 (z0c 3 sc_ties_in.nd (z1l z03))
   (z02 (z23 (z7n B.enumerate (z0h z0i (cv 1) z04 (fun _ _=>rfl))) (z8e (z0f 4 sc_ties_in.nd) (z0f 5 sc_ties_in.nd))
   (z07 (z25 (zaa (cv 3) (z00 (z4i (N:=["hand","give","place_of"]) (fr:=[4,2]) 1 (z1k (z0h z0i (cv 0) (cv 5) (fun _ _=>rfl))) (fun C hN=>by exact pgC ((z0f 0 hN)) (by walk_at "c")) (fun C hN=>by exact ptC ((z0s (zm6 hr) (cv 0) (cv 2) (by with_unfolding_all rfl))) (by walk_at "c")) (fun C hN=>by exact peC ((z22 (z00 (cv 1) (z00 (zlg hr (cv 2) (cv 0) (fun _ _=>rfl)) z03)))) (by walk_at "c"))) z03)))))
   (z07 (z0m (cv 3)))))),?_⟩
 refine rd (σ':=[some (.ref ad),some (.ref ac),none,none,none,none]) rfl ?_
 walk_at "run"
 refine⟨_,_,.inr (SqT.of h1),rfl,?_⟩
 walk_at "run"
 refine⟨⟨_,SqL.of h2⟩,?_⟩
 refine zac (xs:=z09 hands) (fun i ys H2=>Same H H2∧∃tas:List Addr,ys=tas.map V.ref∧tas.length=i∧∀(j:Nat) t,tas[j]?=some t→H2 t=some (.tup [.int ((hands.getD j 0:Nat):Int),.int (j:Int)])) ⟨Same.refl _,[],rfl,rfl,fun j t h=>by simp at h⟩ (z0l (by rw [z0n]; omega)) ?_ ?_ ?_
 ·rintro i ys H2 _ ⟨e2,tas,rfl,hl,_⟩
  exact⟨SqL.of (e2 _ _ h2),by rw [y04]; omega⟩
 ·rintro i x ys H2 Tp hx ⟨e2,tas,rfl,hl,ht⟩ hT
  have hil:=(y00.mp hx).1
  obtain⟨hh,hhh,rfl⟩:=z33 hx
  have sT:=z06 hT (.tup [.int (i:Int),.int (hh:Int)])
  walk_at "run"
  refine⟨_,_,SqT.of z01,?_⟩
  walk_at "run"
  refine z8c ⟨sz (by show 2≤1000; decide),fun t htt=>?_⟩
  have sU:=z06 htt (.tup [.int (hh:Int),.int (i:Int)])
  refine CNx.mk ⟨e2.trans (sT.trans sU),tas ++ [t],by rw [y0h]; rfl,by rw [y09]; simp; omega,fun j t' hj=>?_⟩ hil
  by_cases c:j<tas.length
  ·rw [y0l c] at hj
   exact(sT.trans sU) _ _ (ht j t' hj)
  ·rw [y0s (by omega)] at hj
   have e:j=tas.length:=by
    have:=(y00.mp hj).1
    simp at this
    omega
   subst e
   simp at hj
   subst hj
   rw [z01,hl,PM.getD_of hhh]
 rintro ys H2 ⟨e2,tas,rfl,hl,ht⟩ lp hlp
 rw [z0n] at hl
 have sL:=z06 hlp (.lst (tas.map V.ref))
 walk_at "run"
 refine⟨tas,z29 hands,z01,by unfold z29; simp; exact hl,fun j t p hj hp=>?_,fun dp hdp=>?_⟩
 ·have hjl:=(y00.mp hj).1
  unfold z29 at hp
  rw [y0b,y25 (by omega)] at hp
  cases hp
  exact sL _ _ (ht j t hj)
 rw [zek hnd]
 have sD:=z06 hdp (.dK (z29 hands))
 have e3:=e2.trans (sL.trans sD)
 have hdk:=z01 (H:=upd H2 lp (.lst (tas.map V.ref))) (a:=dp) (o:=.dK (z29 hands))
 generalize upd (upd H2 lp (.lst (tas.map V.ref))) dp (.dK (z29 hands))=H3 at e3 hdk ⊢
 clear sL sD hlp hdp ht hl e2
 refine⟨sz (by show 0≤1000; decide),fun l hl=>?_⟩
 have nl:dp≠l:=z08 hdk hl
 refine⟨_,_,.inr (SqT.of ((e3.trans (z06 hl _)) _ _ h1)),rfl,?_⟩
 walk_at "run"
 refine⟨⟨_,SqL.of ((e3.trans (z06 hl _)) _ _ h3)⟩,?_⟩
 refine zbk (xs:=z09 chores) (fun i σ' H'=>∃t4 t5 tvs,σ' = [some (.ref ad),some (.ref ac),some (.ref dp),some (.ref l),t4,t5]∧Grow K H3 H' l tvs ((z52 drs hands chores i).map pr)∧tvs.length≤i*20) ⟨_,_,[],rfl,Grow.start hl,y07 _⟩ ?_ ?_ ?_
 ·rintro i σ' H' _ ⟨_,_,_,_,gr,_⟩
  exact SqL.of (gr.same _ _ (e3 _ _ h3))
 ·rintro i x σ' H' Tp hx ⟨t4,t5,tvs,rfl,gr,tvl⟩ hT
  have hil:=(y00.mp hx).1
  rw [z0n] at hil
  obtain⟨c,hc,rfl⟩:=z33 hx
  have gr2:=gr.more (z06 hT (.tup [.int (i:Int),.int (c:Int)]))
  have hcd:=hin c (y03 hc)
  have hrow:drs[c]?=some drs[c]:=y01 hcd
  have hgetD:drs.getD (chores.getD i 0) []=drs[c]:=by
   rw [PM.getD_of hc]
   simp [y1j,hrow]
  generalize drs[c]=row at hrow hgetD
  have hrowl:=hrl row (y03 hrow)
  obtain⟨ra,hra1,hra2⟩:=z5c hal hrow
  walk_at "run"
  refine⟨_,_,SqT.of z01,?_⟩
  walk_at "run"
  generalize upd H' Tp (.tup [.int (i:Int),.int (c:Int)])=H4 at gr2 ⊢
  clear gr hT
  have e4:=e3.trans gr2.same
  refine⟨⟨_,gr2.here⟩,_,_,.inl (SqL.of (e4 _ _ hda)),z1v hra1,?_⟩
  walk_at "run"
  refine .inl ⟨⟨_,SqL.of (e4 _ _ hra2)⟩,?_⟩
  refine cgo (σ':=[none,some (.int (i:Int)),some (.ref dp)]) rfl ?_
  refine z1q (xs:=z09 row) (fun j ys H5=>Same H4 H5∧ys.length≤j∧IsAll K (del H5 l) ys ((z3q hands i (row.take j)).map pr)) ⟨Same.refl _,y07 _,z0t⟩ (z0l (by rw [z0n]; omega)) ?_ ?_ ?_
  ·rintro j ys H5 _ ⟨e5,yl,_⟩
   exact⟨SqL.of ((e4.trans e5) _ _ hra2),yl⟩
  ·rintro j x ys H5 hx2 ⟨e5,yl,al⟩
   have hjl:=(y00.mp hx2).1
   obtain⟨hh,hhh,rfl⟩:=z33 hx2
   have hdk5:=e5 _ _ (gr2.same _ _ hdk)
   rw [show ∀(m:Nat),CNx (fun j ys H5=>Same H4 H5∧ys.length≤j∧IsAll K (del H5 l) ys ((z3q hands i (row.take j)).map pr)) m=CNx (fun j ys H5=>Same H4 H5∧ys.length≤j∧IsAll K (del H5 l) ys ((z3q hands i (row.take j)).map pr)) m from fun _=>rfl]
   walk_at "run"
   refine⟨_,hdk5,?_⟩
   rw [z7p hnd]
   walk_at "run"
   cases hpl:z3f hands hh with
   | none =>
    refine z8b (CNx.mk ⟨e5,by omega,?_⟩ hjl)
    rw [z0g hhh,z6l,hpl]
    simpa using al
   | some p =>
    refine z8c ⟨_,_,hdk5,by rw [z7p hnd,hpl]; rfl,?_⟩
    walk_at "run"
    refine⟨sz (by show 2≤1000; decide),fun t htt=>?_⟩
    have sT:=z06 htt (.tup [.int (i:Int),.int (p:Int)])
    refine CNx.mk ⟨e5.trans sT,by rw [y09]; simp; omega,?_⟩ hjl
    rw [z0g hhh,z6l,hpl,y0h]
    refine z1f (IsAll.same (z4v sT) _ _ al) (z72 (zo8 (p:=(i,p)) (K:=K) z01) (xs:=tvs) ((e5.trans sT) _ _ gr2.here))
  ·rintro ys H5 ⟨e5,yl,al⟩ le hle
   rw [z0n] at yl
   rw [z0n,y05 (y07 _)] at al
   have sE:=z06 hle (.lst ys)
   have gr3:=gr2.more (e5.trans sE)
   have nle:le≠l:=fun z=>by
    subst z
    rw [e5 _ _ gr2.here] at hle
    cases hle
   walk_at "run"
   have hti:i<20:=by omega
   refine⟨_,_,gr3.here,z01,sz (by omega),?_⟩
   refine⟨_,_,tvs++ys,rfl,⟨?_,z01,?_⟩,by rw [y09]; omega⟩
   ·rw [z2e]
    exact gr3.old
   ·rw [z2e,z52,hgetD,y0h]
    exact z5q gr3.all (IsAll.same (z4v sE) _ _ al)
 ·rintro σ' H' ⟨t4,t5,tvs,rfl,gr,tvl⟩
  rw [z0n] at gr
  walk_at "run"
  exact q _ _ (e3.trans gr.same) gr.is
abbrev z46:Stmt:=top 17
theorem zdx:FnScope ["works","crowd"] ["works","crowd"] (z05 z46):=⟨rfl,rfl,rfl,by decide +kernel,rfl,by decide +kernel,by decide +kernel⟩
theorem zea (T:Top K mg "work_in" z46 ["works","crowd"])(B:Blt mg) :Def P w K mg base "work_in" 1 ["works","crowd"] (z9d K):=by
 refine z0x (k:=0) T zdx (fun vs H Q E h=>?_) (fun f cdv A outer s H vs Q E hr h=>?_)
 ·obtain⟨aw,vc,ws,hands,chores,rfl,_⟩:=h
  rfl
 obtain⟨aw,vc,ws,hands,chores,rfl,hw,hcr,hcl,hin,q⟩:=h
 obtain⟨ac,ah,ax,rfl,h1,h2,h3⟩:=is_crowd.mp hcr
 refine⟨_,(z07 (z0m (z3m za2 B.sum zaq (z00 (z3o (N:=["chore","works"]) (fr:=[0]) 1 (z1k (z0h z0i (cv 1) z04 (fun _ _=>rfl))) (fun C hN=>by exact pgC ((z0f 0 hN)) (by walk_at "c")) (fun C hN=>by exact peC ((z0h z0i (cv 1) (cv 0) (fun _ _=>rfl))) (by walk_at "c"))) z03)))),?_⟩
 refine rd (σ':=[some (.ref aw),some (.ref ac)]) rfl ?_
 walk_at "run"
 refine⟨_,_,.inr (SqT.of h1),rfl,?_⟩
 walk_at "run"
 refine .inl ⟨⟨_,SqL.of h3⟩,?_⟩
 refine cgo (σ':=[none,some (.ref aw)]) rfl ?_
 refine z1q (xs:=z09 chores) (fun i ys H2=>H2=H∧ys=((chores.take i).map fun c=>ws.getD c 0).map V.int) ⟨rfl,rfl⟩ (z0l (by rw [z0n]; omega)) ?_ ?_ ?_
 ·rintro i ys H2 hi ⟨rfl,rfl⟩
  exact⟨SqL.of h3,by simp; omega⟩
 ·rintro i x ys H2 hx ⟨rfl,rfl⟩
  have hil:=(y00.mp hx).1
  obtain⟨c,hc,rfl⟩:=z33 hx
  walk_at "run"
  refine z8c ⟨_,_,.inl (SqL.of hw),zn7 (hin c (y03 hc)),CNx.mk ⟨rfl,?_⟩ hil⟩
  rw [z0g hc,y0h,y0h]
  rfl
 ·rintro ys H2 ⟨rfl,rfl⟩ l hl
  rw [z0n,y05 (y07 _)]
  walk_at "run"
  exact⟨_,SqL.of z01,q _ (z06 hl _)⟩
abbrev z3w:Stmt:=top 18
theorem sc_pour_in:FnScope ["works","doers","crowd","many","gives"] ["works","doers","crowd"] (z05 z3w):=⟨rfl,rfl,rfl,by decide +kernel,rfl,by decide +kernel,by decide +kernel⟩
theorem zeb (T:Top K mg "pour_in" z3w ["works","doers","crowd"])(B:Blt mg)(D_pour_all:Def P w K mg base "pour_all" 8 ["gives","takes","ties"] (zne K))(D_ties_in:Def P w K mg base "ties_in" 1 ["doers","crowd"] (zd5 K))(D_work_in:Def P w K mg base "work_in" 1 ["works","crowd"] (z9d K)):Def P w K mg base "pour_in" 9 ["works","doers","crowd"] (zdc K):=by
 refine z0x (k:=8) T sc_pour_in (fun vs H Q E h=>?_) (fun f cdv A outer s H vs Q E hr h=>?_)
 ·obtain⟨aw,ad,vc,ws,drs,hands,chores,rfl,_⟩:=h
  rfl
 obtain⟨aw,ad,vc,ws,drs,hands,chores,rfl,ac',hcr,ok,q⟩:=h
 obtain⟨ac,ah,ax,rfl,h1,h2,h3⟩:=is_crowd.mp hcr
 have hl:=ok.hl
 have cl:=ok.cl
 refine⟨_,(z02 (z0c 3 sc_pour_in.nd (z3m z24 B.len y17 (z00 (z0h z0i (cv 2) z04 (fun _ _=>rfl)) z03)))
   (z02 (zbq (N:=["chore","many","works"]) (fr:=[3,0]) 4 1 sc_pour_in.nd (z1k (z0h z0i (cv 2) z04 (fun _ _=>rfl))) (fun C hN=>by exact pgC ((z0f 0 hN)) (by walk_at "c")) (fun C hN=>by exact peC ((z0j z1y (z0h z0i (cv 2) (cv 0) (fun _ _=>rfl)) (cv 1))) (by walk_at "c")))
   (z07 (z0m (z0b D_pour_all (hr.mono (by decide)) (z00 (cv 4) (z00 (z0j z1y (z1l (z00 (z0b D_work_in (hr.mono (by decide)) (z00 (cv 0) (z00 (cv 2) z03))) z03)) (cv 3)) (z00 (z0b D_ties_in (hr.mono (by decide)) (z00 (cv 1) (z00 (cv 2) z03))) z03)))))))),?_⟩
 refine rd (σ':=[some (.ref aw),some (.ref ad),some (.ref ac),none,none]) rfl ?_
 walk_at "run"
 refine⟨_,_,.inr (SqT.of h1),rfl,_,.inl (SqL.of h2),?_⟩
 walk_at "run"
 rw [z0n]
 refine⟨_,_,.inr (SqT.of h1),rfl,?_⟩
 walk_at "run"
 refine .inl ⟨⟨_,SqL.of h3⟩,?_⟩
 refine cgo (σ':=[none,some (.int (hands.length:Int)),some (.ref aw)]) rfl ?_
 refine z1q (xs:=z09 chores) (fun i ys H2=>H2=H∧ys=((chores.take i).map fun c=>ws.getD c 0*(hands.length:Int)).map V.int) ⟨rfl,rfl⟩ (z0l (by rw [z0n]; omega)) ?_ ?_ ?_
 ·rintro i ys H2 hi ⟨rfl,rfl⟩
  exact⟨SqL.of h3,by simp; omega⟩
 ·rintro i x ys H2 hx ⟨rfl,rfl⟩
  have hil:=(y00.mp hx).1
  obtain⟨c,hc,rfl⟩:=z33 hx
  have hcw:=ok.ci c (y03 hc)
  walk_at "run"
  refine z8c ⟨_,_,.inl (SqL.of ac'.w),zn7 hcw,z4c (m:=300) (n:=60) (ac'.bd _ (y03 (z0y hcw))) (by show _<_; omega) (by decide),CNx.mk ⟨rfl,?_⟩ hil⟩
  rw [z0g hc,y0h,y0h]
  rfl
 rintro ys H2 ⟨rfl,rfl⟩ lg hlg
 rw [z0n,y05 (y07 _)]
 have s1:=z06 hlg (.lst ((chores.map fun c=>ws.getD c 0*(hands.length:Int)).map V.int))
 have hg:=z01 (H:=H2) (a:=lg) (o:=.lst ((chores.map fun c=>ws.getD c 0*(hands.length:Int)).map V.int))
 generalize upd H2 lg (.lst ((chores.map fun c=>ws.getD c 0*(hands.length:Int)).map V.int))=H3 at s1 hg ⊢
 walk_at "run"
 refine⟨aw,.ref ac,ws,hands,chores,rfl,s1 _ _ ac'.w,Is.same s1 _ _ hcr,cl,ok.ci,fun H4 s4=>?_⟩
 walk_at "run"
 refine⟨sz (by show 1≤1000; decide),fun l1 hl1=>?_⟩
 have s5:=z06 hl1 (.lst [.int (z30 ws chores)])
 refine⟨_,z01,by omega,by omega,sz (by show 1*_≤1000; omega),fun lt hlt=>?_⟩
 have er:y06 ((hands.length:Int)).toNat (V.int (z30 ws chores))=(takesIn ws hands chores).map V.int:=by unfold takesIn; rw [y30]; rfl
 rw [z48,er]
 have s6:=z06 hlt (.lst ((takesIn ws hands chores).map V.int))
 have ht:=z01 (H:=upd H4 l1 (.lst [.int (z30 ws chores)])) (a:=lt) (o:=.lst ((takesIn ws hands chores).map V.int))
 have sA:=s1.trans (s4.trans (s5.trans s6))
 have hg2:=(s4.trans (s5.trans s6)) _ _ hg
 generalize upd (upd H4 l1 (.lst [.int (z30 ws chores)])) lt (.lst ((takesIn ws hands chores).map V.int))=H5 at sA hg2 ht ⊢
 clear s1 s4 s5 s6 hg hl1 hlt er
 refine⟨ad,.ref ac,drs,hands,chores,rfl,Is.same sA _ _ ac'.d,Is.same sA _ _ hcr,ok.nd,hl,cl,ac'.row,fun c hc=>by rw [ac'.len]; exact ok.ci c hc,fun vt H6 s6 it=>?_⟩
 obtain⟨ai,tv,e1,hai,hal⟩:=is_list.mp it
 subst e1
 walk_at "run"
 have glen:(z1u ws hands chores).length=chores.length:=by unfold z1u; simp
 have tlen:(takesIn ws hands chores).length=hands.length:=by unfold takesIn; simp
 have tl:=z8q (hands:=hands) (chores:=chores) ac'.row chores.length
 have wp:∀c∈chores,1≤ws.getD c 0:=fun c hc=>ac'.pos _ (y03 (z0y (ok.ci c hc)))
 refine⟨lg,lt,ai,z1u ws hands chores,takesIn ws hands chores,z51 drs hands chores,rfl,s6 _ _ hg2,s6 _ _ ht,it,fun p hp=>?_,by omega,by unfold z51; omega,fun g hg=>?_,?_⟩
 ·obtain⟨g,t⟩:=p
  obtain⟨c,hd,g1,g2,_⟩:=(za6 ok.nd g t).mp hp
  rw [glen,tlen]
  exact⟨(y00.mp g1).1,(y00.mp g2).1⟩
 ·rcases y0u.mp hg with hg | hg
  ·unfold z1u at hg
   obtain⟨c,hc,rfl⟩:=y22.mp hg
   have:=wp c hc
   exact y1r (by omega) (by omega)
  ·unfold takesIn at hg
   rw [y56 hg]
   unfold z30
   exact PM.sum_nn fun i x hx=>by
    obtain⟨c,hc,rfl⟩:=y22.mp (y03 hx)
    have:=wp c hc
    omega
 ·intro p q' aS n1 n2 sent spare steps H' s2 fr ne k1 k2 k3 k4 k5 Dn hsl _
  have sB:=sA.trans s6
  exact q p q' aS n1 n2 sent spare steps H' (sB.trans s2) ⟨sB.free fr.1,sB.free fr.2.1,sB.free fr.2.2.1,sB.free fr.2.2.2.1,sB.free fr.2.2.2.2⟩ ne k1 k2 k3 k4 k5 Dn hsl trivial
abbrev z50:Stmt:=top 19
theorem zff:FnScope ["things","marks","wanted"] ["things","marks","wanted"] (z05 z50):=⟨rfl,rfl,rfl,by decide +kernel,rfl,by decide +kernel,by decide +kernel⟩
theorem zga (T:Top K mg "chosen" z50 ["things","marks","wanted"])(B:Blt mg) :Def P w K mg base "chosen" 1 ["things","marks","wanted"] (zd2 K):=by
 refine z0x (k:=0) T zff (fun vs H Q E h=>?_) (fun f cdv A outer s H vs Q E hr h=>?_)
 ·obtain⟨ax,ab,xs,bs,w,rfl,_⟩:=h
  rfl
 obtain⟨ax,ab,xs,bs,w,rfl,h1,h2,hl,hxl,q⟩:=h
 refine⟨_,(z07 (z0m (z4i (N:=["thing","mark","wanted"]) (fr:=[2]) 2 (z92 B.zip (cv 0) (cv 1)) (fun C hN=>by exact pgC ((z8e (z0f 0 hN) (z0f 1 hN))) (by walk_at "c")) (fun C hN=>by exact ptC ((z0s z5b (cv 1) (cv 2) (z0o _))) (by walk_at "c")) (fun C hN=>by exact peC ((cv 0)) (by walk_at "c"))))),?_⟩
 refine rd (σ':=[some (.ref ax),some (.ref ab),some (.bl w)]) rfl ?_
 walk_at "run"
 refine⟨false,false,⟨_,SqL.of h1⟩,⟨_,SqL.of h2⟩,?_⟩
 refine cgo (σ':=[none,none,some (.bl w)]) rfl ?_
 refine zil (xs:=z09 xs) (zs:=bs.map V.bl) xs.length (by rw [z0n,y04]; omega) (fun i ys H2=>Same H H2∧ys.length≤i∧ys=z09 (pick (xs.take i) (bs.take i) w)) ⟨Same.refl _,y07 _,rfl⟩ (z0l (by omega)) ?_ ?_ ?_
 ·rintro i ys H2 _ ⟨e2,yl,_⟩
  exact⟨zpw (SqL.of (e2 _ _ h1)),zpw (SqL.of (e2 _ _ h2)),yl⟩
 ·rintro i x z ys H2 Tp hx hz ⟨e2,yl,rfl⟩ hT
  have hil:=(y00.mp hx).1
  rw [z0n] at hil
  obtain⟨n,hn,rfl⟩:=z33 hx
  obtain⟨b,hb,rfl⟩:=zni hz
  have e3:=e2.trans (z06 hT (.tup [.int (n:Int),.bl b]))
  walk_at "run"
  refine⟨_,_,SqT.of z01,?_⟩
  walk_at "run"
  refine z3j (fun c=>?_) (fun c=>?_)
  ·refine CNx.mk ⟨e3,by rw [y09]; simp; omega,?_⟩ hil
   rw [z86 hn hb,if_pos (of_decide_eq_true c)]
   unfold z09
   rw [y0h]
   rfl
  ·refine CNx.mk ⟨e3,by omega,?_⟩ hil
   rw [z86 hn hb,if_neg (fun z=>c (decide_eq_true z)),y2n]
 ·rintro ys H2 ⟨e2,_,rfl⟩ l hl2
  rw [y05 (y07 _),y05 (by omega)]
  exact q l _ (e2.free hl2) (e2.trans (z06 hl2 _)) z01
abbrev z2y:Stmt:=top 20
theorem sc_crowds_by:FnScope ["works","doers","many","crowds","uncut","crowd","near","wanted"] ["works","doers","many"] (z05 z2y):=⟨rfl,rfl,rfl,by decide +kernel,rfl,by decide +kernel,by decide +kernel⟩
theorem zay (T:Top K mg "crowds_by" z2y ["works","doers","many"])(B:Blt mg)(D_pour_in:Def P w K mg base "pour_in" 9 ["works","doers","crowd"] (zdc K))(D_chosen:Def P w K mg base "chosen" 1 ["things","marks","wanted"] (zd2 K)):Def P w K mg base "crowds_by" 10 ["works","doers","many"] (zda K):=by
 refine z0x (k:=9) T sc_crowds_by (fun vs H Q E h=>?_) (fun f cdv A outer s H vs Q E hr h=>?_)
 ·obtain⟨aw,ad,many,ws,drs,rfl,_⟩:=h
  rfl
 obtain⟨aw,ad,many,ws,drs,rfl,ac,dk,q⟩:=h
 have few:=ac.few
 have mfew:=dk.few
 have hw:=zcz ac.pos
 refine⟨_,(z02 (z0c 3 sc_crowds_by.nd (z1l z03))
   (z02 (z0c 4 sc_crowds_by.nd (z9f (z0s z6t (cv 2) z04 (z0o _)) (z1l (z00 (z22 (z00 (z9s B.list B.range (cv 2)) (z00 (z9s B.list B.range (z3m z24 B.len y17 (z00 (cv 0) z03))) z03))) z03)) (z1l z03)))
   (z02 (z3y (z0s z6t (z3m z24 B.len y17 (z00 (cv 4) z03)) z04 (z0o _))
   (z02 (z0c 5 sc_crowds_by.nd (z7a (cv 4)))
    (z02 (z0c 6 sc_crowds_by.nd (z0h z0i (z0b D_pour_in (hr.mono (by decide)) (z00 (cv 0) (z00 (cv 1) (z00 (cv 5) z03)))) z04 (fun _ _=>rfl)))
    (z07 (z2p (z2l (z3m zjt B.any zjz (z00 (z0h z0i (cv 6) z04 (fun _ _=>rfl)) z03)))
    (z07 (z23 (z1k (z22 (z00 z9w (z00 z9w z03)))) (z0f 7 sc_crowds_by.nd)
     (z07 (z25 (z19 (cv 4) (z00 (z22 (z00 (z0b D_chosen (hr.mono (by decide)) (z00 (z0h z0i (cv 5) z04 (fun _ _=>rfl)) (z00 (z0h z0i (cv 6) z04 (fun _ _=>rfl)) (z00 (cv 7) z03)))) (z00 (z0b D_chosen (hr.mono (by decide)) (z00 (z0h z0i (cv 5) z04 (fun _ _=>rfl)) (z00 (z0h z0i (cv 6) z04 (fun _ _=>rfl)) (z00 (cv 7) z03)))) z03))) z03))))))
    (z07 (z25 (z19 (cv 3) (z00 (cv 5) z03)))))))))
   (z07 (z0m (cv 3)))))),?_⟩
 refine rd (σ':=[some (.ref aw),some (.ref ad),some (.int (many:Int)),none,none,none,none,none]) rfl ?_
 walk_at "run"
 refine⟨sz (by show 0≤1000; decide),fun lc hlc=>?_⟩
 have s0:=z06 hlc (.lst [])
 have hlce:=z01 (H:=H) (a:=lc) (o:=.lst [])
 generalize upd H lc (.lst [])=H0 at s0 hlce ⊢
 refine z3j (fun hm=>?_) (fun hm=>?_)
 ·have hm0:0<many:=by
   have:=of_decide_eq_true hm
   omega
  refine⟨⟨by omega,by omega⟩,fun l1 hl1=>?_⟩
  rw [show((many:Int)).toNat=many by omega]
  have w1:=z06 hl1 (.lst ((y0c many).map fun (i:Nat)=>V.int (i:Int)))
  refine⟨_,.inl (SqL.of (w1 _ _ (s0 _ _ ac.w))),?_⟩
  walk_at "run"
  rw [y04]
  refine⟨⟨by omega,by omega⟩,fun l2 hl2=>?_⟩
  rw [show((ws.length:Int)).toNat=ws.length by omega]
  have w2:=z06 hl2 (.lst ((y0c ws.length).map fun (i:Nat)=>V.int (i:Int)))
  refine⟨sz (by show 2≤1000; decide),fun t ht=>⟨sz (by show 1≤1000; decide),fun lu hlu=>?_⟩⟩
  have w3:=z06 ht (.tup [.ref l1,.ref l2])
  have w4:=z06 hlu (.lst [.ref t])
  have f1:=(w2.trans (w3.trans w4)) _ _ (z01 (H:=H0) (a:=l1) (o:=.lst ((y0c many).map fun (i:Nat)=>V.int (i:Int))))
  have f2:=(w3.trans w4) _ _ (z01 (a:=l2) (o:=.lst ((y0c ws.length).map fun (i:Nat)=>V.int (i:Int))))
  have f3:=w4 _ _ (z01 (a:=t) (o:=.tup [.ref l1,.ref l2]))
  have f4:=z01 (H:=upd (upd (upd H0 l1 (.lst ((y0c many).map fun (i:Nat)=>V.int (i:Int)))) l2 (.lst ((y0c ws.length).map fun (i:Nat)=>V.int (i:Int)))) t (.tup [.ref l1,.ref l2])) (a:=lu) (o:=.lst [.ref t])
  have sW:=w1.trans (w2.trans (w3.trans w4))
  have n1:l1≠lc∧l1≠lu:=by
   refine⟨fun z=>?_,fun z=>?_⟩
   ·rw [z,hlce] at hl1
    cases hl1
   ·have:=(w2.trans w3) _ _ (z01 (H:=H0) (a:=l1) (o:=.lst ((y0c many).map fun (i:Nat)=>V.int (i:Int))))
    rw [z] at this
    rw [z] at hlu
    rw [this] at hlu
    cases hlu
  have n2:l2≠lc∧l2≠lu:=by
   refine⟨fun z=>?_,fun z=>?_⟩
   ·rw [z,w1 _ _ hlce] at hl2
    cases hl2
   ·have:=w3 _ _ (z01 (H:=upd H0 l1 (.lst ((y0c many).map fun (i:Nat)=>V.int (i:Int)))) (a:=l2) (o:=.lst ((y0c ws.length).map fun (i:Nat)=>V.int (i:Int))))
    rw [z] at this
    rw [z] at hlu
    rw [this] at hlu
    cases hlu
  have nlu:lc≠lu:=z08 ((w1.trans (w2.trans w3)) _ _ hlce) hlu
  have hluH:H lu=none:=s0.free ((w1.trans (w2.trans w3)).free hlu)
  have hlce2:=sW _ _ hlce
  have sA:=s0.trans sW
  generalize upd (upd (upd (upd H0 l1 (.lst ((y0c many).map fun (i:Nat)=>V.int (i:Int)))) l2 (.lst ((y0c ws.length).map fun (i:Nat)=>V.int (i:Int)))) t (.tup [.ref l1,.ref l2])) lu (.lst [.ref t])=H1 at f1 f2 f3 f4 hlce2 sA ⊢
  clear w1 w2 w3 w4 hl1 hl2 ht hlu sW hlce
  have two0:Two K H H1 lc lu [] [.ref t] [] ([((y0c many,y0c ws.length):PM.Cr)].map z40):=by
   have base:Two K H H1 lc lu [] [.ref t] [] [z5z (y0c many) (y0c ws.length)]:=by
    have old:Same H (z6y H1 lc lu):=fun b o hb=>by
     rw [z3p (z08 hb hlc) (z08 hb hluH)]
     exact sA _ _ hb
    have nt1:t≠lc:=fun z=>by rw [z,hlce2] at f3; cases f3
    have nt2:t≠lu:=fun z=>by rw [z,f4] at f3; cases f3
    refine⟨nlu,old,hlce2,f4,z0t,z3t (is_crowd.mpr ⟨t,l1,l2,rfl,?_,?_,?_⟩)⟩
    ·rw [z3p nt1 nt2]; exact f3
    ·rw [z3p n1.1 n1.2]; exact f1
    ·rw [z3p n2.1 n2.2]; exact f2
   exact base
  walk_at "run"
  refine⟨fun m σ' H'=>∃t5 t6 t7 vc vu Lc U,σ' = [some (.ref aw),some (.ref ad),some (.int (many:Int)),some (.ref lc),some (.ref lu),t5,t6,t7]∧Two K H H' lc lu vc vu (Lc.map z40) (U.map z40)∧PM.Crowds (z4b ws) (z6s drs) many ws.length (Lc++U.reverse)∧(∀c∈Lc,zo3 ws drs c)∧m=zaw U,⟨_,_,_,_,[],[.ref t],[],[(y0c many,y0c ws.length)],rfl,two0,zaj dk hm0,fun c hc=>(by cases hc),rfl⟩,?_⟩
  rintro m σ' H' ⟨t5,t6,t7,vc,vu,Lc,U,rfl,tw,cr,rst,rfl⟩
  have vul:vu.length=U.length:=by simpa using z0k tw.a2
  walk_at "run"
  refine⟨_,.inl (SqL.of tw.h2),?_⟩
  walk_at "run"
  refine z3j (fun hc=>?_) (fun hc=>?_)
  ·have hne:U ≠ []:=fun z=>by
    have:(0:Int)<(vu.length:Int):=of_decide_eq_true hc
    rw [vul,z] at this
    exact absurd this (by decide)
   obtain⟨c,hcl⟩:∃c,U.getLast?=some c:=⟨_,y1u hne⟩
   have eU:U=U.dropLast ++ [c]:=by
    have:=List.dropLast_concat_getLast hne
    rw [y1u hne] at hcl
    cases hcl
    exact this.symm
   have al2:=tw.a2
   have hlast:(U.map z40)[vu.length - 1]?=some (z40 c):=by
    rw [y0b,vul,←y18,hcl]
    rfl
   obtain⟨v,hv,isv⟩:=z1x al2 hlast
   obtain⟨tc,ch,cc,rfl,k1,k2,k3⟩:=is_crowd.mp isv
   generalize U.dropLast=U' at eU
   subst eU
   rw [y64,List.reverse_singleton,List.singleton_append] at cr
   have hcin:c∈Lc++c::U'.reverse:=by simp
   have hcr:=cr.hr c hcin
   have hcc:=cr.cr c hcin
   have hne1:=cr.ne c hcin
   have hlt:∀x∈c.2,x<ws.length:=fun x hx=>by
    have e:=cr.cs x
    by_cases z:x<ws.length
    ·exact z
    ·rw [if_neg z,y0h,y1t,y0m,y0n] at e
     have:=y2s.mpr hx
     omega
   have hhl:c.1.length≤many:=z1h hcr fun h hh=>by
    have e:=cr.hs h
    by_cases z:h<many
    ·exact z
    ·rw [if_neg z,y0h,y1t,y0m,y0n] at e
     have:=y2s.mpr hh
     omega
   have hcl2:c.2.length≤ws.length:=z1h hcc hlt
   have tw2:Two K H (upd H' lu (.lst vu.dropLast)) lc lu vc vu.dropLast (Lc.map z40) (U'.map z40):=tw.set2 (by
    have:=z8u (vu.length - 1) al2
    rw [←List.dropLast_eq_take] at this
    have e2:((U' ++ [c]).map z40).take (vu.length - 1)=U'.map z40:=by
     rw [y0h,List.take_append_of_le_length (by rw [y04,vul]; simp),y05 (by rw [y04,vul]; simp)]
    rw [e2] at this
    exact this)
   walk_at "run"
   refine⟨_,_,tw.h2,hv,?_⟩
   walk_at "run"
   have sub2:∀b o,z6y H' lc lu b=some o→upd H' lu (.lst vu.dropLast) b=some o:=fun b o hb=>by
    have:z6y (upd H' lu (.lst vu.dropLast)) lc lu b=some o:=by rw [z4j]; exact hb
    exact z5o _ _ this
   replace k1:=sub2 _ _ k1
   replace k2:=sub2 _ _ k2
   replace k3:=sub2 _ _ k3
   have isv2:Is K (z6y (upd H' lu (.lst vu.dropLast)) lc lu) (.ref tc) (z40 c):=by rw [z4j]; exact isv
   generalize upd H' lu (.lst vu.dropLast)=H2 at tw2 k1 k2 k3 isv2 ⊢
   clear tw al2 hlast isv sub2 hv
   refine⟨aw,ad,.ref tc,ws,drs,c.1,c.2,rfl,ac.same tw2.same,is_crowd.mpr ⟨tc,ch,cc,rfl,k1,k2,k3⟩,⟨z4n hcr,by omega,by omega,hlt⟩,?_⟩
   intro tp tq aS n1' n2' sent spare steps H3 s3 fr _ g1 g2 g3 g4 g5 Dn hsl _
   have hn1u:n1'≠lu:=fun z=>by have:=fr.2.2.2.1; rw [z,tw2.h2] at this; cases this
   have hn2u:n2'≠lu:=fun z=>by have:=fr.2.2.2.2; rw [z,tw2.h2] at this; cases this
   obtain⟨nc,nh,C,mc,mh⟩:=zhg hcr hcc hlt Dn
   have gl:(z1u ws c.1 c.2).length=c.2.length:=by unfold z1u; simp
   have tl:(takesIn ws c.1 c.2).length=c.1.length:=by unfold takesIn; simp
   have nl:(z3l steps).length=c.2.length+c.1.length:=by unfold z3l; rw [y04,hsl,gl,tl]
   have l1':((z3l steps).take (z1u ws c.1 c.2).length).length=c.2.length:=by rw [y0r,gl]; omega
   have l2':((z3l steps).drop (z1u ws c.1 c.2).length).length=c.1.length:=by rw [y46,gl]; omega
   generalize (z3l steps).take (z1u ws c.1 c.2).length=b1 at mc g4 l1'
   generalize (z3l steps).drop (z1u ws c.1 c.2).length=b2 at mh g5 l2'
   have tw3:=tw2.more s3
   replace k1:=s3 _ _ k1
   replace k2:=s3 _ _ k2
   replace k3:=s3 _ _ k3
   replace isv2:=Is.same (z5y s3) _ _ isv2
   clear tw2 s3 Dn hsl
   walk_at "run"
   refine⟨_,_,.inr (SqT.of g1),rfl,?_⟩
   walk_at "run"
   refine⟨_,_,.inr (SqT.of g2),rfl,?_⟩
   walk_at "run"
   refine⟨b2,SqL.of g5,z3j (fun hany=>?_) (fun hany=>?_)⟩
   ·obtain⟨b,hb1,hb2⟩:=y1h.mp hany
    obtain⟨ib,hib⟩:=y0f hb1
    have hibl:=(y00.mp hib).1
    have hx:c.1[ib]?=some (c.1[ib]'(by omega)):=y01 (by omega)
    have hnear:∃h∈c.1,nh h=true:=by
     refine⟨_,y03 hx,?_⟩
     have e:=mh ib _ hx
     rw [hib] at e
     cases e
     exact hb2
    obtain⟨pt,pf⟩:=z81 (f:=nh) (by omega) mh
    obtain⟨qt,qf⟩:=z81 (f:=nc) (by omega) mc
    have cut:=PM.Crowds.cut hw cr C hnear
    have nlu:∀{x:Addr} {o:HO},H3 x=some o→(∀xs,o ≠ .lst xs)→x≠lu:=fun {x o} h hz z=>by
     rw [z,tw3.h2] at h
     cases h
     exact hz _ rfl
    have old3:∀{x:Addr},(∃o,z6y H3 lc lu x=some o)→x≠lu:=fun {x} ⟨o,h⟩ z=>by
     subst z
     unfold z6y del at h
     rw [if_pos rfl] at h
     cases h
    obtain⟨_,_,_,ez,m1,m2,m3⟩:=is_crowd.mp isv2
    cases ez
    have ech:=z5o _ _ m1
    rw [k1] at ech
    cases ech
    have dch:ch≠lu:=old3 ⟨_,m2⟩
    have dcc:cc≠lu:=old3 ⟨_,m3⟩
    have dn1:n1'≠lu:=hn1u
    have dn2:n2'≠lu:=hn2u
    have dtc:=nlu k1 fun _ z=>by cases z
    have dtq:=nlu g2 fun _ z=>by cases z
    walk_at "run"
    refine⟨sz (by show 2≤1000; decide),fun tb htb=>.inr ⟨⟨_,SqT.of z01⟩,?_⟩⟩
    have sB:=z06 htb (.tup [.bl false,.bl true])
    have htbe:=z01 (H:=H3) (a:=tb) (o:=.tup [.bl false,.bl true])
    have dtb:tb≠lu:=fun z=>by rw [z,tw3.h2] at htb; cases htb
    have tw4:=tw3.more sB
    replace k1:=sB _ _ k1
    replace k2:=sB _ _ k2
    replace k3:=sB _ _ k3
    replace g2:=sB _ _ g2
    replace g4:=sB _ _ g4
    replace g5:=sB _ _ g5
    generalize upd H3 tb (.tup [.bl false,.bl true])=H4 at htbe tw4 k1 k2 k3 g2 g4 g5 ⊢
    clear tw3 sB htb g1 g3 isv2 nlu old3 m1 m2 m3
    refine zjm (xs:=[.bl false,.bl true]) (fun j σ' H5=>∃t7 vu,σ' = [some (.ref aw),some (.ref ad),some (.int (many:Int)),some (.ref lc),some (.ref lu),some (.ref tc),some (.ref tq),t7]∧Two K H H5 lc lu vc vu (Lc.map z40) ((U' ++ [PM.restOf c nc nh,PM.nearOf c nc nh].take j).map z40)∧Frz [lu] H4 H5) ⟨_,_,rfl,by simpa using tw4,Frz.of (Same.refl _)⟩ ?_ ?_ ?_
    ·rintro j σ' H5 _ ⟨_,_,_,_,fz⟩
     exact SqT.of (fz _ _ (by simpa using dtb) htbe)
    ·rintro j x σ' H5 hx ⟨t7,vu5,rfl,tw5,fz⟩
     have fzz:∀{b:Addr} {o:HO},b≠lu→H4 b=some o→H5 b=some o:=fun {b o} hb h=>fz b o (by simpa using hb) h
     have hj:j<2:=(y00.mp hx).1
     have ulen:vu5.length≤U'.length+2:=by
      have e:=z0k tw5.a2
      rw [y04,y09,y0r] at e
      simp at e
      omega
     have ull:U'.length≤20:=by
      have:=z6a cr
      rw [y09,y11,List.length_reverse] at this
      omega
     obtain⟨w,rfl,ew⟩:∃w:Bool,x = .bl w∧[PM.restOf c nc nh,PM.nearOf c nc nh].take (j+1) = [PM.restOf c nc nh,PM.nearOf c nc nh].take j ++ [((pick c.1 b2 w,pick c.2 b1 w):PM.Cr)]:=by
      match j,hx with
      | 0,hx =>
       cases hx
       refine⟨false,rfl,?_⟩
       rw [pf,qf]
       rfl
      | 1,hx =>
       cases hx
       refine⟨true,rfl,?_⟩
       rw [pt,qt]
       rfl
      | k+2,hx=>cases hx
     walk_at "run"
     refine⟨⟨_,tw5.h2⟩,_,_,.inr (SqT.of (fzz dtc k1)),rfl,_,_,.inr (SqT.of (fzz dtq g2)),rfl,?_⟩
     refine⟨ch,n2',c.1,b2,w,rfl,fzz dch k2,fzz dn2 g5,by omega,by omega,fun la H6 hla s6 ea=>?_⟩
     walk_at "run"
     refine⟨_,_,.inr (SqT.of (s6 _ _ (fzz dtc k1))),rfl,_,_,.inr (SqT.of (s6 _ _ (fzz dtq g2))),rfl,?_⟩
     refine⟨cc,n1',c.2,b1,w,rfl,s6 _ _ (fzz dcc k3),s6 _ _ (fzz dn1 g4),by omega,by omega,fun lb H7 hlb s7 eb=>?_⟩
     walk_at "run"
     refine⟨sz (by show 2≤1000; decide),fun tn htn=>?_⟩
     have s8:=z06 htn (.tup [.ref la,.ref lb])
     have tw8:=tw5.more (s6.trans (s7.trans s8))
     have isn:Is K (z6y (upd H7 tn (.tup [.ref la,.ref lb])) lc lu) (.ref tn) (z5z (pick c.1 b2 w) (pick c.2 b1 w)):=by
      refine tw8.crowd (x:=la) (y:=lb) ⟨fun z=>?_,fun z=>?_⟩ ⟨fun z=>?_,fun z=>?_⟩ z01 ((s7.trans s8) _ _ ea) (s8 _ _ eb)
      ·rw [z,tw5.h1] at hla; cases hla
      ·rw [z,tw5.h2] at hla; cases hla
      ·rw [z,s6 _ _ tw5.h1] at hlb; cases hlb
      ·rw [z,s6 _ _ tw5.h2] at hlb; cases hlb
     refine⟨_,tw8.h2,z0l (by omega),?_⟩
     refine⟨_,vu5 ++ [.ref tn],rfl,?_,?_⟩
     ·rw [ew,←y33,y0h]
      exact tw8.set2 (z1f tw8.a2 isn)
     ·exact(fz.trans (Frz.of (s6.trans (s7.trans s8)))).trans (Frz.upd (by simp))
    ·rintro σ' H5 ⟨t7,vu5,rfl,tw5,_⟩
     have lens:(c.1.filter nh).length+(c.1.filter fun h=>!nh h).length=c.1.length:=by
      have:=List.length_eq_countP_add_countP nh (l:=c.1)
      rw [y4e,y4e] at this
      have e:(c.1.filter fun a=>decide ¬nh a=true)=c.1.filter fun h=>!nh h:=y54 fun x _=>by cases nh x<;>rfl
      rw [e] at this
      omega
     obtain⟨h1',h2',h3'⟩:=hnear
     obtain⟨r1',r2',r3'⟩:=C.far ⟨h1',h2',h3'⟩
     have p1:0<(c.1.filter nh).length:=y0t.mpr fun z=>by
      have:h1'∈c.1.filter nh:=y15.mpr ⟨h2',h3'⟩
      rw [z] at this
      cases this
     have p2:0<(c.1.filter fun h=>!nh h).length:=y0t.mpr fun z=>by
      have:r1'∈c.1.filter fun h=>!nh h:=y15.mpr ⟨r2',by rw [r3']; rfl⟩
      rw [z] at this
      cases this
     refine⟨zaw (U' ++ [PM.restOf c nc nh,PM.nearOf c nc nh]),?_,_,_,_,vc,vu5,Lc,U' ++ [PM.restOf c nc nh,PM.nearOf c nc nh],rfl,tw5,?_,rst,rfl⟩
     ·unfold zaw PM.restOf PM.nearOf
      simp
      omega
     ·rw [y64]
      exact cut
   ·have hall:∀h∈c.1,nh h=false:=fun h hh=>by
     obtain⟨i,hi⟩:=y0f hh
     have e:=mh i h hi
     cases z:nh h with
     | false=>rfl
     | true =>
      rw [z] at e
      exact absurd (y1h.mpr ⟨true,y03 e,rfl⟩) hany
    have rc:=zlf C hall (cr.own c hcin)
    have lcl:vc.length=Lc.length:=by simpa using z0k tw3.a1
    have lcf:Lc.length≤20:=by
     have:=z6a cr
     rw [y09] at this
     omega
    walk_at "run"
    refine⟨⟨_,tw3.h1⟩,_,tw3.h1,z0l (by omega),?_⟩
    refine⟨zaw U',?_,_,_,_,vc ++ [.ref tc],vu.dropLast,Lc ++ [c],U',rfl,?_,?_,fun d hd=>?_,rfl⟩
    ·have:=y0t.mpr hne1
     unfold zaw
     simp
     omega
    ·rw [y0h]
     exact tw3.set1 (z1f tw3.a1 isv2)
    ·rw [y33]
     exact cr
    ·rcases y0u.mp hd with hd | hd
     ·exact rst d hd
     ·rw [y0a.mp hd]
      exact rc
  ·have hU:U = []:=by
    have:¬(0:Int)<(vu.length:Int):=fun z=>hc (decide_eq_true z)
    exact y1k.mp (by omega)
   subst hU
   rw [List.reverse_nil,y2n] at cr
   exact q Lc (fun z=>by omega) (fun _=>cr) rst _ _ tw.same (is_list.mpr ⟨lc,vc,rfl,tw.h1,IsAll.same z5o _ _ tw.a1⟩)
 ·have hm0:many=0:=by
   have:¬(0:Int)<(many:Int):=fun z=>hm (decide_eq_true z)
   omega
  refine⟨sz (by show 0≤1000; decide),fun lu hlu=>?_⟩
  have w1:=z06 hlu (.lst [])
  refine⟨fun m σ' H'=>H'=upd H0 lu (.lst [])∧∃t5 t6 t7,σ' = [some (.ref aw),some (.ref ad),some (.int (many:Int)),some (.ref lc),some (.ref lu),t5,t6,t7],⟨0,rfl,_,_,_,rfl⟩,?_⟩
  rintro m σ' H' ⟨rfl,t5,t6,t7,rfl⟩
  walk_at "run"
  refine⟨_,.inl (SqL.of z01),z8b ?_⟩
  exact q [] (fun _=>rfl) (fun z=>by omega) (fun c hc=>(by cases hc)) _ _ (s0.trans w1) (is_list.mpr ⟨lc,[],rfl,w1 _ _ hlce,z0t⟩)
abbrev z37:Stmt:=top 4
theorem zbv:FnScope ["thing"] ["thing"] (z05 z37):=⟨rfl,rfl,rfl,by decide +kernel,rfl,by decide +kernel,by decide +kernel⟩
theorem zbb (T:Top K mg "is_whole" z37 ["thing"])(B:Blt mg) :Def P w K mg base "is_whole" 1 ["thing"] (z3s):=by
 refine z0x (k:=0) T zbv (fun vs H Q E h=>?_) (fun f cdv A outer s H vs Q E hr h=>?_)
 ·unfold z3s at h
  split at h
  ·rfl
  ·rfl
  ·exact h.elim
 refine⟨_,(z07 (z0m (zab (z3m z26 B.isinstance z28 (z00 (cv 0) (z00 (zed B.int zjr) z03))) (z7g (zco (z3m z26 B.isinstance z28 (z00 (cv 0) (z00 (zed B.bool zh8) z03)))))))),?_⟩
 unfold z3s at h
 split at h
 ·rename_i z
  refine rd (σ':=[some (.int z)]) rfl ?_
  walk_at "run"
  exact⟨by decide,z8c ⟨by decide,h⟩⟩
 ·rename_i z
  refine rd (σ':=[some (.bl z)]) rfl ?_
  walk_at "run"
  exact⟨by decide,z8c ⟨by decide,h⟩⟩
 ·exact h.elim
abbrev z2k:Stmt:=top 5
theorem sc_divisor_of:FnScope ["one","other","greater","lesser","rest"] ["one","other"] (z05 z2k):=⟨rfl,rfl,rfl,by decide +kernel,rfl,by decide +kernel,by decide +kernel⟩
theorem z93 (T:Top K mg "divisor_of" z2k ["one","other"])(B:Blt mg) :Def P w K mg base "divisor_of" 1 ["one","other"] (spG):=by
 refine z0x (k:=0) T sc_divisor_of (fun vs H Q E h=>?_) (fun f cdv A outer s H vs Q E hr h=>?_)
 ·unfold spG at h
  split at h
  ·rfl
  ·exact h.elim
 unfold spG at h
 split at h
 ·rename_i a b
  refine⟨_,(z02 (z0c 2 sc_divisor_of.nd (z3m z9n B.abs zal (z00 (cv 0) z03)))
   (z02 (z0c 3 sc_divisor_of.nd (z3m z9n B.abs zal (z00 (cv 1) z03)))
   (z02 (zd6 (z0s z6t (cv 3) z04 (z0o _))
   (z02 (z0c 4 sc_divisor_of.nd (z0j z1t (cv 2) (cv 3)))
    (z02 (z0c 2 sc_divisor_of.nd (cv 3))
    (z07 (z0c 3 sc_divisor_of.nd (cv 4))))))
   (z07 (z0m (cv 2)))))),?_⟩
  refine rd (σ':=[some (.int a),some (.int b),none,none,none]) rfl ?_
  walk_at "run"
  refine⟨fun σ H'=>H'=H∧∃(g l:Int) (r:Option V),σ = [some (.int a),some (.int b),some (.int g),some (.int l),r]∧0≤g∧0≤l∧y13 g l=y13 a b,
   fun σ _=>match σ with | [_,_,_,some (.int l),_]=>l.toNat | _=>0,⟨rfl,_,_,_,rfl,zak a,zak b,zeo a b⟩,?_⟩
  rintro σ H' ⟨rfl,g,l,r,rfl,hg,hl,e⟩
  walk_at "run"
  refine z3j (fun c=>?_) (fun c=>?_)
  ·have c':0<l:=of_decide_eq_true c
   refine⟨c',⟨rfl,l,g % l,_,rfl,hl,y1l _ (by omega),by rw [zcd hg c',e]⟩,?_⟩
   have:=y1m g c'
   have:=y1l g (show l≠0 by omega)
   omega
  ·have c':¬ 0<l:=fun z=>c (decide_eq_true z)
   have e0:l=0:=by omega
   subst e0
   rw [←e,zcr hg] at h
   exact h
 ·exact h.elim
abbrev z42:Stmt:=top 6
theorem sc_part_of:FnScope ["top","bottom","divisor"] ["top","bottom"] (z05 z42):=⟨rfl,rfl,rfl,by decide +kernel,rfl,by decide +kernel,by decide +kernel⟩
theorem zdn (T:Top K mg "part_of" z42 ["top","bottom"])(B:Blt mg)(D_is_whole:Def P w K mg base "is_whole" 1 ["thing"] (z3s))(D_divisor_of:Def P w K mg base "divisor_of" 1 ["one","other"] (spG)):Def P w K mg base "part_of" 2 ["top","bottom"] (z7z K):=by
 refine z0x (k:=1) T sc_part_of (fun vs H Q E h=>?_) (fun f cdv A outer s H vs Q E hr h=>?_)
 ·obtain⟨a,b,rfl,_⟩:=h
  rfl
 obtain⟨a,b,rfl,hb,hB,q⟩:=h
 refine⟨_,(z02 (z2p (z8f (z4m (z2l (z0b D_is_whole (hr.mono (by decide)) (z00 (cv 0) z03)))) (z8f (z4m (z2l (z0b D_is_whole (hr.mono (by decide)) (z00 (cv 1) z03)))) (z7f (z0s z5b (cv 1) z04 (z0o _))))).pt
   (z07 zi1)
   z0z)
   (z02 (z0c 2 sc_part_of.nd (z0b D_divisor_of (hr.mono (by decide)) (z00 (cv 0) (z00 (cv 1) z03))))
   (z02 (z2p (z0s z6z (cv 1) z04 (z0o _))
   (z07 (z0c 2 sc_part_of.nd (z9k z5k (cv 2))))
   z0z)
   (z07 (z0m (z22 (z00 (z0j z2n (cv 0) (cv 2)) (z00 (z0j z2n (cv 1) (cv 2)) z03)))))))),?_⟩
 refine rd (σ':=[some (.int a),some (.int b),none]) rfl ?_
 walk_at "run"
 have fin:∀j:Int,j=(if b<0 then -((y13 a b:Nat):Int) else (y13 a b:Nat))→j≠0∧j.natAbs.log2<9000∧j≠0∧j.natAbs.log2<9000∧2≤sizeLine∧∀p,H p=none→Q (.ref p) (upd H p (.tup [.int (a.fdiv j),.int (b.fdiv j)])):=fun j hj=>by
  obtain⟨h1,h2,h3,h4,h5⟩:=zae hb hj
  exact⟨h1,zm0 hB h2 h1,h1,zm0 hB h2 h1,sz (by show 2≤1000; decide),(q _ _ h3 h4 h5).ints2⟩
 refine z8b (z8b (z3j (fun c=>absurd (of_decide_eq_true c) hb) (fun _=>?_)))
 refine z3j (fun c=>?_) (fun c=>?_)
 ·exact fin _ (if_pos (of_decide_eq_true c)).symm
 ·exact fin _ (if_neg (fun z=>c (decide_eq_true z))).symm
abbrev z2r:Stmt:=top 21
theorem sc_layers_by:FnScope ["works","doers","many","crowds"] ["works","doers","many"] (z05 z2r):=⟨rfl,rfl,rfl,by decide +kernel,rfl,by decide +kernel,by decide +kernel⟩
theorem zat (T:Top K mg "layers_by" z2r ["works","doers","many"])(B:Blt mg)(D_crowds_by:Def P w K mg base "crowds_by" 10 ["works","doers","many"] (zda K))(D_part_of:Def P w K mg base "part_of" 2 ["top","bottom"] (z7z K))(D_work_in:Def P w K mg base "work_in" 1 ["works","crowd"] (z9d K)):Def P w K mg base "layers_by" 11 ["works","doers","many"] (zcf K):=by
 refine z0x (k:=10) T sc_layers_by (fun vs H Q E h=>?_) (fun f cdv A outer s H vs Q E hr h=>?_)
 ·obtain⟨aw,ad,many,ws,drs,rfl,_⟩:=h
  rfl
 obtain⟨aw,ad,many,ws,drs,rfl,ac,dk,q⟩:=h
 have few:=ac.few
 have mfew:=dk.few
 refine⟨_,(z02 (z0c 3 sc_layers_by.nd (z0b D_crowds_by (hr.mono (by decide)) (z00 (cv 0) (z00 (cv 1) (z00 (cv 2) z03)))))
   (z07 (z0m (z3o (N:=["crowd","works"]) (fr:=[0]) 1 (z1k (cv 3)) (fun C hN=>by exact pgC ((z0f 0 hN)) (by walk_at "c")) (fun C hN=>by exact peC ((z22 (z00 (z0b D_part_of (hr.mono (by decide)) (z00 (z0b D_work_in (hr.mono (by decide)) (z00 (cv 1) (z00 (cv 0) z03))) (z00 (z3m z24 B.len y17 (z00 (z0h z0i (cv 0) z04 (fun _ _=>rfl)) z03)) z03))) (z00 (z0h z0i (cv 0) z04 (fun _ _=>rfl)) (z00 (z0h z0i (cv 0) z04 (fun _ _=>rfl)) z03))))) (by walk_at "c")))))),?_⟩
 refine rd (σ':=[some (.ref aw),some (.ref ad),some (.int (many:Int)),none]) rfl ?_
 walk_at "run"
 refine⟨aw,ad,many,ws,drs,rfl,ac,dk,fun L h1 h2 h3 vl H1 s1 il=>?_⟩
 have co:CrOk ws drs many L:=⟨h1,h2,h3⟩
 have lf:=co.few mfew
 obtain⟨al,cv,rfl,hal,hall⟩:=is_list.mp il
 have cvl:cv.length=L.length:=by simpa using z0k hall
 walk_at "run"
 refine .inl ⟨⟨_,SqL.of hal⟩,?_⟩
 refine cgo (σ':=[none,some (.ref aw)]) rfl ?_
 refine z1q (xs:=cv) (fun i ys H2=>Same H1 H2∧ys.length≤i∧∃ps:List (Int×Int),LayOk ws (L.take i) ps∧IsAll K H2 ys (z2q ps (L.take i))) ⟨Same.refl _,y07 _,[],⟨rfl,fun i c p h=>by simp at h⟩,z0t⟩ (z0l (by omega)) ?_ ?_ ?_
 ·rintro i ys H2 _ ⟨e2,yl,_⟩
  exact⟨SqL.of (e2 _ _ hal),yl⟩
 ·rintro i x ys H2 hx ⟨e2,yl,ps,lo,al⟩
  have hil:=(y00.mp hx).1
  obtain⟨d,hd,isx⟩:=z4a hall hx
  rw [y0b] at hd
  cases hc:L[i]? with
  | none=>rw [hc] at hd; cases hd
  | some c =>
   rw [hc] at hd
   cases hd
   have cm:=y03 hc
   obtain⟨lt1,lt2,ne,r1,r2⟩:=co.lt cm
   have cl2:=z1h r2 lt2
   have cl1:=z1h r1 lt1
   have cpos:=y0t.mpr ne
   replace isx:=Is.same e2 _ _ isx
   obtain⟨tc,ch,cc,rfl,k1,k2,k3⟩:=is_crowd.mp isx
   walk_at "run"
   refine z8c ⟨aw,.ref tc,ws,c.1,c.2,rfl,(s1.trans e2) _ _ ac.w,isx,by omega,lt2,fun H3 s3=>?_⟩
   walk_at "run"
   refine⟨_,_,.inr (SqT.of (s3 _ _ k1)),rfl,_,.inl (SqL.of (s3 _ _ k2)),?_⟩
   walk_at "run"
   rw [z0n]
   refine⟨_,_,rfl,by omega,by show _<_; exact y0p (show((c.1.length:Int)).natAbs<2^5 by omega) (y5w (by decide) (by decide)),fun n d d1 gcd e=>?_⟩
   intro vf H4 s4 isf
   obtain⟨fa,rfl,hfa⟩:=is_frac.mp isf
   walk_at "run"
   have s34:=s3.trans s4
   refine⟨_,_,.inr (SqT.of (s34 _ _ k1)),rfl,_,_,.inr (SqT.of (s34 _ _ k1)),rfl,sz (by show 3≤1000; decide),fun t ht=>?_⟩
   have sT:=z06 ht (.tup [.ref fa,.ref ch,.ref cc])
   have s35:=s34.trans sT
   have etot:z30 ws c.2=PM.tot (z4b ws) c:=by
    unfold z30 PM.tot
    rw [y0v fun x hx=>?_]
    unfold z4b
    rw [if_pos (lt2 x hx)]
   have tk:=z0g hc
   have pl:ps.length=i:=by rw [lo.len,y0r]; omega
   refine CNx.mk ⟨e2.trans s35,by rw [y09]; simp; omega,ps ++ [(n,d)],⟨?_,fun j c' p' hj hp=>?_⟩,?_⟩ hil
   ·rw [tk,y09,y09,lo.len]
    rfl
   ·rw [tk] at hj
    by_cases z:j<i
    ·rw [y0l (by rw [y0r]; omega)] at hj
     rw [y0l (by omega)] at hp
     exact lo.at_ j c' p' hj hp
    ·rw [y0s (by omega)] at hp
     have ej:j=i:=by
      have:=(y00.mp hp).1
      simp at this
      omega
     subst ej
     rw [y0s (by rw [y0r]; omega)] at hj
     rw [show j - (L.take j).length=0 by rw [y0r]; omega] at hj
     rw [pl,Nat.sub_self] at hp
     cases hj
     cases hp
     refine⟨⟨d1,gcd⟩,?_⟩
     show n*(c.1.length:Int)=_*d
     rw [←etot]
     exact e
   ·rw [tk,z6p lo.len]
    refine z1f (IsAll.same s35 _ _ al) (is_layer.mpr ⟨t,fa,ch,cc,rfl,z01,sT _ _ hfa,s35 _ _ k2,s35 _ _ k3⟩)
 ·rintro ys H2 ⟨e2,_,ps,lo,al⟩ l hl
  rw [cvl,y05 (y07 _)] at lo al
  exact q L ps co lo _ _ (s1.trans (e2.trans (z06 hl _))) (is_list.mpr ⟨l,_,rfl,z01,IsAll.same (z06 hl _) _ _ al⟩)
abbrev z3a:Stmt:=top 22
theorem sc_loads_by:FnScope ["works","doers","many","loads","layer","hand"] ["works","doers","many"] (z05 z3a):=⟨rfl,rfl,rfl,by decide +kernel,rfl,by decide +kernel,by decide +kernel⟩
theorem zcb (T:Top K mg "loads_by" z3a ["works","doers","many"])(B:Blt mg)(D_layers_by:Def P w K mg base "layers_by" 11 ["works","doers","many"] (zcf K)):Def P w K mg base "loads_by" 12 ["works","doers","many"] (zhn K):=by
 refine z0x (k:=11) T sc_loads_by (fun vs H Q E h=>?_) (fun f cdv A outer s H vs Q E hr h=>?_)
 ·obtain⟨aw,ad,many,ws,drs,rfl,_⟩:=h
  rfl
 obtain⟨aw,ad,many,ws,drs,rfl,ac,dk,q⟩:=h
 have few:=ac.few
 have mfew:=dk.few
 refine⟨_,(z02 (z0c 3 sc_loads_by.nd (z0j z1y (z1l (z00 (z22 (z00 z04 (z00 z04 z03))) z03)) (cv 2)))
   (z02 (z23 (z1k (z0b D_layers_by (hr.mono (by decide)) (z00 (cv 0) (z00 (cv 1) (z00 (cv 2) z03))))) (z0f 4 sc_loads_by.nd)
   (z07 (z23 (z1k (z0h z0i (cv 4) z04 (fun _ _=>rfl))) (z0f 5 sc_loads_by.nd)
    (z07 (z8x (z0h z0i (cv 4) z04 (fun _ _=>rfl)) (zag (cv 3) (cv 5) z4d))))))
   (z07 (z0m (cv 3))))),?_⟩
 refine rd (σ':=[some (.ref aw),some (.ref ad),some (.int (many:Int)),none,none,none]) rfl ?_
 walk_at "run"
 refine⟨sz (by show 2≤1000; decide),fun t0 ht0=>⟨sz (by show 1≤1000; decide),fun l0 hl0=>?_⟩⟩
 have w1:=z06 ht0 (.tup [.int 0,.int 1])
 have w2:=z06 hl0 (.lst [.ref t0])
 refine⟨_,z01,by omega,by omega,sz (by show 1*_≤1000; omega),fun l hl=>?_⟩
 rw [z48,show((many:Int)).toNat=many by omega]
 have w3:=z06 hl (.lst (y06 many (V.ref t0)))
 have g0:Grow K H (upd (upd (upd H t0 (.tup [.int 0,.int 1])) l0 (.lst [.ref t0])) l (.lst (y06 many (V.ref t0)))) l (y06 many (V.ref t0)) ((y06 many ((0,1):Int×Int)).map fun p=>z2m p.1 p.2):=by
  refine⟨?_,z01,?_⟩
  ·rw [z2e]
   exact(w1.trans w2).trans (z9e hl)
  ·rw [z2e,y30]
   have e:(del (upd (upd H t0 (.tup [.int 0,.int 1])) l0 (.lst [.ref t0])) l) t0=some (.tup [.int 0,.int 1]):=by
    have e1:=w2 _ _ (z01 (H:=H) (a:=t0) (o:=.tup [.int 0,.int 1]))
    rw [z4g (z08 e1 hl)]
    exact e1
   exact z79 (is_frac.mpr ⟨t0,rfl,e⟩) many
 generalize upd (upd (upd H t0 (.tup [.int 0,.int 1])) l0 (.lst [.ref t0])) l (.lst (y06 many (V.ref t0)))=H1 at g0 ⊢
 clear w1 w2 w3 hl ht0 hl0
 refine⟨aw,ad,many,ws,drs,rfl,ac.same g0.same,dk,fun L ps co lo vl H2 s2 il=>?_⟩
 have lf:=co.few mfew
 obtain⟨al,lv,rfl,hal,hall⟩:=is_list.mp il
 have lvl:lv.length=L.length:=by rw [z0k hall,z7e lo.len]
 have g2:=g0.more s2
 walk_at "run"
 refine .inl ⟨⟨_,SqL.of hal⟩,?_⟩
 have fin:∀(σ':St) (H':Hp) (vs:List V) (qs:List (Int×Int)),Grow K H H' l vs (qs.map fun p=>z2m p.1 p.2)→LoadOk many L ps qs→Q (.ref l) H':=fun σ' H' vs qs g lok=>q L ps qs co lo lok _ _ g.same g.is
 by_cases hL:L = []
 ·subst hL
  have hlv:lv = []:=y1k.mp lvl
  subst hlv
  refine z2f (xs:=[]) (fun i σ' H'=>H'=H2∧∃t4 t5,σ' = [some (.ref aw),some (.ref ad),some (.int (many:Int)),some (.ref l),t4,t5]) ⟨rfl,_,_,rfl⟩ ?_ ?_ ?_
  ·rintro i σ' H' _ ⟨rfl,_⟩
   exact SqL.of hal
  ·intro i x σ' H' hx
   simp at hx
  ·rintro σ' H' ⟨rfl,t4,t5,rfl⟩
   walk_at "run"
   exact fin [] _ _ _ g2 ⟨by simp,fun i c p hc=>by simp at hc⟩
 ·have nal:al≠l:=fun z=>by
   subst z
   have e:=g2.here
   rw [hal] at e
   cases e
   have hL0:=y0t.mpr hL
   have hv0:(y06 many (V.ref t0))[0]?=some ((y06 many (V.ref t0))[0]'(by omega)):=y01 (by omega)
   obtain⟨d,hd,isd⟩:=z4a hall hv0
   obtain⟨p,c,_,_,rfl⟩:=z6d hd
   obtain⟨a1,_,_,_,ea,ha1,_⟩:=is_layer.mp isd
   obtain⟨d2,hd2,isd2⟩:=z4a g2.all hv0
   rw [y0b] at hd2
   cases z2:(y06 many ((0,1):Int×Int))[0]? with
   | none=>rw [z2] at hd2; cases hd2
   | some p2 =>
    rw [z2] at hd2
    cases hd2
    obtain⟨a2,ea2,ha2⟩:=is_frac.mp (Is.same del_sub _ _ isd2)
    rw [ea] at ea2
    cases ea2
    rw [ha1] at ha2
    cases ha2
  refine z2f (xs:=lv) (fun i σ' H'=>∃t4 t5 vs qs,σ' = [some (.ref aw),some (.ref ad),some (.int (many:Int)),some (.ref l),t4,t5]∧Frz [l] H2 H'∧Grow K H H' l vs (qs.map fun p=>z2m p.1 p.2)∧LoadOk many (L.take i) ps qs) ⟨_,_,_,_,rfl,Frz.of (Same.refl _),g2,by simp,fun i c p hc=>by simp at hc⟩ ?_ ?_ ?_
  ·rintro i σ' H' _ ⟨_,_,_,_,_,fz,_⟩
   exact SqL.of (fz _ _ (by simpa using nal) hal)
  ·rintro i x σ' H' hx ⟨t4,t5,vs,qs,rfl,fz,g,lok⟩
   obtain⟨d,hd,isx⟩:=z4a hall hx
   obtain⟨p,c,hp,hc,rfl⟩:=z6d hd
   obtain⟨a1,fa,xa,ya,rfl,k1,k2,k3,k4⟩:=is_layer.mp isx
   obtain⟨lt1,lt2,ne,r1,r2⟩:=co.lt (y03 hc)
   have na1:a1≠l:=fun z=>by rw [z,g2.here] at k1; cases k1
   have nfa:fa≠l:=fun z=>by rw [z,g2.here] at k2; cases k2
   have nxa:xa≠l:=fun z=>by
    subst z
    have e:=g2.here
    rw [k3] at e
    have e2:z09 c.1=y06 many (V.ref t0):=HO.lst.inj (y14 e)
    obtain⟨x0,r0,hx0⟩:=y2g ne
    have hm:V.int (x0:Int)∈y06 many (V.ref t0):=by
     rw [←e2,hx0]
     exact y0d
    cases y56 hm
   have fzz:∀{H5:Hp} {b:Addr} {o:HO},Frz [l] H2 H5→b≠l→H2 b=some o→H5 b=some o:=fun {H5 b o} f hb h=>f b o (by simpa using hb) h
   have cl:=z1h r1 lt1
   walk_at "run"
   refine⟨_,_,.inr (SqT.of (fzz fz na1 k1)),rfl,?_⟩
   walk_at "run"
   refine .inl ⟨⟨_,SqL.of (fzz fz nxa k3)⟩,?_⟩
   refine z2f (xs:=z09 c.1) (fun j σ' H'=>∃t5 vs qs,σ' = [some (.ref aw),some (.ref ad),some (.int (many:Int)),some (.ref l),some (.ref a1),t5]∧Frz [l] H2 H'∧Grow K H H' l vs (qs.map fun p=>z2m p.1 p.2)∧LoadOk many (L.take i) ps qs∧∀h∈c.1.take j,qs[h]?=some p) ⟨_,vs,qs,rfl,fz,g,lok,fun h hh=>by simp at hh⟩ ?_ ?_ ?_
   ·rintro j σ' H' _ ⟨_,_,_,_,fz,_⟩
    exact SqL.of (fzz fz nxa k3)
   ·rintro j y σ' H' hy ⟨t5,vs,qs,rfl,fz,g,lok,done⟩
    obtain⟨hd',hhd,rfl⟩:=z33 hy
    have hlt:=lt1 hd' (y03 hhd)
    have vl2:vs.length=many:=by
     have:=z0k g.all
     rw [y04,lok.len] at this
     exact this
    walk_at "run"
    refine⟨_,_,.inr (SqT.of (fzz fz na1 k1)),rfl,_,hd',g.here,z31 (by omega),?_⟩
    have isf:Is K (del H' l) (.ref fa) (z2m p.1 p.2):=is_frac.mpr ⟨fa,rfl,by rw [z4g nfa]; exact fzz fz nfa k2⟩
    refine⟨_,vs.set hd' (.ref fa),qs.set hd' p,rfl,fz.trans (Frz.upd (by simp)),⟨by rw [z2e]; exact g.old,z01,?_⟩,⟨by rw [y32]; exact lok.len,fun i' c' p' hc' hp' h hh=>?_⟩,fun h hh=>?_⟩
    ·rw [z2e,y2q]
     exact z7x g.all isf
    ·have ne':hd'≠h:=fun z=>by
      subst z
      exact co.apart mfew (i:=i') (j:=i) (by
       have:=(y00.mp hc').1
       rw [y0r] at this
       omega) (zj8 hc') hc hh (y03 hhd)
     rw [y16 ne']
     exact lok.at_ i' c' p' hc' hp' h hh
    ·rw [z0g hhd] at hh
     by_cases z:hd'=h
     ·subst z
      rw [y0y (by rw [lok.len]; exact hlt)]
     ·rw [y16 z]
      rcases y0u.mp hh with hh | hh
      ·exact done h hh
      ·exact absurd (y0a.mp hh).symm z
   ·rintro σ' H' ⟨t5,vs,qs,rfl,fz,g,lok,done⟩
    rw [z0n,y05 (y07 _)] at done
    refine⟨_,_,vs,qs,rfl,fz,g,⟨lok.len,fun i' c' p' hc' hp' h hh=>?_⟩⟩
    rw [z0g hc] at hc'
    by_cases z:i'<i
    ·rw [y0l (by rw [y0r]; have:=(y00.mp hc).1; omega)] at hc'
     exact lok.at_ i' c' p' hc' hp' h hh
    ·have hil:=(y00.mp hc).1
     rw [y0s (by rw [y0r]; omega)] at hc'
     have ei:i'=i:=by
      have:=(y00.mp hc').1
      rw [y0r] at this
      simp at this
      omega
     subst ei
     rw [show i' - (L.take i').length=0 by rw [y0r]; omega] at hc'
     cases hc'
     rw [hp] at hp'
     cases hp'
     exact done h hh
  ·rintro σ' H' ⟨t4,t5,vs,qs,rfl,fz,g,lok⟩
   rw [lvl,y05 (y07 _)] at lok
   walk_at "run"
   exact fin [] _ _ _ g lok
abbrev z4x:Stmt:=top 28
theorem zez:FnScope ["_law_found"] ["_law_found"] (z05 z4x):=⟨rfl,rfl,rfl,by decide +kernel,rfl,by decide +kernel,by decide +kernel⟩
theorem zfp (T:Top K mg "_law_whole" z4x ["_law_found"])(B:Blt mg) :Def P w K mg base "_law_whole" 1 ["_law_found"] (z3s):=by
 refine z0x (k:=0) T zez (fun vs H Q E h=>?_) (fun f cdv A outer s H vs Q E hr h=>?_)
 ·unfold z3s at h
  split at h
  ·rfl
  ·rfl
  ·exact h.elim
 refine⟨_,(z07 (z0m (zab (z3m z26 B.isinstance z28 (z00 (cv 0) (z00 (zed B.int zjr) z03))) (z7g (zco (z3m z26 B.isinstance z28 (z00 (cv 0) (z00 (zed B.bool zh8) z03)))))))),?_⟩
 unfold z3s at h
 split at h
 ·rename_i z
  refine rd (σ':=[some (.int z)]) rfl ?_
  walk_at "run"
  exact⟨by decide,z8c ⟨by decide,h⟩⟩
 ·rename_i z
  refine rd (σ':=[some (.bl z)]) rfl ?_
  walk_at "run"
  exact⟨by decide,z8c ⟨by decide,h⟩⟩
 ·exact h.elim
abbrev z39:Stmt:=top 29
theorem sc_Ldivisor:FnScope ["_law_one","_law_other","_law_left","_law_right"] ["_law_one","_law_other"] (z05 z39):=⟨rfl,rfl,rfl,by decide +kernel,rfl,by decide +kernel,by decide +kernel⟩
theorem zbw (T:Top K mg "_law_divisor" z39 ["_law_one","_law_other"])(B:Blt mg) :Def P w K mg base "_law_divisor" 1 ["_law_one","_law_other"] (spG):=by
 refine z0x (k:=0) T sc_Ldivisor (fun vs H Q E h=>?_) (fun f cdv A outer s H vs Q E hr h=>?_)
 ·unfold spG at h
  split at h
  ·rfl
  ·exact h.elim
 unfold spG at h
 split at h
 ·rename_i a b
  refine⟨_,(z02 (z0c 2 sc_Ldivisor.nd (z3m z9n B.abs zal (z00 (cv 0) z03)))
   (z02 (z0c 3 sc_Ldivisor.nd (z3m z9n B.abs zal (z00 (cv 1) z03)))
   (z02 (zd6 (z0s z6t (cv 2) z04 (z0o _))
   (z07 (zn9 2 3 sc_Ldivisor.nd (z00 (z0j z1t (cv 3) (cv 2)) (z00 (cv 2) z03)))))
   (z07 (z0m (cv 3)))))),?_⟩
  refine rd (σ':=[some (.int a),some (.int b),none,none]) rfl ?_
  walk_at "run"
  refine⟨fun σ H'=>H'=H∧∃(l g:Int),σ = [some (.int a),some (.int b),some (.int l),some (.int g)]∧0≤g∧0≤l∧y13 g l=y13 a b,
   fun σ _=>match σ with | [_,_,some (.int l),_]=>l.toNat | _=>0,⟨rfl,_,_,rfl,zak b,zak a,by rw [y3f]; exact zeo a b⟩,?_⟩
  rintro σ H' ⟨rfl,l,g,rfl,hg,hl,e⟩
  walk_at "run"
  refine z3j (fun c=>?_) (fun c=>?_)
  ·have c':0<l:=of_decide_eq_true c
   refine⟨c',⟨rfl,g % l,l,rfl,hl,y1l _ (by omega),by rw [zcd hg c',e]⟩,?_⟩
   have:=y1m g c'
   have:=y1l g (show l≠0 by omega)
   omega
  ·have c':¬ 0<l:=fun z=>c (decide_eq_true z)
   have e0:l=0:=by omega
   subst e0
   rw [←e,zcr hg] at h
   exact h
 ·exact h.elim
abbrev z21:Stmt:=top 30
theorem z7l:FnScope ["_law_found"] ["_law_found"] (z05 z21):=⟨rfl,rfl,rfl,by decide +kernel,rfl,by decide +kernel,by decide +kernel⟩
theorem z88 (T:Top K mg "_law_is_fraction" z21 ["_law_found"])(B:Blt mg)(D_Lwhole:Def P w K mg base "_law_whole" 1 ["_law_found"] (z3s))(D_Ldivisor:Def P w K mg base "_law_divisor" 1 ["_law_one","_law_other"] (spG)):Def P w K mg base "_law_is_fraction" 2 ["_law_found"] (zcv K):=by
 refine z0x (k:=1) T z7l (fun vs H Q E h=>?_) (fun f cdv A outer s H vs Q E hr h=>?_)
 ·obtain⟨x,n,d,rfl,_⟩:=h
  rfl
 obtain⟨x,n,d,rfl,hx,hd,hg,q⟩:=h
 obtain⟨a,rfl,ha⟩:=is_frac.mp hx
 have hT:SqT K H a [.int n,.int d]:=SqT.of ha
 refine⟨_,(z02 (z2p (z8f (z4m (z2l (z3m z26 B.isinstance z28 (z00 (cv 0) (z00 (zed B.tuple zii) z03))))) (z7f (z0s zm4 (z3m z24 B.len y17 (z00 (cv 0) z03)) z04 (z0o _)))).pt
   (z07 (z0m z9w))
   z0z)
   (z02 (z2p (z8f (z4m (z2l (z0b D_Lwhole (hr.mono (by decide)) (z00 (z0h z0i (cv 0) z04 (fun _ _=>rfl)) z03)))) (z8f (z4m (z2l (z0b D_Lwhole (hr.mono (by decide)) (z00 (z0h z0i (cv 0) z04 (fun _ _=>rfl)) z03)))) (z7f (z0s z6z (z0h z0i (cv 0) z04 (fun _ _=>rfl)) z04 (z0o _))))).pt
   (z07 (z0m z9w))
   z0z)
   (z07 (z0m (z3e z5b (z0b D_Ldivisor (hr.mono (by decide)) (z00 (z0h z0i (cv 0) z04 (fun _ _=>rfl)) (z00 (z0h z0i (cv 0) z04 (fun _ _=>rfl)) z03))) z04 (z0o _)))))),?_⟩
 refine rd (σ':=[some (.ref a)]) rfl ?_
 walk_at "run"
 rw [ha]
 walk_at "run"
 refine⟨by decide,z8b ⟨_,.inr hT,zmn rfl ⟨_,_,.inr hT,rfl,?_⟩⟩⟩
 walk_at "run"
 refine z8b ⟨_,_,.inr hT,rfl,?_⟩
 walk_at "run"
 refine z8b ⟨_,_,.inr hT,rfl,?_⟩
 walk_at "run"
 refine z3j (fun c=>absurd (of_decide_eq_true c) (by omega)) (fun _=>⟨_,_,.inr hT,rfl,_,_,.inr hT,rfl,?_⟩)
 walk_at "run"
 rw [hg]
 exact q
abbrev z3z:Stmt:=top 31
theorem sc_Llowest:FnScope ["_law_top","_law_bottom","_law_by"] ["_law_top","_law_bottom"] (z05 z3z):=⟨rfl,rfl,rfl,by decide +kernel,rfl,by decide +kernel,by decide +kernel⟩
theorem ze4 (T:Top K mg "_law_lowest" z3z ["_law_top","_law_bottom"])(B:Blt mg)(D_Ldivisor:Def P w K mg base "_law_divisor" 1 ["_law_one","_law_other"] (spG)):Def P w K mg base "_law_lowest" 2 ["_law_top","_law_bottom"] (z7z K):=by
 refine z0x (k:=1) T sc_Llowest (fun vs H Q E h=>?_) (fun f cdv A outer s H vs Q E hr h=>?_)
 ·obtain⟨a,b,rfl,_⟩:=h
  rfl
 obtain⟨a,b,rfl,hb,hB,q⟩:=h
 refine⟨_,(z02 (z0c 2 sc_Llowest.nd (z0b D_Ldivisor (hr.mono (by decide)) (z00 (cv 0) (z00 (cv 1) z03))))
   (z02 (z2p (z0s z6z (cv 1) z04 (z0o _))
   (z07 (z0c 2 sc_Llowest.nd (z9k z5k (cv 2))))
   z0z)
   (z07 (z0m (z22 (z00 (z0j z2n (cv 0) (cv 2)) (z00 (z0j z2n (cv 1) (cv 2)) z03))))))),?_⟩
 refine rd (σ':=[some (.int a),some (.int b),none]) rfl ?_
 walk_at "run"
 have fin:∀j:Int,j=(if b<0 then -((y13 a b:Nat):Int) else (y13 a b:Nat))→j≠0∧j.natAbs.log2<9000∧j≠0∧j.natAbs.log2<9000∧2≤sizeLine∧∀p,H p=none→Q (.ref p) (upd H p (.tup [.int (a.fdiv j),.int (b.fdiv j)])):=fun j hj=>by
  obtain⟨h1,h2,h3,h4,h5⟩:=zae hb hj
  exact⟨h1,zm0 hB h2 h1,h1,zm0 hB h2 h1,sz (by show 2≤1000; decide),(q _ _ h3 h4 h5).ints2⟩
 refine z3j (fun c=>?_) (fun c=>?_)
 ·exact fin _ (if_pos (of_decide_eq_true c)).symm
 ·exact fin _ (if_neg (fun z=>c (decide_eq_true z))).symm
abbrev z67:Stmt:=top 35
theorem ziv:FnScope ["_law_one","_law_other"] ["_law_one","_law_other"] (z05 z67):=⟨rfl,rfl,rfl,by decide +kernel,rfl,by decide +kernel,by decide +kernel⟩
theorem zid (T:Top K mg "_law_plus" z67 ["_law_one","_law_other"])(B:Blt mg)(D_Llowest:Def P w K mg base "_law_lowest" 2 ["_law_top","_law_bottom"] (z7z K)):Def P w K mg base "_law_plus" 3 ["_law_one","_law_other"] (zei K (fun a b c d=>a*d+c*b)):=by
 refine z0x (k:=2) T ziv (fun vs H Q E h=>?_) (fun f cdv A outer s H vs Q E hr h=>?_)
 ·obtain⟨x,y,a,b,c,d,rfl,_⟩:=h
  rfl
 obtain⟨x,y,a,b,c,d,rfl,hx,hy,hb,hd,ba,bb,bc,bd,q⟩:=h
 obtain⟨p,rfl,hp0⟩:=is_frac.mp hx
 obtain⟨r,rfl,hr0⟩:=is_frac.mp hy
 have hp:SqT K H p _:=SqT.of hp0
 have hr':SqT K H r _:=SqT.of hr0
 refine⟨_,(z07 (z0m (z0b D_Llowest (hr.mono (by decide)) (z00 (z0j z1p (z0j z1y (z0h z0i (cv 0) z04 (fun _ _=>rfl)) (z0h z0i (cv 1) z04 (fun _ _=>rfl))) (z0j z1y (z0h z0i (cv 1) z04 (fun _ _=>rfl)) (z0h z0i (cv 0) z04 (fun _ _=>rfl)))) (z00 (z0j z1y (z0h z0i (cv 0) z04 (fun _ _=>rfl)) (z0h z0i (cv 1) z04 (fun _ _=>rfl))) z03))))),?_⟩
 refine rd (σ':=[some (.ref p),some (.ref r)]) rfl ?_
 walk_at "run"
 exact⟨_,_,.inr hp,rfl,_,_,.inr hr',rfl,z4c ba bd (by decide),_,_,.inr hr',rfl,_,_,.inr hp,rfl,z4c bc bb (by decide),_,_,.inr hp,rfl,_,_,.inr hr',rfl,z4c bb bd (by decide),_,_,rfl,y4n hb hd,(bb.mul bd).le (by decide),q⟩
abbrev z6h:Stmt:=top 37
theorem sc_Lbear:FnScope ["_law_doers","_law_many","_law_shares","_law_loads","_law_row_here","_law_some","_law_hand","_law_share"] ["_law_doers","_law_many","_law_shares"] (z05 z6h):=⟨rfl,rfl,rfl,by decide +kernel,rfl,by decide +kernel,by decide +kernel⟩
theorem zij (T:Top K mg "_law_bear" z6h ["_law_doers","_law_many","_law_shares"])(B:Blt mg)(D_Lplus:Def P w K mg base "_law_plus" 3 ["_law_one","_law_other"] (zei K (fun a b c d=>a*d+c*b))):Def P w K mg base "_law_bear" 4 ["_law_doers","_law_many","_law_shares"] (zjh K):=by
 refine z0x (k:=3) T sc_Lbear (fun vs H Q E h=>?_) (fun f cdv A outer s H vs Q E hr h=>?_)
 ·obtain⟨ad,as,many,drs,shs,M,rfl,_⟩:=h
  rfl
 obtain⟨ad,as,many,drs,shs,M,rfl,id,is,ok,hm,q⟩:=h
 obtain⟨_,rs,e0,hda,hrs⟩:=is_list.mp id
 cases e0
 obtain⟨_,ss,e0,hsa,hss⟩:=is_list.mp is
 cases e0
 have rsl:rs.length=drs.length:=by rw [z0k hrs,y04]
 have ssl:ss.length=shs.length:=by rw [z0k hss,y04]
 refine⟨_,(z02 (z0c 3 sc_Lbear.nd (z0j z1y (z1l (z00 (z22 (z00 z04 (z00 z04 z03))) z03)) (cv 1)))
   (z02 (z23 (z92 B.zip (cv 0) (cv 2)) (z8e (z0f 4 sc_Lbear.nd) (z0f 5 sc_Lbear.nd))
   (z07 (z23 (z92 B.zip (cv 4) (cv 5)) (z8e (z0f 6 sc_Lbear.nd) (z0f 7 sc_Lbear.nd))
    (z07 (z8x (z0b D_Lplus (hr.mono (by decide)) (z00 (z0h z0i (cv 3) (cv 6) (fun _ _=>rfl)) (z00 (cv 7) z03))) (zag (cv 3) (cv 6) z4d))))))
   (z07 (z0m (cv 3))))),?_⟩
 refine rd (σ':=[some (.ref ad),some (.int (many:Int)),some (.ref as),none,none,none,none,none]) rfl ?_
 walk_at "run"
 refine⟨sz (by show 2≤1000; decide),fun t0 ht0=>⟨sz (by show 1≤1000; decide),fun l0 hl0=>?_⟩⟩
 have w1:=z06 ht0 (.tup [.int 0,.int 1])
 have w2:=z06 hl0 (.lst [.ref t0])
 refine⟨_,z01,by omega,by omega,sz (by show 1*_≤1000; omega),fun l hl=>?_⟩
 rw [z48,show((many:Int)).toNat=many by omega]
 have g0:Grow K H (upd (upd (upd H t0 (.tup [.int 0,.int 1])) l0 (.lst [.ref t0])) l (.lst (y06 many (V.ref t0)))) l (y06 many (V.ref t0)) ((y06 many ((0,1):Int×Int)).map fun p=>z2m p.1 p.2):=by
  refine⟨?_,z01,?_⟩
  ·rw [z2e]
   exact(w1.trans w2).trans (z9e hl)
  ·rw [z2e,y30]
   have e:(del (upd (upd H t0 (.tup [.int 0,.int 1])) l0 (.lst [.ref t0])) l) t0=some (.tup [.int 0,.int 1]):=by
    have e1:=w2 _ _ (z01 (H:=H) (a:=t0) (o:=.tup [.int 0,.int 1]))
    rw [z4g (z08 e1 hl)]
    exact e1
   exact z79 (is_frac.mpr ⟨t0,rfl,e⟩) many
 generalize upd (upd (upd H t0 (.tup [.int 0,.int 1])) l0 (.lst [.ref t0])) l (.lst (y06 many (V.ref t0)))=H1 at g0 ⊢
 clear w1 w2 hl ht0 hl0
 refine⟨false,false,⟨_,SqL.of (g0.same _ _ hda)⟩,⟨_,SqL.of (g0.same _ _ hsa)⟩,?_⟩
 have len:=ok.len
 have few:=ok.few
 refine zh6 (xs:=rs) (ys:=ss) drs.length (by rw [rsl,ssl,len,y6k]) (fun i σ' H'=>∃t4 t5 t6 t7 vs qs,σ' = [some (.ref ad),some (.int (many:Int)),some (.ref as),some (.ref l),t4,t5,t6,t7]∧Grow K H H' l vs (qs.map fun p=>z2m p.1 p.2)∧qs.length=many∧LdB M (z2a (drs.take i) (shs.take i)) qs) ⟨_,_,_,_,_,y06 many (0,1),rfl,g0,y1z,?_⟩ ?_ ?_ ?_
 ·intro h z hz
  rw [y1i] at hz
  split at hz
  ·cases hz
   exact⟨⟨by decide,by decide⟩,by simp [z2a,bag]⟩
  ·cases hz
 ·rintro i σ' H' _ ⟨t4,t5,t6,t7,vs,qs,rfl,g,_⟩
  exact⟨SqL.of (g.same _ _ hda),SqL.of (g.same _ _ hsa)⟩
 ·rintro i x y σ' H' pt hx hy ⟨t4,t5,t6,t7,vs,qs,rfl,g,ql,lb⟩ hpt
  have hi:=(y00.mp hx).1
  have hr1:drs[i]?=some (drs[i]'(by omega)):=y01 _
  have hs1:shs[i]?=some (shs[i]'(by omega)):=y01 _
  generalize drs[i]'(by omega)=r at hr1
  generalize shs[i]'(by omega)=s at hs1
  obtain⟨ra,hra1,hra⟩:=z5c hrs hr1
  rw [hx] at hra1
  cases hra1
  obtain⟨y',hy1,iy⟩:=z1x hss (show(shs.map z56)[i]?=some (z56 s) by rw [y0b,hs1]; rfl)
  rw [hy] at hy1
  cases hy1
  obtain⟨sa,sv,rfl,hsa1,hsv⟩:=is_list.mp iy
  obtain⟨sr,rlen,rlt⟩:=ok.row i r s hr1 hs1
  have svl:sv.length=r.length:=by rw [z0k hsv,y04,sr]
  have sok:=ok.ok s (y03 hs1)
  have sT:=z06 hpt (.tup [.ref ra,.ref sa])
  have g1:=g.more sT
  have kT:=z01 (H:=H') (a:=pt) (o:=.tup [.ref ra,.ref sa])
  generalize upd H' pt (.tup [.ref ra,.ref sa])=H2 at g1 kT ⊢
  have fl:=z94 ok i (by omega)
  walk_at "run"
  refine⟨_,_,SqT.of kT,?_⟩
  walk_at "run"
  refine⟨false,false,⟨_,SqL.of (g1.same _ _ hra)⟩,⟨_,SqL.of (g1.same _ _ hsa1)⟩,?_⟩
  refine zh6 (xs:=z09 r) (ys:=sv) r.length (by rw [z0n,svl,y6k]) (fun j σ' H'=>∃t6 t7 vs qs,σ' = [some (.ref ad),some (.int (many:Int)),some (.ref as),some (.ref l),some (.ref ra),some (.ref sa),t6,t7]∧Grow K H H' l vs (qs.map fun p=>z2m p.1 p.2)∧qs.length=many∧LdB M (z2a (drs.take i) (shs.take i)++(r.zip s).take j) qs) ⟨_,_,_,_,rfl,g1,ql,by rw [List.take_zero,y2n]; exact lb⟩ ?_ ?_ ?_
  ·rintro j σ' H' _ ⟨t6,t7,vs,qs,rfl,g,_⟩
   exact⟨SqL.of (g.same _ _ hra),SqL.of (g.same _ _ hsa1)⟩
  ·rintro j x y σ' H' pt hx hy ⟨t6,t7,vs,qs,rfl,g,ql,lb⟩ hpt
   obtain⟨h,hh,rfl⟩:=z33 hx
   obtain⟨p,pa,hp,rfl,hpa⟩:=z34 hsv hy
   have hlt:=rlt h (y03 hh)
   have jl:=(y00.mp hh).1
   obtain⟨pl,pd,pb⟩:=sok p (y03 hp)
   have hq:qs[h]?=some (qs[h]'(by omega)):=y01 _
   generalize qs[h]'(by omega)=u at hq
   have zt:(r.zip s)[j]?=some (h,p):=y1o.mpr ⟨hh,hp⟩
   have okL:∀x∈z2a (drs.take i) (shs.take i)++(r.zip s).take j,1≤x.2.2∧x.2.2∣M∧Bd 600 x.2.1:=fun x hx=>by
    rcases y0u.mp hx with z | z
    ·exact zl1 ok x (zhw len i x z)
    ·obtain⟨a1,a2,a3⟩:=sok x.2 (y1x (y4d z)).2
     exact⟨a1.1,a2,a3⟩
   obtain⟨b1,b2⟩:=lb.bd ok.hM ok.bM okL (by rw [y09,y0r,y5u]; omega) hq
   obtain⟨ul,_⟩:=lb h u hq
   have sT:=z06 hpt (.tup [.int (h:Int),.ref pa])
   have g1:=g.more sT
   have kT:=z01 (H:=H') (a:=pt) (o:=.tup [.int (h:Int),.ref pa])
   generalize upd H' pt (.tup [.int (h:Int),.ref pa])=H3 at g1 kT ⊢
   obtain⟨uv,hu1,hu2⟩:=z1x g1.all (show(qs.map fun p=>z2m p.1 p.2)[h]?=some (z2m u.1 u.2) by rw [y0b,hq]; rfl)
   have b3:Bd 600 p.2:=ok.bM.of_le (by
    have:=y7b ok.hM pd
    have:=pl.1
    omega)
   walk_at "run"
   refine⟨_,_,SqT.of kT,?_⟩
   walk_at "run"
   refine⟨_,_,.inl (SqL.of g1.here),z1v hu1,_,_,u.1,u.2,p.1,p.2,rfl,Is.same del_sub _ _ hu2,is_frac.mpr ⟨pa,rfl,g1.same _ _ hpa⟩,by have:=ul.1; omega,by have:=pl.1; omega,b1.le (by decide),b2.le (by decide),pb.le (by decide),b3.le (by decide),fun n e e1 e2 e3 v4 H4 s4 is4=>?_⟩
   have g2:=g1.more s4
   have vl4:vs.length=many:=by rw [z0k g1.all,y04,ql]
   obtain⟨va,rfl,hva⟩:=is_frac.mp is4
   refine⟨_,h,g2.here,z31 (by omega),?_⟩
   refine⟨_,_,vs.set h (.ref va),qs.set h (n,e),rfl,?_,by rw [y32]; exact ql,?_⟩
   ·rw [y2q]
    exact g2.setAt h (z72 is4 g2.here)
   ·rw [z0g zt,←y33]
    exact lb.add hq pl.1 pd ⟨e1,e2⟩ e3
  ·rintro σ' H' ⟨t6,t7,vs,qs,rfl,g,ql,lb⟩
   rw [show(r.zip s).take r.length=r.zip s from y05 (by rw [y5u]; omega),←z5u hr1 hs1] at lb
   exact⟨_,_,_,_,vs,qs,rfl,g,ql,lb⟩
 ·rintro σ' H' ⟨t4,t5,t6,t7,vs,qs,rfl,g,ql,lb⟩
  rw [y05 (y07 _),y05 (by omega)] at lb
  walk_at "run"
  exact q qs ql lb _ _ g.same g.is
abbrev z8h:Stmt:=top 38
theorem zkp:FnScope ["_law_script","_law_at","_law_k"] ["_law_script","_law_at","_law_k"] (z05 z8h):=⟨rfl,rfl,rfl,by decide +kernel,rfl,by decide +kernel,by decide +kernel⟩
theorem zkj (T:Top K mg "_law_far" z8h ["_law_script","_law_at","_law_k"])(B:Blt mg)(D_Lmixed:Def P w K mg base "_law_mixed" 1 ["_law_cell","_law_k"] (z3i))(D_Lcell_at:Def P w K mg base "_law_cell_at" 1 ["_law_script","_law_k"] (z5j K)):Def P w K mg base "_law_far" 2 ["_law_script","_law_at","_law_k"] (zjp K):=by
 refine z0x (k:=1) T zkp (fun vs H Q E h=>?_) (fun f cdv A outer s H vs Q E hr h=>?_)
 ·obtain⟨a,ns,at',k,rfl,_⟩:=h
  rfl
 obtain⟨a,ns,at',k,rfl,hS,h1,h2,h3,h4,q⟩:=h
 refine⟨_,(z02 (z2p (z0s z6z (cv 1) (z3m z24 B.len y17 (z00 (cv 0) z03)) (z0o _))
   (z07 (z0m (z0b D_Lmixed (hr.mono (by decide)) (z00 (z0h z0i (cv 0) (cv 1) (fun _ _=>rfl)) (z00 (cv 2) z03)))))
   z0z)
   (z07 (z0m (z0b D_Lmixed (hr.mono (by decide)) (z00 (z0b D_Lcell_at (hr.mono (by decide)) (z00 (cv 0) (z00 z04 z03))) (z00 (z0j z1p (z0j z1p z04 (cv 1)) (z0j z1y z04 (cv 2))) z03)))))),?_⟩
 refine rd (σ':=[some (.ref a),some (.int at'),some (.int k)]) rfl ?_
 walk_at "run"
 refine⟨_,.inl hS,?_⟩
 walk_at "run"
 refine z3j (fun c=>?_) (fun c=>?_)
 ·have c':at'<((ns.map V.int).length:Int):=of_decide_eq_true c
  refine⟨_,_,.inl hS,zgt h1 c',?_⟩
  exact⟨h3,by omega,fun z z0=>q z z0⟩
 ·refine⟨ns,hS,by decide,?_⟩
  have b1:Bd 8 (7:Int):=by show _<_; decide
  have b2:Bd 8 k:=by show k.natAbs<2^8; omega
  refine⟨z4c b1 b2 (by decide),by omega,by omega,fun z z0=>q z z0⟩
abbrev z38:Stmt:=top 39
theorem sc_Lweights:FnScope ["_law_script","_law_at","_law_many","_law_found"] ["_law_script","_law_at","_law_many"] (z05 z38):=⟨rfl,rfl,rfl,by decide +kernel,rfl,by decide +kernel,by decide +kernel⟩
theorem zc7 (T:Top K mg "_law_weights" z38 ["_law_script","_law_at","_law_many"])(B:Blt mg)(D_Lfar:Def P w K mg base "_law_far" 2 ["_law_script","_law_at","_law_k"] (zjp K))(D_Lmixed:Def P w K mg base "_law_mixed" 1 ["_law_cell","_law_k"] (z3i))(D_Lcell_at:Def P w K mg base "_law_cell_at" 1 ["_law_script","_law_k"] (z5j K)):Def P w K mg base "_law_weights" 3 ["_law_script","_law_at","_law_many"] (za7 K):=by
 refine z0x (k:=2) T sc_Lweights (fun vs H Q E h=>?_) (fun f cdv A outer s H vs Q E hr h=>?_)
 ·obtain⟨a,ns,at',n,rfl,_⟩:=h
  rfl
 obtain⟨a,ns,at',n,rfl,hS,h1,n1,n12,q⟩:=h
 refine⟨_,(z02 (zbq (N:=["_law_k","_law_script","_law_at"]) (fr:=[0,1]) 3 1 sc_Lweights.nd (zep B.range (z00 (cv 2) z03)) (fun C hN=>by exact pgC ((z0f 0 hN)) (by walk_at "c")) (fun C hN=>by exact peC ((z0j z1t (z0b D_Lfar (hr.mono (by decide)) (z00 (cv 1) (z00 (z0j z1p z04 (z0j z1t (z0j z1p (cv 2) (cv 0)) z04)) (z00 (z0j z2n (z0j z1p (cv 2) (cv 0)) z04) z03)))) z04)) (by walk_at "c")))
   (z02 (z2p (z0s z5b (z3m za2 B.sum zaq (z00 (cv 3) z03)) z04 (z0o _))
   (z07 (z8x z04 (zag (cv 3) (z0j z1t (z0b D_Lmixed (hr.mono (by decide)) (z00 (z0b D_Lcell_at (hr.mono (by decide)) (z00 (cv 0) (z00 z04 z03))) (z00 (z0j z1p z04 (z0j z1t (cv 1) z04)) z03))) (cv 2)) z4d)))
   z0z)
   (z07 (z0m (cv 3))))),?_⟩
 refine rd (σ':=[some (.ref a),some (.int (at':Int)),some (.int (n:Int)),none]) rfl ?_
 walk_at "run"
 refine⟨⟨by omega,by omega⟩,?_⟩
 rw [show((n:Int)).toNat=n by omega]
 refine cgo (σ':=[none,some (.ref a),some (.int (at':Int))]) rfl ?_
 refine z6k (fun j ys H2=>H2=H∧∃wts:List Int,ys=wts.map V.int∧wts.length=j∧∀x∈wts,0≤x∧x≤3) ⟨rfl,[],rfl,rfl,fun _ z=>(by cases z)⟩ (z0l (by omega)) ?_ ?_ ?_
 ·rintro j ys H2 _ ⟨_,wts,rfl,wl,_⟩
  rw [y04]
  omega
 ·rintro j ys H2 hj ⟨rfl,wts,rfl,wl,wb⟩
  walk_at "run"
  have e1:((at':Int)+(0+(j:Int))).fdiv 43=((at'+j:Nat):Int) / 43:=by
   rw [y2x _ (by decide)]
   congr 1
   omega
  refine z8c ⟨by decide,by decide,by decide +kernel,a,ns,_,_,rfl,hS,by omega,by omega,by rw [e1]; omega,by rw [e1]; omega,fun z z0=>?_⟩
  walk_at "run"
  have m0:=y1l z (show(4:Int)≠0 by decide)
  have m1:=y1m z (show(0:Int)<4 by decide)
  refine⟨by decide,CNx.mk ⟨rfl,wts ++ [z % 4],by rw [y0h]; rfl,by rw [y09]; show _+1=_; omega,fun x hx=>?_⟩ hj⟩
  rcases y0u.mp hx with hx | hx
  ·exact wb x hx
  ·rw [y0a.mp hx]
   omega
 rintro ys H2 ⟨rfl,wts,rfl,wl,wb⟩ l hl
 have s1:=z06 hl (.lst (wts.map V.int))
 have k1:=z01 (H:=H2) (a:=l) (o:=.lst (wts.map V.int))
 generalize upd H2 l (.lst (wts.map V.int))=H3 at s1 k1 ⊢
 walk_at "run"
 refine⟨wts,SqL.of k1,?_⟩
 walk_at "run"
 have nn:=zc0 wb
 refine z3j (fun c=>?_) (fun c=>?_)
 ·have npos:(0:Int)<(n:Int):=by omega
  refine⟨ns,s1.seq hS,by decide,by decide,by omega,by omega,fun z z0=>⟨npos,?_⟩⟩
  obtain⟨m,hm⟩:=y2e (y1l z (show(n:Int)≠0 by omega))
  have hml:=y1m z npos
  rw [hm] at hml ⊢
  have hml':m<wts.length:=by omega
  refine⟨_,m,k1,z31 (by rw [y04]; exact hml'),?_⟩
  have wok:∀x∈wts.set m 1,0≤x∧x≤3:=fun x hx=>by
   rcases List.mem_or_eq_of_mem_set hx with z | z
   ·exact wb x z
   ·omega
  refine q l (wts.set m 1) _ (by rw [y32]; exact wl) wok ?_ (fun b o hb=>?_) ?_
  ·have:=zjf (fun x hx=>(wok x hx).1) 1 (y03 (y0y hml'))
   exact this
  ·rw [z0a (z08 hb hl)]
   exact s1 _ _ hb
  ·rw [z01,y2q]
 ·have c':¬wts.sum=0:=fun z=>c (decide_eq_true z)
  exact q l wts _ wl wb (by omega) s1 k1
abbrev z4z:Stmt:=top 40
theorem sc_Ldrawn:FnScope ["_law_script","_law_works","_law_doers","_law_shares","_law_at","_law_work_here","_law_row_here","_law_weights_here"] ["_law_script","_law_works","_law_doers"] (z05 z4z):=⟨rfl,rfl,rfl,by decide +kernel,rfl,by decide +kernel,by decide +kernel⟩
theorem zeu (T:Top K mg "_law_drawn" z4z ["_law_script","_law_works","_law_doers"])(B:Blt mg)(D_Lweights:Def P w K mg base "_law_weights" 3 ["_law_script","_law_at","_law_many"] (za7 K))(D_Llowest:Def P w K mg base "_law_lowest" 2 ["_law_top","_law_bottom"] (z7z K)):Def P w K mg base "_law_drawn" 4 ["_law_script","_law_works","_law_doers"] (zgf K):=by
 refine z0x (k:=3) T sc_Ldrawn (fun vs H Q E h=>?_) (fun f cdv A outer s H vs Q E hr h=>?_)
 ·obtain⟨a,aw,ad,ns,ws,drs,many,rfl,_⟩:=h
  rfl
 obtain⟨a,aw,ad,ns,ws,drs,many,rfl,hS,cr,q⟩:=h
 obtain⟨_,rs,e0,hda,hrs⟩:=is_list.mp cr.ask.d
 cases e0
 have few:=cr.few
 have dl:=cr.ask.len
 have h12:=cr.h12
 have rsl:rs.length=drs.length:=by rw [z0k hrs,y04]
 refine⟨_,(z02 (z0c 3 sc_Ldrawn.nd (z1l z03))
   (z02 (z0c 4 sc_Ldrawn.nd z04)
   (z02 (z23 (z92 B.zip (cv 1) (cv 2)) (z8e (z0f 5 sc_Ldrawn.nd) (z0f 6 sc_Ldrawn.nd))
   (z02 (z0c 7 sc_Ldrawn.nd (z0b D_Lweights (hr.mono (by decide)) (z00 (cv 0) (z00 (cv 4) (z00 (z3m z24 B.len y17 (z00 (cv 6) z03)) z03)))))
    (z02 (z0c 4 sc_Ldrawn.nd (z0j z1p (cv 4) (z3m z24 B.len y17 (z00 (cv 6) z03))))
    (z07 (z25 (z19 (cv 3) (z00 (z3o (N:=["_law_weight","_law_work_here","_law_weights_here"]) (fr:=[5,7]) 1 (z1k (cv 7)) (fun C hN=>by exact pgC ((z0f 0 hN)) (by walk_at "c")) (fun C hN=>by exact peC ((z0b D_Llowest (hr.mono (by decide)) (z00 (z0j z1y (cv 1) (cv 0)) (z00 (z3m za2 B.sum zaq (z00 (cv 2) z03)) z03)))) (by walk_at "c"))) z03)))))))
   (z07 (z0m (cv 3)))))),?_⟩
 refine rd (σ':=[some (.ref a),some (.ref aw),some (.ref ad),none,none,none,none,none]) rfl ?_
 walk_at "run"
 refine⟨sz (by show 0≤1000; decide),fun l hl=>?_⟩
 have g0:Grow K H (upd H l (.lst [])) l [] ((([]:List (List (Int×Int)))).map z56):=Grow.start hl
 generalize upd H l (.lst [])=H1 at g0 ⊢
 refine⟨false,false,⟨_,SqL.of (g0.same _ _ cr.ask.w)⟩,⟨_,SqL.of (g0.same _ _ hda)⟩,?_⟩
 refine zh6 (xs:=ws.map V.int) (ys:=rs) ws.length (by rw [y04,rsl,dl,y6k]) (fun i σ' H'=>∃(t5 t6 t7:Option V) (at':Nat) (vs:List V) (shs:List (List (Int×Int))) (Md:Int),σ' = [some (.ref a),some (.ref aw),some (.ref ad),some (.ref l),some (.int (at':Int)),t5,t6,t7]∧Grow K H H' l vs (shs.map z56)∧shs.length=i∧at'≤12*i∧0<Md∧Bd (6*i+1) Md∧∀M:Int,0<M→Md∣M→Deal M ws (drs.take i) shs) ⟨_,_,_,0,_,[],1,rfl,g0,rfl,by decide,by decide,by show(1:Int).natAbs<_; decide,fun M _ _=>⟨by simp,fun i r s h=>(by simp at h),fun s h=>(by cases h)⟩⟩ ?_ ?_ ?_
 ·rintro i σ' H' _ ⟨t5,t6,t7,at',vs,shs,Md,rfl,g,_⟩
  exact⟨SqL.of (g.same _ _ cr.ask.w),SqL.of (g.same _ _ hda)⟩
 ·rintro i x y σ' H' pt hx hy ⟨t5,t6,t7,at',vs,shs,Md,rfl,g,sl,atl,md0,md1,dlo⟩ hpt
  have hi:=(y00.mp hy).1
  obtain⟨w,hw,rfl⟩:=zg0 hx
  have hr1:drs[i]?=some (drs[i]'(by omega)):=y01 _
  generalize drs[i]'(by omega)=r at hr1
  obtain⟨ra,hra1,hra⟩:=z5c hrs hr1
  rw [hy] at hra1
  cases hra1
  obtain⟨rne,rise,rlt⟩:=cr.rows.2 r (y03 hr1)
  have rl12:r.length≤12:=y19 (z1h rise rlt) h12
  have rl1:1≤r.length:=y0t.mpr rne
  have wb:=cr.works w (y03 hw)
  have w1:=cr.ask.pos w (y03 hw)
  have sT:=z06 hpt (.tup [.int w,.ref ra])
  have g1:=g.more sT
  have kT:=z01 (H:=H') (a:=pt) (o:=.tup [.int w,.ref ra])
  generalize upd H' pt (.tup [.int w,.ref ra])=H2 at g1 kT ⊢
  walk_at "run"
  refine⟨_,_,SqT.of kT,?_⟩
  walk_at "run"
  refine⟨_,.inl (SqL.of (g1.same _ _ hra)),?_⟩
  rw [z0n]
  refine⟨a,ns,at',r.length,rfl,g1.same.seq hS,by omega,rl1,rl12,fun lt wts H3 wl wok ws1 s3 k3=>?_⟩
  have g2:=g1.more s3
  have ws36:=(zc0 wok).2
  walk_at "run"
  have wb6:Bd 6 wts.sum:=by
   show wts.sum.natAbs<2^6
   omega
  refine⟨_,.inl (SqL.of (g2.same _ _ hra)),?_⟩
  rw [z0n]
  refine⟨⟨_,g2.here⟩,.inl ⟨⟨_,SqL.of k3⟩,?_⟩⟩
  refine cgo (σ':=[none,some (.int w),some (.ref lt)]) rfl ?_
  refine z1q (xs:=wts.map V.int) (fun j ys H4=>Same H3 H4∧ys.length≤j∧∃s:List (Int×Int),IsAll K H4 ys (s.map fun p=>z2m p.1 p.2)∧s.length=j∧∀(i:Nat) p wt,s[i]?=some p→wts[i]?=some wt→Low p∧p.1*wts.sum=w*wt*p.2) ⟨Same.refl _,y07 _,[],z0t,rfl,fun i p wt z=>(by simp at z)⟩ (z0l (by rw [y04]; omega)) ?_ ?_ ?_
  ·rintro j ys H4 _ ⟨e4,yl,_⟩
   exact⟨SqL.of (e4 _ _ k3),yl⟩
  ·rintro j x ys H4 hx4 ⟨e4,yl,s,al4,sl4,sp⟩
   have hj:=(y00.mp hx4).1
   obtain⟨wt,hwt,rfl⟩:=zg0 hx4
   have wtb:=wok wt (y03 hwt)
   have b1:Bd 300 w:=cr.ask.bd w (y03 hw)
   have b2:Bd 3 wt:=by show wt.natAbs<2^3; omega
   walk_at "run"
   refine z8c ⟨z4c b1 b2 (by decide),wts,SqL.of (e4 _ _ k3),_,_,rfl,by omega,wb6.le (by decide),fun n d d1 g1 e1 v5 H5 s5 is5=>?_⟩
   refine CNx.mk ⟨e4.trans s5,by rw [y09]; show _+1≤_; omega,s ++ [(n,d)],?_,by rw [y09]; show _+1=_; omega,fun k p wt' hp hw'=>?_⟩ hj
   ·rw [y0h]
    exact z1f (IsAll.same s5 _ _ al4) is5
   ·by_cases c:k<s.length
    ·rw [y0l c] at hp
     exact sp k p wt' hp hw'
    ·rw [y0s (by omega)] at hp
     have z:k - s.length=0:=by
      have:=(y00.mp hp).1
      simp at this
      omega
     rw [z] at hp
     cases hp
     have:k=j:=by omega
     subst this
     rw [hwt] at hw'
     cases hw'
     exact⟨⟨d1,g1⟩,e1⟩
  rintro ys H4 ⟨e4,yl,s,al4,sl4,sp⟩ ls hls
  rw [y04] at sl4
  have f5:=z06 hls (.lst ys)
  have g3:=g2.more (e4.trans f5)
  have al5:=IsAll.same f5 _ _ al4
  have k5:=z01 (H:=H4) (a:=ls) (o:=.lst ys)
  have nls:ls≠l:=fun z=>by rw [z,(g2.more e4).here] at hls; cases hls
  generalize upd H4 ls (.lst ys)=H5 at g3 al5 k5 ⊢
  have vl5:vs.length=i:=by rw [z0k g3.all,y04,sl]
  refine⟨_,g3.here,z0l (by omega),?_⟩
  have g4:=g3.push (v:=.ref ls) (d:=z56 s) (is_list.mpr ⟨ls,ys,rfl,by rw [z4g nls]; exact k5,z41 g3.here al5⟩)
  refine⟨_,_,_,at'+r.length,_,shs ++ [s],Md*wts.sum,by rw [show((at'+r.length:Nat):Int)=(at':Int)+(r.length:Int) by omega],by rw [y0h]; exact g4,by rw [y09,sl]; rfl,by omega,y3p md0 (by omega),(md1.mul wb6).le (by omega),fun M hM hd=>?_⟩
  obtain⟨p1,p2⟩:=zhv (by omega) sp ws1 hM (y36 (y5e _ _) hd) wok w1 wb
  refine(dlo M hM (y36 (y55 _ _) hd)).snoc sl hr1 (by omega) ?_ p2
  rw [p1,y0o,hw]
  rfl
 ·rintro σ' H' ⟨t5,t6,t7,at',vs,shs,Md,rfl,g,sl,atl,md0,md1,dlo⟩
  rw [y05 (by omega)] at dlo
  walk_at "run"
  exact q shs Md md0 (md1.le (by omega)) dlo _ _ g.same g.is
abbrev z4w:Stmt:=top 42
theorem sc_Ltotal:FnScope ["_law_loads","_law_found","_law_load"] ["_law_loads"] (z05 z4w):=⟨rfl,rfl,rfl,by decide +kernel,rfl,by decide +kernel,by decide +kernel⟩
theorem zf8 (T:Top K mg "_law_total" z4w ["_law_loads"])(B:Blt mg)(D_Lplus:Def P w K mg base "_law_plus" 3 ["_law_one","_law_other"] (zei K (fun a b c d=>a*d+c*b))):Def P w K mg base "_law_total" 4 ["_law_loads"] (z73 K):=by
 refine z0x (k:=3) T sc_Ltotal (fun vs H Q E h=>?_) (fun f cdv A outer s H vs Q E hr h=>?_)
 ·obtain⟨x,ps,Xs,M,rfl,_⟩:=h
  rfl
 obtain⟨x,ps,Xs,M,rfl,hx,f,q⟩:=h
 obtain⟨a,xs,rfl,ha,al⟩:=is_list.mp hx
 have hlen:xs.length=ps.length:=by simpa using z0k al
 have few:=f.few
 have fl:=f.len
 refine⟨_,(z02 (z0c 1 sc_Ltotal.nd (z22 (z00 z04 (z00 z04 z03))))
   (z02 (z23 (z1k (cv 0)) (z0f 2 sc_Ltotal.nd)
   (z07 (z0c 1 sc_Ltotal.nd (z0b D_Lplus (hr.mono (by decide)) (z00 (cv 1) (z00 (cv 2) z03))))))
   (z07 (z0m (cv 1))))),?_⟩
 refine rd (σ':=[some (.ref a),none,none]) rfl ?_
 walk_at "run"
 refine⟨sz (by show 2≤1000; decide),fun p hp=>.inl ⟨⟨_,SqL.of (z06 hp _ _ _ ha)⟩,?_⟩⟩
 have s0:=z06 hp (.tup [.int 0,.int 1])
 refine z2f (xs:=xs) (fun i σ H'=>Same H H'∧∃(v:V) (r:Int×Int) (t:Option V),σ = [some (.ref a),some v,t]∧Is K H' v (z2m r.1 r.2)∧FV M r (Xs.take i).sum) ⟨s0,.ref p,(0,1),_,rfl,is_frac.mpr ⟨p,rfl,z01⟩,FV.zero⟩ ?_ ?_ ?_
 ·rintro i σ H' _ ⟨hs,_⟩
  exact SqL.of (hs _ _ ha)
 ·rintro i x σ H' hx' ⟨hs,v,r,t,rfl,hv,fv⟩
  obtain⟨pp,b,hpp,rfl,hb⟩:=z34 al hx'
  obtain⟨X,hX,fX,bX⟩:=f.get hpp
  obtain⟨b1,b2⟩:=fv.bd f.hM f.bM ((zf1 f.bX (by omega) i).le (by decide))
  obtain⟨b3,b4⟩:=fX.bd f.hM f.bM (bX.le (by decide))
  walk_at "run"
  refine⟨_,_,r.1,r.2,pp.1,pp.2,rfl,hv,is_frac.mpr ⟨b,rfl,hs _ _ hb⟩,by have:=fv.1.1; omega,by have:=fX.1.1; omega,b1.le (by decide),b2.le (by decide),b3.le (by decide),b4.le (by decide),fun n' e' f1 f2 f3 v' H1 s1 hv'=>?_⟩
  refine⟨hs.trans s1,v',(n',e'),_,rfl,hv',?_⟩
  rw [z0g hX,z5f]
  exact fv.plus fX f1 f2 f3
 ·rintro σ H' ⟨hs,v,r,t,rfl,hv,fv⟩
  walk_at "run"
  rw [y05 (by omega)] at fv
  exact q r fv _ _ hs hv
abbrev z4y:Stmt:=top 36
theorem zfx:FnScope ["_law_one","_law_other"] ["_law_one","_law_other"] (z05 z4y):=⟨rfl,rfl,rfl,by decide +kernel,rfl,by decide +kernel,by decide +kernel⟩
theorem zf0 (T:Top K mg "_law_below" z4y ["_law_one","_law_other"])(B:Blt mg) :Def P w K mg base "_law_below" 1 ["_law_one","_law_other"] (z6b K):=by
 refine z0x (k:=0) T zfx (fun vs H Q E h=>?_) (fun f cdv A outer s H vs Q E hr h=>?_)
 ·obtain⟨x,y,a,b,c,d,rfl,_⟩:=h
  rfl
 obtain⟨x,y,a,b,c,d,rfl,hx,hy,ba,bb,bc,bd,q⟩:=h
 obtain⟨p,rfl,hp0⟩:=is_frac.mp hx
 obtain⟨r,rfl,hr0⟩:=is_frac.mp hy
 have hp:SqT K H p _:=SqT.of hp0
 have hr':SqT K H r _:=SqT.of hr0
 refine⟨_,(z07 (z0m (z3e z6z (z0j z1y (z0h z0i (cv 0) z04 (fun _ _=>rfl)) (z0h z0i (cv 1) z04 (fun _ _=>rfl))) (z0j z1y (z0h z0i (cv 1) z04 (fun _ _=>rfl)) (z0h z0i (cv 0) z04 (fun _ _=>rfl))) (z0o _)))),?_⟩
 refine rd (σ':=[some (.ref p),some (.ref r)]) rfl ?_
 walk_at "run"
 exact⟨_,_,.inr hp,rfl,_,_,.inr hr',rfl,z4c ba bd (by decide),_,_,.inr hr',rfl,_,_,.inr hp,rfl,z4c bc bb (by decide),q⟩
abbrev z6f:Stmt:=top 41
theorem sc_Lover:FnScope ["_law_loads","_law_level","_law_found","_law_load"] ["_law_loads","_law_level"] (z05 z6f):=⟨rfl,rfl,rfl,by decide +kernel,rfl,by decide +kernel,by decide +kernel⟩
theorem zix (T:Top K mg "_law_over" z6f ["_law_loads","_law_level"])(B:Blt mg)(D_Lbelow:Def P w K mg base "_law_below" 1 ["_law_one","_law_other"] (z6b K))(D_Lplus:Def P w K mg base "_law_plus" 3 ["_law_one","_law_other"] (zei K (fun a b c d=>a*d+c*b))):Def P w K mg base "_law_over" 4 ["_law_loads","_law_level"] (z9i K):=by
 refine z0x (k:=3) T sc_Lover (fun vs H Q E h=>?_) (fun f cdv A outer s H vs Q E hr h=>?_)
 ·obtain⟨x,y,ps,Xs,M,lv,L,rfl,_⟩:=h
  rfl
 obtain⟨x,y,ps,Xs,M,lv,L,rfl,hx,hy,f,few2,fL,bL,q⟩:=h
 obtain⟨a,xs,rfl,ha,al⟩:=is_list.mp hx
 obtain⟨py,rfl,hpy⟩:=is_frac.mp hy
 have hlen:xs.length=ps.length:=by simpa using z0k al
 have few:=f.few
 have fl:=f.len
 obtain⟨c1,c2⟩:=fL.bd f.hM f.bM (bL.le (by decide))
 refine⟨_,(z02 (z0c 2 sc_Lover.nd (z22 (z00 z04 (z00 z04 z03))))
   (z02 (z23 (z1k (cv 0)) (z0f 3 sc_Lover.nd)
   (z07 (z2p (z2l (z0b D_Lbelow (hr.mono (by decide)) (z00 (cv 1) (z00 (cv 3) z03))))
    (z07 (z0c 2 sc_Lover.nd (z0b D_Lplus (hr.mono (by decide)) (z00 (cv 2) (z00 (z0b D_Lplus (hr.mono (by decide)) (z00 (cv 3) (z00 (z22 (z00 (z9k z5k (z0h z0i (cv 1) z04 (fun _ _=>rfl))) (z00 (z0h z0i (cv 1) z04 (fun _ _=>rfl)) z03))) z03))) z03)))))
    z0z)))
   (z07 (z0m (cv 2))))),?_⟩
 refine rd (σ':=[some (.ref a),some (.ref py),none,none]) rfl ?_
 walk_at "run"
 refine⟨sz (by show 2≤1000; decide),fun p hp=>.inl ⟨⟨_,SqL.of (z06 hp _ _ _ ha)⟩,?_⟩⟩
 have s0:=z06 hp (.tup [.int 0,.int 1])
 refine z2f (xs:=xs) (fun i σ H'=>Same H H'∧∃(v:V) (r:Int×Int) (t:Option V),σ = [some (.ref a),some (.ref py),some v,t]∧Is K H' v (z2m r.1 r.2)∧FV M r (PM.ab (Xs.take i) L)) ⟨s0,.ref p,(0,1),_,rfl,is_frac.mpr ⟨p,rfl,z01⟩,FV.zero⟩ ?_ ?_ ?_
 ·rintro i σ H' _ ⟨hs,_⟩
  exact SqL.of (hs _ _ ha)
 ·rintro i x σ H' hx' ⟨hs,v,r,t,rfl,hv,fv⟩
  obtain⟨pp,b,hpp,rfl,hb⟩:=z34 al hx'
  obtain⟨X,hX,fX,bX⟩:=f.get hpp
  obtain⟨b1,b2⟩:=fv.bd f.hM f.bM ((zm2 (fun x hx=>f.bX x (y4d hx)) bL (by rw [y0r]; omega)).le (by decide))
  obtain⟨b3,b4⟩:=fX.bd f.hM f.bM (bX.le (by decide))
  have bd:Bd 1230 (X + -L):=by
   have a:X.natAbs<2^1220:=bX
   have b:L.natAbs<2^1220:=bL.le (by decide)
   show Int.natAbs _<2^1230
   have e:(2:Nat)^1230=2^10*2^1220:=by rw [←y5a]
   rw [e]
   generalize (2:Nat)^1220=z at *
   omega
  walk_at "run"
  refine⟨_,_,lv.1,lv.2,pp.1,pp.2,rfl,Is.same hs _ _ hy,is_frac.mpr ⟨b,rfl,hs _ _ hb⟩,c1.le (by decide),c2.le (by decide),b3.le (by decide),b4.le (by decide),?_⟩
  walk_at "run"
  rw [z0g hX,zc4,show decide (lv.1*pp.2<pp.1*lv.2)=decide (L<X) from decide_eq_decide.mpr (fL.lt f.hM fX)]
  refine z3j (fun c=>?_) (fun c=>?_)
  ·have c':=of_decide_eq_true c
   have hT:SqT K H' py _:=SqT.of (hs _ _ hpy)
   refine⟨_,_,.inr hT,rfl,_,_,.inr hT,rfl,sz (by show 2≤1000; decide),fun p1 hp1=>?_⟩
   have s1:=z06 hp1 (.tup [.int (-lv.1),.int lv.2])
   refine⟨_,_,pp.1,pp.2,-lv.1,lv.2,rfl,is_frac.mpr ⟨b,rfl,s1 _ _ (hs _ _ hb)⟩,is_frac.mpr ⟨p1,rfl,z01⟩,by have:=fX.1.1; omega,by have:=fL.1.1; omega,b3.le (by decide),b4.le (by decide),c1.neg.le (by decide),c2.le (by decide),fun u v u1 u2 u3 x1 H1 s2 hx1=>?_⟩
   have f2:=fX.plus fL.neg u1 u2 u3
   obtain⟨b5,b6⟩:=f2.bd f.hM f.bM (bd.le (by decide))
   refine⟨_,_,r.1,r.2,u,v,rfl,Is.same (s1.trans s2) _ _ hv,hx1,by have:=fv.1.1; omega,by omega,b1.le (by decide),b2.le (by decide),b5.le (by decide),b6.le (by decide),fun m e e1 e2 e3 x2 H2 s3 hx2=>?_⟩
   refine⟨hs.trans (s1.trans (s2.trans s3)),x2,(m,e),_,rfl,hx2,?_⟩
   rw [if_pos c',y4v]
   exact fv.plus f2 e1 e2 e3
  ·have c':¬L<X:=fun z=>c (decide_eq_true z)
   refine⟨hs,v,r,_,rfl,hv,?_⟩
   rw [if_neg c',y3d]
   exact fv
 ·rintro σ H' ⟨hs,v,r,t,rfl,hv,fv⟩
  walk_at "run"
  rw [y05 (by omega)] at fv
  exact q r fv _ _ hs hv
abbrev z3b:Stmt:=top 8
theorem zb6:FnScope ["one","other"] ["one","other"] (z05 z3b):=⟨rfl,rfl,rfl,by decide +kernel,rfl,by decide +kernel,by decide +kernel⟩
theorem zbt (T:Top K mg "is_below" z3b ["one","other"])(B:Blt mg) :Def P w K mg base "is_below" 1 ["one","other"] (z6b K):=by
 refine z0x (k:=0) T zb6 (fun vs H Q E h=>?_) (fun f cdv A outer s H vs Q E hr h=>?_)
 ·obtain⟨x,y,a,b,c,d,rfl,_⟩:=h
  rfl
 obtain⟨x,y,a,b,c,d,rfl,hx,hy,ba,bb,bc,bd,q⟩:=h
 obtain⟨p,rfl,hp0⟩:=is_frac.mp hx
 obtain⟨r,rfl,hr0⟩:=is_frac.mp hy
 have hp:SqT K H p _:=SqT.of hp0
 have hr':SqT K H r _:=SqT.of hr0
 refine⟨_,(z07 (z0m (z3e z6z (z0j z1y (z0h z0i (cv 0) z04 (fun _ _=>rfl)) (z0h z0i (cv 1) z04 (fun _ _=>rfl))) (z0j z1y (z0h z0i (cv 1) z04 (fun _ _=>rfl)) (z0h z0i (cv 0) z04 (fun _ _=>rfl))) (z0o _)))),?_⟩
 refine rd (σ':=[some (.ref p),some (.ref r)]) rfl ?_
 walk_at "run"
 exact⟨_,_,.inr hp,rfl,_,_,.inr hr',rfl,z4c ba bd (by decide),_,_,.inr hr',rfl,_,_,.inr hp,rfl,z4c bc bb (by decide),q⟩
abbrev z1g:Stmt:=top 9
theorem sc_plus_in_lowest:FnScope ["one","other","shared","top","extra"] ["one","other"] (z05 z1g):=⟨rfl,rfl,rfl,by decide +kernel,rfl,by decide +kernel,by decide +kernel⟩
theorem z6e (T:Top K mg "plus_in_lowest" z1g ["one","other"])(B:Blt mg)(D_divisor_of:Def P w K mg base "divisor_of" 1 ["one","other"] (spG)):Def P w K mg base "plus_in_lowest" 2 ["one","other"] (zfh K):=by
 refine z0x (k:=1) T sc_plus_in_lowest (fun vs H Q E h=>?_) (fun f cdv A outer s H vs Q E hr h=>?_)
 ·obtain⟨x,y,a,b,c,d,rfl,_⟩:=h
  rfl
 obtain⟨x,y,a,b,c,d,rfl,hx,hy,hb,hd,g1,g2,ba,bb,bc,bd,q⟩:=h
 obtain⟨p,rfl,hp0⟩:=is_frac.mp hx
 obtain⟨r,rfl,hr0⟩:=is_frac.mp hy
 have hp:SqT K H p _:=SqT.of hp0
 have hr':SqT K H r _:=SqT.of hr0
 refine⟨_,(z02 (z0c 2 sc_plus_in_lowest.nd (z0b D_divisor_of (hr.mono (by decide)) (z00 (z0h z0i (cv 0) z04 (fun _ _=>rfl)) (z00 (z0h z0i (cv 1) z04 (fun _ _=>rfl)) z03))))
   (z02 (z0c 3 sc_plus_in_lowest.nd (z0j z1p (z0j z1y (z0h z0i (cv 0) z04 (fun _ _=>rfl)) (z0j z2n (z0h z0i (cv 1) z04 (fun _ _=>rfl)) (cv 2))) (z0j z1y (z0h z0i (cv 1) z04 (fun _ _=>rfl)) (z0j z2n (z0h z0i (cv 0) z04 (fun _ _=>rfl)) (cv 2)))))
   (z02 (z0c 4 sc_plus_in_lowest.nd (z0b D_divisor_of (hr.mono (by decide)) (z00 (cv 3) (z00 (cv 2) z03))))
   (z07 (z0m (z22 (z00 (z0j z2n (cv 3) (cv 4)) (z00 (z0j z1y (z0j z2n (z0h z0i (cv 0) z04 (fun _ _=>rfl)) (cv 2)) (z0j z2n (z0h z0i (cv 1) z04 (fun _ _=>rfl)) (cv 4))) z03)))))))),?_⟩
 refine rd (σ':=[some (.ref p),some (.ref r),none,none,none]) rfl ?_
 walk_at "run"
 obtain⟨m1,m2,m3,m4,m5,m6,m7,m8⟩:=zh3 hb hd g1 g2 rfl rfl rfl
 refine⟨_,_,.inr hp,rfl,_,_,.inr hr',rfl,?_⟩
 walk_at "run"
 have gp:=zn8 (a:=b) (b:=d) (by omega)
 generalize hg:((y13 b d:Nat):Int)=g at *
 have lg:g.natAbs.log2<9000:=zm0 (bd.le (by decide)) m2 m1
 have bg:Bd 8000 g:=bd.of_le m2
 have b1:Bd 8000 (d.fdiv g):=bd.of_le (zbf gp)
 have b2:Bd 100000 (b.fdiv g):=bb.of_le (zbf gp)
 refine⟨_,_,.inr hp,rfl,_,_,.inr hr',rfl,m1,lg,z4c ba b1 (by decide),_,_,.inr hr',rfl,_,_,.inr hp,rfl,m1,lg,z4c bc b2 (by decide),?_⟩
 walk_at "run"
 have ep:=zn8 (a:=a*d.fdiv g+c*b.fdiv g) (b:=g) (by omega)
 generalize he:((y13 (a*d.fdiv g+c*b.fdiv g) g:Nat):Int)=e at *
 have le:e.natAbs.log2<9000:=zm0 (bg.le (by decide)) m5 m4
 have b3:Bd 8000 (d.fdiv e):=bd.of_le (zbf ep)
 exact⟨m4,le,_,_,.inr hp,rfl,m1,lg,_,_,.inr hr',rfl,m4,le,z4c b2 b3 (by decide),sz (by show 2≤1000; decide),(q _ _ m6 m7 m8).ints2⟩
abbrev z20:Stmt:=top 10
theorem sc_sum_of_parts:FnScope ["parts","total","part"] ["parts"] (z05 z20):=⟨rfl,rfl,rfl,by decide +kernel,rfl,by decide +kernel,by decide +kernel⟩
theorem z76 (T:Top K mg "sum_of_parts" z20 ["parts"])(B:Blt mg)(D_plus_in_lowest:Def P w K mg base "plus_in_lowest" 2 ["one","other"] (zfh K)):Def P w K mg base "sum_of_parts" 3 ["parts"] (z73 K):=by
 refine z0x (k:=2) T sc_sum_of_parts (fun vs H Q E h=>?_) (fun f cdv A outer s H vs Q E hr h=>?_)
 ·obtain⟨x,ps,Xs,M,rfl,_⟩:=h
  rfl
 obtain⟨x,ps,Xs,M,rfl,hx,f,q⟩:=h
 obtain⟨a,xs,rfl,ha,al⟩:=is_list.mp hx
 have hlen:xs.length=ps.length:=by simpa using z0k al
 have few:=f.few
 have fl:=f.len
 refine⟨_,(z02 (z0c 1 sc_sum_of_parts.nd (z22 (z00 z04 (z00 z04 z03))))
   (z02 (z23 (z1k (cv 0)) (z0f 2 sc_sum_of_parts.nd)
   (z07 (z0c 1 sc_sum_of_parts.nd (z0b D_plus_in_lowest (hr.mono (by decide)) (z00 (cv 1) (z00 (cv 2) z03))))))
   (z07 (z0m (cv 1))))),?_⟩
 refine rd (σ':=[some (.ref a),none,none]) rfl ?_
 walk_at "run"
 refine⟨sz (by show 2≤1000; decide),fun p hp=>.inl ⟨⟨_,SqL.of (z06 hp _ _ _ ha)⟩,?_⟩⟩
 have s0:=z06 hp (.tup [.int 0,.int 1])
 refine z2f (xs:=xs) (fun i σ H'=>Same H H'∧∃(v:V) (r:Int×Int) (t:Option V),σ = [some (.ref a),some v,t]∧Is K H' v (z2m r.1 r.2)∧FV M r (Xs.take i).sum) ⟨s0,.ref p,(0,1),_,rfl,is_frac.mpr ⟨p,rfl,z01⟩,FV.zero⟩ ?_ ?_ ?_
 ·rintro i σ H' _ ⟨hs,_⟩
  exact SqL.of (hs _ _ ha)
 ·rintro i x σ H' hx' ⟨hs,v,r,t,rfl,hv,fv⟩
  obtain⟨pp,b,hpp,rfl,hb⟩:=z34 al hx'
  obtain⟨X,hX,fX,bX⟩:=f.get hpp
  obtain⟨b1,b2⟩:=fv.bd f.hM f.bM ((zf1 f.bX (by omega) i).le (by decide))
  obtain⟨b3,b4⟩:=fX.bd f.hM f.bM (bX.le (by decide))
  walk_at "run"
  refine⟨_,_,r.1,r.2,pp.1,pp.2,rfl,hv,is_frac.mpr ⟨b,rfl,hs _ _ hb⟩,fv.1.1,fX.1.1,fv.1.2,fX.1.2,b1.le (by decide),b2.le (by decide),b3.le (by decide),b4.le (by decide),fun n' e' f1 f2 f3 v' H1 s1 hv'=>?_⟩
  refine⟨hs.trans s1,v',(n',e'),_,rfl,hv',?_⟩
  rw [z0g hX,z5f]
  exact fv.plus fX f1 f2 f3
 ·rintro σ H' ⟨hs,v,r,t,rfl,hv,fv⟩
  walk_at "run"
  rw [y05 (by omega)] at fv
  exact q r fv _ _ hs hv
abbrev z2i:Stmt:=top 7
theorem z90:FnScope ["one","other"] ["one","other"] (z05 z2i):=⟨rfl,rfl,rfl,by decide +kernel,rfl,by decide +kernel,by decide +kernel⟩
theorem z96 (T:Top K mg "part_times" z2i ["one","other"])(B:Blt mg)(D_part_of:Def P w K mg base "part_of" 2 ["top","bottom"] (z7z K)):Def P w K mg base "part_times" 3 ["one","other"] (zei K (fun a b c d=>a*c)):=by
 refine z0x (k:=2) T z90 (fun vs H Q E h=>?_) (fun f cdv A outer s H vs Q E hr h=>?_)
 ·obtain⟨x,y,a,b,c,d,rfl,_⟩:=h
  rfl
 obtain⟨x,y,a,b,c,d,rfl,hx,hy,hb,hd,ba,bb,bc,bd,q⟩:=h
 obtain⟨p,rfl,hp0⟩:=is_frac.mp hx
 obtain⟨r,rfl,hr0⟩:=is_frac.mp hy
 have hp:SqT K H p _:=SqT.of hp0
 have hr':SqT K H r _:=SqT.of hr0
 refine⟨_,(z07 (z0m (z0b D_part_of (hr.mono (by decide)) (z00 (z0j z1y (z0h z0i (cv 0) z04 (fun _ _=>rfl)) (z0h z0i (cv 1) z04 (fun _ _=>rfl))) (z00 (z0j z1y (z0h z0i (cv 0) z04 (fun _ _=>rfl)) (z0h z0i (cv 1) z04 (fun _ _=>rfl))) z03))))),?_⟩
 refine rd (σ':=[some (.ref p),some (.ref r)]) rfl ?_
 walk_at "run"
 exact⟨_,_,.inr hp,rfl,_,_,.inr hr',rfl,z4c ba bc (by decide),_,_,.inr hp,rfl,_,_,.inr hr',rfl,z4c bb bd (by decide),_,_,rfl,y4n hb hd,(bb.mul bd).le (by decide),q⟩
abbrev z1i:Stmt:=top 24
theorem sc_overtime_above:FnScope ["loads","level","above"] ["loads","level"] (z05 z1i):=⟨rfl,rfl,rfl,by decide +kernel,rfl,by decide +kernel,by decide +kernel⟩
theorem z65 (T:Top K mg "overtime_above" z1i ["loads","level"])(B:Blt mg)(D_is_below:Def P w K mg base "is_below" 1 ["one","other"] (z6b K))(D_sum_of_parts:Def P w K mg base "sum_of_parts" 3 ["parts"] (z73 K))(D_part_times:Def P w K mg base "part_times" 3 ["one","other"] (zei K (fun a b c d=>a*c))):Def P w K mg base "overtime_above" 4 ["loads","level"] (z9i K):=by
 refine z0x (k:=3) T sc_overtime_above (fun vs H Q E h=>?_) (fun f cdv A outer s H vs Q E hr h=>?_)
 ·obtain⟨x,y,ps,Xs,M,lv,L,rfl,_⟩:=h
  rfl
 obtain⟨x,y,ps,Xs,M,lv,L,rfl,hx,hy,f,few2,fL,bL,q⟩:=h
 obtain⟨a,xs,rfl,ha,al⟩:=is_list.mp hx
 have hlen:xs.length=ps.length:=by simpa using z0k al
 have few:ps.length<30:=by rw [f.len]; omega
 have fl:=f.len
 obtain⟨c1,c2⟩:=fL.bd f.hM f.bM (bL.le (by decide))
 refine⟨_,(z02 (zgx (N:=["load","level"]) (fr:=[1]) 2 1 sc_overtime_above.nd (z1k (cv 0)) (fun C hN=>by exact pgC ((z0f 0 hN)) (by walk_at "c")) (fun C hN=>by exact ptC ((z2l (z0b D_is_below (hr.mono (by decide)) (z00 (cv 1) (z00 (cv 0) z03))))) (by walk_at "c")) (fun C hN=>by exact peC ((cv 0)) (by walk_at "c")))
   (z07 (z0m (z0b D_sum_of_parts (hr.mono (by decide)) (z00 (z0j z1p (cv 2) (z1l (z00 (z0b D_part_times (hr.mono (by decide)) (z00 (cv 1) (z00 (z22 (z00 (z9k z5k (z3m z24 B.len y17 (z00 (cv 2) z03))) (z00 z04 z03))) z03))) z03))) z03))))),?_⟩
 refine rd (σ':=[some (.ref a),some y,none]) rfl ?_
 walk_at "run"
 refine .inl ⟨⟨_,SqL.of ha⟩,cgo (σ':=[none,some y]) rfl ?_⟩
 refine z1q (xs:=xs) (fun i ys H'=>H'=H∧ys.length≤i∧∃rs Rs,IsAll K H ys (rs.map fun p=>z2m p.1 p.2)∧FVs M rs Rs∧Rs.sum - (Rs.length:Int)*L=PM.ab (Xs.take i) L) ⟨rfl,y07 _,[],[],z0t,FVs.nil f.hM f.bM,by simp [PM.ab]⟩ (z0l (by omega)) ?_ ?_ ?_
 ·rintro i ys H' _ ⟨rfl,hi,_⟩
  exact⟨SqL.of ha,hi⟩
 ·rintro i x ys H' hx' ⟨rfl,hi,rs,Rs,hys,fr,er⟩
  obtain⟨pp,b,hpp,rfl,hb⟩:=z34 al hx'
  have hix:=(y00.mp hx').1
  obtain⟨X,hX,fX,bX⟩:=f.get hpp
  obtain⟨b3,b4⟩:=fX.bd f.hM f.bM (bX.le (by decide))
  walk_at "run"
  refine⟨_,_,lv.1,lv.2,pp.1,pp.2,rfl,hy,is_frac.mpr ⟨b,rfl,hb⟩,c1.le (by decide),c2.le (by decide),b3.le (by decide),b4.le (by decide),?_⟩
  walk_at "run"
  rw [show decide (lv.1*pp.2<pp.1*lv.2)=decide (L<X) from decide_eq_decide.mpr (fL.lt f.hM fX)]
  have rl:rs.length=ys.length:=by have:=z0k hys; rw [y04] at this; exact this.symm
  have rl2:=fr.len
  refine z3j (fun c=>?_) (fun c=>?_)
  ·have c':=of_decide_eq_true c
   refine CNx.mk ⟨rfl,by rw [y09]; show _+1≤_; omega,rs ++ [pp],Rs ++ [X],?_,fr.snoc fX bX (by omega),?_⟩ hix
   ·rw [y0h]
    exact z1f hys (is_frac.mpr ⟨b,rfl,hb⟩)
   ·rw [z0g hX,zc4,if_pos c',z5f,y09,←er,show((Rs.length + [X].length:Nat):Int)=(Rs.length:Int)+1 by simp,y4l,Int.one_mul]
    omega
  ·have c':¬L<X:=fun z=>c (decide_eq_true z)
   refine CNx.mk ⟨rfl,by omega,rs,Rs,hys,fr,?_⟩ hix
   rw [z0g hX,zc4,if_neg c',y3d]
   exact er
 ·rintro ys H' ⟨rfl,hi,rs,Rs,hys,fr,er⟩ l hl
  rw [y05 (by omega)] at er
  have rl:rs.length=ys.length:=by have:=z0k hys; rw [y04] at this; exact this.symm
  have rl2:=fr.len
  have s1:=z06 hl (.lst ys)
  walk_at "run"
  refine⟨_,.inl (SqL.of z01),sz (by show 2≤1000; decide),fun p hp=>?_⟩
  have s2:=z06 hp (.tup [.int (-(ys.length:Int)),.int 1])
  have bk:Bd 10 (-(ys.length:Int)):=by
   show _<_
   have:(2:Nat)^10=1024:=by decide
   omega
  refine⟨_,_,lv.1,lv.2,-(ys.length:Int),1,rfl,Is.same (s1.trans s2) _ _ hy,is_frac.mpr ⟨p,rfl,z01⟩,by have:=fL.1.1; omega,by decide,c1.le (by decide),c2.le (by decide),bk.le (by decide),by show _<_; decide,fun u v v1 v2 v3 x1 H1 s3 hx1=>?_⟩
  have fu:=fL.times v1 v2 v3
  refine⟨sz (by show 1≤1000; decide),fun p2 hp2=>?_⟩
  have s4:=z06 hp2 (.lst [x1])
  refine⟨_,_,(s2.trans (s3.trans s4)) _ _ z01,z01,sz (by show ys.length+1≤1000; omega),fun p3 hp3=>?_⟩
  have s5:=z06 hp3 (.lst (ys ++ [x1]))
  have fs:=fr.snoc fu ((bk.mul bL).le (by decide)) (by omega)
  refine⟨_,_,_,M,rfl,is_list.mpr ⟨p3,_,rfl,z01,?_⟩,fs,fun r fr'=>?_⟩
  ·rw [y0h]
   exact z1f (IsAll.same (s1.trans (s2.trans (s3.trans (s4.trans s5)))) _ _ hys) (Is.same (s4.trans s5) _ _ hx1)
  ·rw [z5f,←rl,rl2,y5z,←y4v,er] at fr'
   intro v' H' s' hv'
   exact q r fr' _ _ ((s1.trans (s2.trans (s3.trans (s4.trans s5)))).trans s') hv'
abbrev z62:Stmt:=top 43
theorem sc_Lends:FnScope ["_law_loads","_law_least","_law_greatest","_law_load"] ["_law_loads"] (z05 z62):=⟨rfl,rfl,rfl,by decide +kernel,rfl,by decide +kernel,by decide +kernel⟩
theorem zhu (T:Top K mg "_law_ends" z62 ["_law_loads"])(B:Blt mg)(D_Lbelow:Def P w K mg base "_law_below" 1 ["_law_one","_law_other"] (z6b K)):Def P w K mg base "_law_ends" 2 ["_law_loads"] (zfm K):=by
 refine z0x (k:=1) T sc_Lends (fun vs H Q E h=>?_) (fun f cdv A outer s H vs Q E hr h=>?_)
 ·obtain⟨x,ps,Xs,M,rfl,_⟩:=h
  rfl
 obtain⟨x,ps,Xs,M,rfl,hx,f,x0,q⟩:=h
 obtain⟨a,xs,rfl,ha,al⟩:=is_list.mp hx
 have hlen:xs.length=ps.length:=by simpa using z0k al
 have few:=f.few
 have fl:=f.len
 have hps0:ps[0]?=some (ps[0]'(by omega)):=y01 _
 generalize ps[0]'(by omega)=p0 at hps0
 obtain⟨v0,hv0,iv0⟩:=z1x al (show(ps.map fun p=>z2m p.1 p.2)[0]?=some (z2m p0.1 p0.2) by rw [y0b,hps0]; rfl)
 obtain⟨X0,hX0,fX0,_⟩:=f.get hps0
 refine⟨_,(z02 (z0c 1 sc_Lends.nd (z0h z0i (cv 0) z04 (fun _ _=>rfl)))
   (z02 (z0c 2 sc_Lends.nd (z0h z0i (cv 0) z04 (fun _ _=>rfl)))
   (z02 (z23 (z1k (cv 0)) (z0f 3 sc_Lends.nd)
   (z02 (z5m (z2p (z2l (z0b D_Lbelow (hr.mono (by decide)) (z00 (cv 3) (z00 (cv 1) z03))))
    (z07 (z0c 1 sc_Lends.nd (cv 3)))
    z0z))
    (z07 (z2p (z2l (z0b D_Lbelow (hr.mono (by decide)) (z00 (cv 2) (z00 (cv 3) z03))))
    (z07 (z0c 2 sc_Lends.nd (cv 3)))
    z0z))))
   (z07 (z0m (z22 (z00 (cv 1) (z00 (cv 2) z03)))))))),?_⟩
 refine rd (σ':=[some (.ref a),none,none,none]) rfl ?_
 walk_at "run"
 refine⟨_,_,.inl (SqL.of ha),z1v (j:=0) hv0,_,_,.inl (SqL.of ha),z1v (j:=0) hv0,.inl ⟨⟨_,SqL.of ha⟩,?_⟩⟩
 refine z2f (xs:=xs) (fun i σ H'=>H'=H∧∃(v w:V) (r s:Int×Int) (A B:Int) (t:Option V),σ = [some (.ref a),some v,some w,t]∧Is K H v (z2m r.1 r.2)∧Is K H w (z2m s.1 s.2)∧FV M r A∧FV M s B∧A∈Xs∧B∈Xs∧∀X∈Xs.take i,A≤X∧X≤B) ⟨rfl,v0,v0,p0,p0,X0,X0,_,rfl,iv0,iv0,fX0,fX0,y03 hX0,y03 hX0,fun X hX=>(by simp at hX)⟩ ?_ ?_ ?_
 ·rintro i σ H' _ ⟨rfl,_⟩
  exact SqL.of ha
 ·rintro i x σ H' hx' ⟨rfl,v,w,r,s,A,B,t,rfl,iv,iw,fA,fB,hA,hB,hle⟩
  obtain⟨pp,b,hpp,rfl,hb⟩:=z34 al hx'
  have ib:Is K H' (.ref b) (z2m pp.1 pp.2):=is_frac.mpr ⟨b,rfl,hb⟩
  obtain⟨X,hX,fX,bX⟩:=f.get hpp
  obtain⟨b1,b2⟩:=fA.bd f.hM f.bM ((f.bX A hA).le (by decide))
  obtain⟨b3,b4⟩:=fX.bd f.hM f.bM (bX.le (by decide))
  obtain⟨b5,b6⟩:=fB.bd f.hM f.bM ((f.bX B hB).le (by decide))
  have mX:=y03 hX
  walk_at "run"
  refine⟨fun σ H2=>H2=H'∧∃(v:V) (r:Int×Int) (A':Int),σ = [some (.ref a),some v,some w,some (.ref b)]∧Is K H' v (z2m r.1 r.2)∧FV M r A'∧A'∈Xs∧A'≤A∧A'≤X,?_,?_⟩
  ·walk_at "run"
   refine⟨_,_,pp.1,pp.2,r.1,r.2,rfl,ib,iv,b3.le (by decide),b4.le (by decide),b1.le (by decide),b2.le (by decide),?_⟩
   walk_at "run"
   rw [show decide (pp.1*r.2<r.1*pp.2)=decide (X<A) from decide_eq_decide.mpr (fX.lt f.hM fA)]
   refine z3j (fun c=>?_) (fun c=>?_)
   ·have c':=of_decide_eq_true c
    exact⟨rfl,_,pp,X,rfl,ib,fX,mX,by omega,y23 _⟩
   ·have c':¬X<A:=fun z=>c (decide_eq_true z)
    exact⟨rfl,_,r,A,rfl,iv,fA,hA,y23 _,by omega⟩
  rintro σ H2 ⟨rfl,v,r,A',rfl,iv,fA,hA,l1,l2⟩
  walk_at "run"
  refine⟨_,_,s.1,s.2,pp.1,pp.2,rfl,iw,ib,b5.le (by decide),b6.le (by decide),b3.le (by decide),b4.le (by decide),?_⟩
  walk_at "run"
  rw [show decide (s.1*pp.2<pp.1*s.2)=decide (B<X) from decide_eq_decide.mpr (fB.lt f.hM fX),z0g hX]
  refine z3j (fun c=>?_) (fun c=>?_)
  ·have c':=of_decide_eq_true c
   refine⟨rfl,_,_,r,pp,A',X,_,rfl,iv,ib,fA,fX,hA,mX,fun Y hY=>?_⟩
   rcases y0u.mp hY with z | z
   ·have:=hle Y z
    omega
   ·rw [y0a.mp z]
    omega
  ·have c':¬B<X:=fun z=>c (decide_eq_true z)
   refine⟨rfl,_,_,r,s,A',B,_,rfl,iv,iw,fA,fB,hA,hB,fun Y hY=>?_⟩
   rcases y0u.mp hY with z | z
   ·have:=hle Y z
    omega
   ·rw [y0a.mp z]
    omega
 ·rintro σ H' ⟨rfl,v,w,r,s,A,B,t,rfl,iv,iw,fA,fB,hA,hB,hle⟩
  rw [y05 (by omega)] at hle
  walk_at "run"
  exact⟨sz (by show 2≤1000; decide),(q r s A B hA hB hle fA fB).new_tup (z1d iv (z3t iw))⟩
abbrev zet:Stmt:=top 44
theorem sc_law:FnScope ["_law_script","_law_works","_law_doers","_law_many","_law_loads","_law_other","_law_number","_law_levels","_law_load","_law_level","_law_due","_law_ends_here"] ["_law_script"] (z05 zet):=⟨rfl,rfl,rfl,by decide +kernel,rfl,by decide +kernel,by decide +kernel⟩
theorem zn4 {f:Addr}{fd:FuncData}(U:Fun K "law" "law" zet f fd)(B:Blt mg)(D_Lcrowd:Def P w K mg base "_law_crowd" 3 ["_law_script"] (zhh K))(D_loads_by:Def P w K mg base "loads_by" 12 ["works","doers","many"] (zhn K))(D_Lis_fraction:Def P w K mg base "_law_is_fraction" 2 ["_law_found"] (zcv K))(D_Lbear:Def P w K mg base "_law_bear" 4 ["_law_doers","_law_many","_law_shares"] (zjh K))(D_Ldrawn:Def P w K mg base "_law_drawn" 4 ["_law_script","_law_works","_law_doers"] (zgf K))(D_Ltotal:Def P w K mg base "_law_total" 4 ["_law_loads"] (z73 K))(D_Lmixed:Def P w K mg base "_law_mixed" 1 ["_law_cell","_law_k"] (z3i))(D_Lcell_at:Def P w K mg base "_law_cell_at" 1 ["_law_script","_law_k"] (z5j K))(D_Llowest:Def P w K mg base "_law_lowest" 2 ["_law_top","_law_bottom"] (z7z K))(D_Lover:Def P w K mg base "_law_over" 4 ["_law_loads","_law_level"] (z9i K))(D_Lbelow:Def P w K mg base "_law_below" 1 ["_law_one","_law_other"] (z6b K))(D_overtime_above:Def P w K mg base "overtime_above" 4 ["loads","level"] (z9i K))(D_Lends:Def P w K mg base "_law_ends" 2 ["_law_loads"] (zfm K)):FnOk P w K mg base CX0 13 f fd ["_law_script"] (zdu K):=by
 refine U.ok sc_law (fun vs H Q E h=>?_) (fun cdv A outer s H vs Q E hr h=>?_)
 ·obtain⟨a,ns,rfl,_⟩:=h
  rfl
 obtain⟨a,ns,rfl,hS,hlen,q⟩:=h
 refine⟨_,(z02 (z8x (z0b D_Lcrowd (hr.mono (by decide)) (z00 (cv 0) z03)) (zoa (z0f 1 sc_law.nd) (z0f 2 sc_law.nd) (z0f 3 sc_law.nd)))
   (z02 (z0c 4 sc_law.nd (z0b D_loads_by (hr.mono (by decide)) (z00 (zo6 zbh B.list z7b (z00 (cv 1) z03)) (z00 (z3o (N:=["_law_row_here"]) (fr:=[]) 1 (z1k (cv 2)) (fun C hN=>by exact pgC ((z0f 0 hN)) (by walk_at "c")) (fun C hN=>by exact peC ((zo6 zbh B.list z7b (z00 (cv 0) z03))) (by walk_at "c"))) (z00 (cv 3) z03)))))
   (z02 (z5m (z2p (z8f (z4m (z2l (z3m z26 B.isinstance z28 (z00 (cv 4) (z00 (zed B.list z7b) z03))))) (z8f (z0s zm4 (z3m z24 B.len y17 (z00 (cv 4) z03)) (cv 3) (z0o _)) (z7f (z0s (z9q hr) (z4i (N:=["_law_one"]) (fr:=[]) 1 (z1k (cv 4)) (fun C hN=>by exact pgC ((z0f 0 hN)) (by walk_at "c")) (fun C hN=>by exact ptC ((z4m (z2l (z0b D_Lis_fraction (hr.mono (by decide)) (z00 (cv 0) z03))))) (by walk_at "c")) (fun C hN=>by exact peC ((cv 0)) (by walk_at "c"))) (z1l z03) (z0o _))))).pt
   (z07 (z0m z9w))
   z0z))
   (z02 (z0c 5 sc_law.nd (z0b D_Lbear (hr.mono (by decide)) (z00 (cv 2) (z00 (cv 3) (z00 (z0b D_Ldrawn (hr.mono (by decide)) (z00 (cv 0) (z00 (cv 1) (z00 (cv 2) z03)))) z03)))))
   (z02 (z5m (z2p (z8f (z0s (z9q hr) (z0b D_Ltotal (hr.mono (by decide)) (z00 (cv 4) z03)) (z22 (z00 (z3m za2 B.sum zaq (z00 (cv 1) z03)) (z00 z04 z03))) (z0o _)) (z7f (z0s (z9q hr) (z0b D_Ltotal (hr.mono (by decide)) (z00 (cv 5) z03)) (z22 (z00 (z3m za2 B.sum zaq (z00 (cv 1) z03)) (z00 z04 z03))) (z0o _)))).pt
   (z07 (z0m z9w))
   z0z))
   (z02 (z0c 6 sc_law.nd (z0b D_Lmixed (hr.mono (by decide)) (z00 (z0b D_Lcell_at (hr.mono (by decide)) (z00 (cv 0) (z00 z04 z03))) (z00 z04 z03))))
   (z02 (z0c 7 sc_law.nd (z1l (z00 (z22 (z00 z04 (z00 z04 z03))) (z00 (z0b D_Llowest (hr.mono (by decide)) (z00 (z0j z1t (cv 6) z04) (z00 (z0j z1p z04 (z0j z1t (z0j z2n (cv 6) z04) z04)) z03))) z03))))
   (z02 (z23 (z1k (z0j z1p (cv 4) (cv 5))) (z0f 8 sc_law.nd)
   (z07 (z5m (z2p (z0s (zka hr) (cv 8) (cv 7) (by with_unfolding_all rfl))
    (z07 (z25 (z19 (cv 7) (z00 (cv 8) z03))))
    z0z))))
   (z02 (z23 (z1k (cv 7)) (z0f 9 sc_law.nd)
   (z02 (z0c 10 sc_law.nd (z1l (z00 (z0b D_Lover (hr.mono (by decide)) (z00 (cv 4) (z00 (cv 9) z03))) (z00 (z0b D_Lover (hr.mono (by decide)) (z00 (cv 5) (z00 (cv 9) z03))) z03))))
    (z02 (z5m (z2p (z2l (z0b D_Lbelow (hr.mono (by decide)) (z00 (z0h z0i (cv 10) z04 (fun _ _=>rfl)) (z00 (z0h z0i (cv 10) z04 (fun _ _=>rfl)) z03))))
    (z07 (z0m z9w))
    z0z))
    (z07 (z2p (z8f (z0s (z9q hr) (z0b D_overtime_above (hr.mono (by decide)) (z00 (cv 4) (z00 (cv 9) z03))) (z0h z0i (cv 10) z04 (fun _ _=>rfl)) (z0o _)) (z7f (z0s (z9q hr) (z0b D_overtime_above (hr.mono (by decide)) (z00 (cv 5) (z00 (cv 9) z03))) (z0h z0i (cv 10) z04 (fun _ _=>rfl)) (z0o _)))).pt
    (z07 (z0m z9w))
    z0z)))))
   (z02 (z0c 11 sc_law.nd (z1l (z00 (z0b D_Lends (hr.mono (by decide)) (z00 (cv 4) z03)) (z00 (z0b D_Lends (hr.mono (by decide)) (z00 (cv 5) z03)) z03))))
   (z07 (z0m (zab (zco (z0b D_Lbelow (hr.mono (by decide)) (z00 (z0h z0i (z0h z0i (cv 11) z04 (fun _ _=>rfl)) z04 (fun _ _=>rfl)) (z00 (z0h z0i (z0h z0i (cv 11) z04 (fun _ _=>rfl)) z04 (fun _ _=>rfl)) z03)))) (z7g (zco (z0b D_Lbelow (hr.mono (by decide)) (z00 (z0h z0i (z0h z0i (cv 11) z04 (fun _ _=>rfl)) z04 (fun _ _=>rfl)) (z00 (z0h z0i (z0h z0i (cv 11) z04 (fun _ _=>rfl)) z04 (fun _ _=>rfl)) z03)))))))))))))))))),?_⟩
 refine rd (σ':=[some (.ref a),none,none,none,none,none,none,none,none,none,none,none]) rfl ?_
 walk_at "run"
 refine⟨a,ns,rfl,hS,hlen,fun p aw ad ws drs many H1 cr s1 kp=>?_⟩
 walk_at "run"
 refine⟨_,_,_,SqT.of kp,?_⟩
 have few:=cr.few
 have h12:=cr.h12
 have h0:=cr.h0
 have dl:=cr.ask.len
 have dk:DoOk ws drs many:=cr.rows.doOk rfl (by omega)
 obtain⟨_,rs,e0,hda,hrs⟩:=is_list.mp cr.ask.d
 cases e0
 have rsl:rs.length=drs.length:=by rw [z0k hrs,y04]
 walk_at "run"
 refine⟨_,.inl (SqL.of cr.ask.w),fun bw hbw=>?_⟩
 have s2:=z06 hbw (.lst (ws.map V.int))
 have kw:=z01 (H:=H1) (a:=bw) (o:=.lst (ws.map V.int))
 generalize upd H1 bw (.lst (ws.map V.int))=H2 at s2 kw ⊢
 walk_at "run"
 refine .inl ⟨⟨_,SqL.of (s2 _ _ hda)⟩,?_⟩
 refine cgo (σ':=[none]) rfl ?_
 refine z1q (xs:=rs) (fun j ys H5=>Same H2 H5∧ys.length≤j∧IsAll K H5 ys ((drs.take j).map z3k)) ⟨Same.refl _,y07 _,z0t⟩ (z0l (by omega)) ?_ ?_ ?_
 ·rintro j ys H5 _ ⟨e4,yl,_⟩
  exact⟨SqL.of (e4 _ _ (s2 _ _ hda)),yl⟩
 ·rintro j x ys H5 hx ⟨e4,yl,al4⟩
  have hj:=(y00.mp hx).1
  have hSj:drs[j]?=some (drs[j]'(by omega)):=y01 (by omega)
  obtain⟨ra,hra1,hra⟩:=z5c hrs hSj
  rw [hx] at hra1
  cases hra1
  walk_at "run"
  refine z8c ⟨_,.inl (SqL.of (e4 _ _ (s2 _ _ hra))),fun l1 hl1=>?_⟩
  have f1:=z06 hl1 (.lst (z09 (drs[j]'(by omega))))
  refine CNx.mk ⟨e4.trans f1,by rw [y09]; show _+1≤_; omega,?_⟩ hj
  rw [z0g hSj,y0h]
  exact z1f (IsAll.same f1 _ _ al4) (is_list.mpr ⟨l1,_,rfl,z01,z2h _⟩)
 rintro ys H3 ⟨e3,yl,al3⟩ bd hbd
 rw [rsl,y05 (y07 _)] at al3
 have f3:=z06 hbd (.lst ys)
 have ask3:AsksC K (upd H3 bd (.lst ys)) bw bd ws drs:=⟨(e3.trans f3) _ _ kw,is_list.mpr ⟨bd,ys,rfl,z01,IsAll.same f3 _ _ al3⟩,cr.ask.len,cr.ask.few,cr.ask.row,cr.ask.pos,cr.ask.bd⟩
 have s3:=s2.trans (e3.trans f3)
 generalize upd H3 bd (.lst ys)=H4 at ask3 s3 ⊢
 clear e3 f3 al3 hbd s2 kw hbw
 walk_at "run"
 refine⟨bw,bd,many,ws,drs,rfl,ask3,dk,fun L ps qs co lo lk vf H5 s5 isf=>?_⟩
 have B:=zi5 co lo lk h0 dk.few ask3.pos ask3.bd ask3.few
 have E:=fun {M:Int} (hM:0<M) (hd:232792560∣M)=>zq2 co lo lk h0 dk.few ask3.pos ask3.bd ask3.few hM hd
 obtain⟨al,lv,rfl,hal,hlv⟩:=is_list.mp isf
 have lvl:lv.length=many:=by rw [z0k hlv,y04,B.len]
 have sH:=s3.trans s5
 replace cr:=cr.same sH
 have sS:=s1.trans sH
 clear co lo lk ask3 s3 s5 sH hda hrs kp s1
 refine⟨fun σ' H'=>Same H5 H'∧σ' = [some (.ref a),some (.ref aw),some (.ref ad),some (.int (many:Int)),some (.ref al),none,none,none,none,none,none,none],?_,?_⟩
 ·walk_at "run"
  rw [hal]
  walk_at "run"
  refine⟨by decide,z8b ⟨_,.inl (SqL.of hal),?_⟩⟩
  rw [lvl]
  refine zmn rfl (.inl ⟨⟨_,SqL.of hal⟩,?_⟩)
  refine cgo (σ':=[none]) rfl ?_
  refine z1q (xs:=lv) (fun j ys H'=>H'=H5∧ys = []) ⟨rfl,rfl⟩ (z0l (by omega)) ?_ ?_ ?_
  ·rintro j ys H' _ ⟨rfl,rfl⟩
   exact⟨SqL.of hal,y2j _⟩
  ·rintro j x ys H' hx ⟨rfl,rfl⟩
   have hj:=(y00.mp hx).1
   obtain⟨p,pa,hp,rfl,hpa⟩:=z34 hlv hx
   have ok:=B.ok p (y03 hp)
   walk_at "run"
   refine⟨_,p.1,p.2,rfl,is_frac.mpr ⟨pa,rfl,hpa⟩,ok.1.1,ok.1.2,?_⟩
   walk_at "run"
   exact z8b (CNx.mk ⟨rfl,rfl⟩ hj)
  rintro ys H' ⟨rfl,rfl⟩ l1 hl1
  have f1:=z06 hl1 (.lst [])
  refine⟨sz (by show 0≤1000; decide),fun l2 hl2=>?_⟩
  have f2:=z06 hl2 (.lst [])
  refine⟨.list [],.list [],is_list.mpr ⟨l1,[],rfl,f2 _ _ z01,z0t⟩,is_list.mpr ⟨l2,[],rfl,z01,z0t⟩,z5x [],z5x [],?_⟩
  rw [show PyData.eqv (.list []) (.list [])=true from z4r (z5x [])]
  exact z8b ⟨f1.trans f2,rfl⟩
 rintro σ' H9 ⟨s9,rfl⟩
 replace cr:=cr.same s9
 replace sS:=sS.trans s9
 replace isf:=Is.same s9 _ _ isf
 clear s9 hal hlv
 walk_at "run"
 refine⟨a,aw,ad,ns,ws,drs,many,rfl,sS.seq hS,cr,fun shs Md md0 md1 dl2 vs H6 s6 is6=>?_⟩
 obtain⟨as,sv,rfl,hsa,hsv⟩:=is_list.mp is6
 obtain⟨M,eM⟩:∃M:Int,M=232792560*Md:=⟨_,rfl⟩
 have hM:0<M:=by omega
 have bM:Bd 100 M:=by
  have b28:Bd 28 (232792560:Int):=by show _<_; decide
  rw [eM]
  exact(b28.mul md1).le (by decide)
 have hd:(232792560:Int)∣M:=by rw [eM]; exact y55 _ _
 have D:=dl2 M hM (by rw [eM]; exact y5e _ _)
 clear dl2 eM md0 md1
 replace sS:=sS.trans s6
 replace isf:=Is.same s6 _ _ isf
 have cr6:=cr.same s6
 refine⟨ad,as,many,drs,shs,M,rfl,cr6.ask.d,is6,D.shOk cr hM (bM.le (by decide)),by omega,fun oq ol ob vo H7 s7 iso=>?_⟩
 have bb:=zln D cr hM bM hd (E hM hd) B ol ob
 generalize (y0c many).map (xOf qs M)=Xs at bb
 generalize (y0c many).map (bag M (z2a drs shs))=Os at bb
 obtain⟨ol',ov,rfl,hol,hov⟩:=is_list.mp iso
 replace sS:=sS.trans s7
 replace isf:=Is.same s7 _ _ isf
 have aw7:=s7 _ _ cr6.ask.w
 have wbd:=cr6.ask.bd
 clear s6 s7 cr cr6 E D ob is6 hsa hsv
 have eqS:∀{p:Int×Int} {Ys:List Int},Ys.sum=ws.sum*M→FV M p Ys.sum→p=(ws.sum,1):=fun e f=>by rw [e] at f; exact f.whole hM
 refine⟨fun σ' H'=>Same H7 H'∧σ' = [some (.ref a),some (.ref aw),some (.ref ad),some (.int (many:Int)),some (.ref al),some (.ref ol'),none,none,none,none,none,none],?_,?_⟩
 ·walk_at "run"
  refine⟨_,qs,Xs,M,rfl,isf,bb.f1,fun p fp v8 H8 s8 is8=>?_⟩
  cases eqS bb.s1 fp
  refine⟨ws,SqL.of (s8 _ _ aw7),sz (by show 2≤1000; decide),fun p1 hp1=>?_⟩
  have f1:=z06 hp1 (.tup [.int ws.sum,.int 1])
  refine⟨_,_,Is.same f1 _ _ is8,is_frac.mpr ⟨p1,rfl,z01⟩,z2o _ _,z2o _ _,?_⟩
  rw [z4r (z2o _ _)]
  have s9:=s8.trans f1
  refine z8b ⟨_,oq,Os,M,rfl,Is.same s9 _ _ iso,bb.f2,fun p fp v10 H10 s10 is10=>?_⟩
  cases eqS bb.s2 fp
  refine⟨ws,SqL.of ((s9.trans s10) _ _ aw7),sz (by show 2≤1000; decide),fun p2 hp2=>?_⟩
  have f2:=z06 hp2 (.tup [.int ws.sum,.int 1])
  refine⟨_,_,Is.same f2 _ _ is10,is_frac.mpr ⟨p2,rfl,z01⟩,z2o _ _,z2o _ _,?_⟩
  rw [z4r (z2o _ _)]
  exact z8b ⟨s9.trans (s10.trans f2),rfl⟩
 rintro σ' H8 ⟨s8,rfl⟩
 replace sS:=sS.trans s8
 replace isf:=Is.same s8 _ _ isf
 replace iso:=Is.same s8 _ _ iso
 clear s8 aw7 eqS hol hov
 walk_at "run"
 refine⟨ns,sS.seq hS,by decide,by decide,by decide,fun z z0=>⟨sz (by show 2≤1000; decide),fun p0 hp0=>?_⟩⟩
 have f1:=z06 hp0 (.tup [.int 0,.int 1])
 have m0:=y1l z (show(1000:Int)≠0 by decide)
 have m1:=y1m z (show(0:Int)<1000 by decide)
 have m2:=y1l (z.fdiv 1000) (show(9:Int)≠0 by decide)
 have m3:=y1m (z.fdiv 1000) (show(0:Int)<9 by decide)
 refine⟨by decide,by decide,by decide +kernel,by decide,?_⟩
 generalize z % 1000=za at m0 m1 ⊢
 obtain⟨zb,hzb⟩:∃zb,zb=1+z.fdiv 1000 % 9:=⟨_,rfl⟩
 rw [←hzb]
 have zb1:1≤zb∧zb≤20:=by omega
 clear hzb m2 m3
 refine⟨za,zb,rfl,by omega,?_,fun n d d1 dg de v9 H9 s9 is9=>?_⟩
 ·have:Bd 5 zb:=by show zb.natAbs<2^5; omega
  exact this.le (by decide)
 have zd:zb∣M:=y36 (zk8 zb1.1 zb1.2) hd
 have fz:FV M (n,d) (za*(M / zb)):=FV.low de zb1.1 d1 dg (by
  have:=y4m zd
  have e:zb*(za*(M / zb))=za*(M / zb*zb):=by grind
  rw [e,this])
 have bz:Bd 1200 (za*(M / zb)):=by
  have b1:Bd 10 za:=by show za.natAbs<2^10; omega
  have b2:Bd 100 (M / zb):=by
   refine bM.of_le ?_
   have h1:0≤M / zb:=y3b (by omega) (by omega)
   have h2:M / zb≤M:=y47 _ (by omega)
   omega
  exact(b1.mul b2).le (by decide)
 obtain⟨pz,rfl,hpz⟩:=is_frac.mp is9
 refine⟨sz (by show 2≤1000; decide),fun ll hll=>?_⟩
 have f2:=z06 hll (.lst [.ref p0,.ref pz])
 have kl:=z01 (H:=H9) (a:=ll) (o:=.lst [.ref p0,.ref pz])
 obtain⟨_,lv,e0,hal,hlv⟩:=is_list.mp (Is.same (f1.trans s9) _ _ isf)
 cases e0
 have na:=z08 hal hll
 obtain⟨_,ov,e0,hol,hov⟩:=is_list.mp (Is.same (f1.trans s9) _ _ iso)
 cases e0
 have no:=z08 hol hll
 replace hal:=f2 _ _ hal
 replace hol:=f2 _ _ hol
 replace hlv:=IsAll.same f2 _ _ hlv
 replace hov:=IsAll.same f2 _ _ hov
 have al2:IsAll K H9 [.ref p0,.ref pz] ([((0:Int),(1:Int)),(n,d)].map fun p=>z2m p.1 p.2):=z1d (is_frac.mpr ⟨p0,rfl,s9 _ _ z01⟩) (z3t is9)
 have lvs0:∀p ∈ [((0:Int),(1:Int)),(n,d)],∃L,FV M p L∧Bd 1200 L:=fun p hp=>by
  rcases y0k.mp hp with rfl | hp
  ·exact⟨0,FV.zero,by show(0:Int).natAbs<_; exact y63 (by decide)⟩
  ·rw [y0a.mp hp]
   exact⟨_,fz,bz⟩
 have s12:=f1.trans (s9.trans f2)
 have al3:=IsAll.same f2 _ _ al2
 replace sS:=sS.trans s12
 replace isf:=Is.same s12 _ _ isf
 replace iso:=Is.same s12 _ _ iso
 generalize upd H9 ll (.lst [.ref p0,.ref pz])=H10 at kl al3 sS isf iso hal hol hlv hov ⊢
 generalize [((0:Int),(1:Int)),(n,d)]=lvs at al3 lvs0
 clear f1 f2 s9 s12 hp0 hll fz bz zd is9 hpz al2 de dg
 have lvl:lv.length=many:=by rw [z0k hlv,y04,B.len]
 have ovl:ov.length=many:=by rw [z0k hov,y04,ol]
 refine⟨_,_,hal,hol,sz (by omega),fun lc hlc=>?_⟩
 have f3:=z06 hlc (.lst (lv++ov))
 have kc:=z01 (H:=H10) (a:=lc) (o:=.lst (lv++ov))
 have ncl:lc≠ll:=fun z=>by rw [z,kl] at hlc; cases hlc
 replace kl:=f3 _ _ kl
 replace al3:=IsAll.same f3 _ _ al3
 replace sS:=sS.trans f3
 replace isf:=Is.same f3 _ _ isf
 replace iso:=Is.same f3 _ _ iso
 replace hlv:=IsAll.same f3 _ _ hlv
 replace hov:=IsAll.same f3 _ _ hov
 replace hal:=f3 _ _ hal
 replace hol:=f3 _ _ hol
 have isc:IsAll K (upd H10 lc (.lst (lv++ov))) (lv++ov) ((qs++oq).map fun p=>z2m p.1 p.2):=by rw [y0h]; exact z5q hlv hov
 generalize upd H10 lc (.lst (lv++ov))=H11 at kc kl al3 sS isf iso isc hlv hov hal hol ⊢
 clear f3 hlc
 have fok:∀p∈qs++oq,∃L,FV M p L∧Bd 1200 L:=fun p hp=>by
  rcases y0u.mp hp with z | z
  ·obtain⟨i,hi⟩:=y0f z
   obtain⟨X,hX,fX,_⟩:=bb.f1.get hi
   exact⟨X,fX,bb.b1 X (y03 hX)⟩
  ·obtain⟨i,hi⟩:=y0f z
   obtain⟨X,hX,fX,_⟩:=bb.f2.get hi
   exact⟨X,fX,bb.b2 X (y03 hX)⟩
 have g0:Grow K (del H11 ll) H11 ll [.ref p0,.ref pz] (lvs.map fun p=>z2m p.1 p.2):=⟨Same.refl _,kl,z41 kl al3⟩
 have kc0:del H11 ll lc=some (.lst (lv++ov)):=by rw [z4g ncl]; exact kc
 have isd:=z41 kl isc
 have lsl:lvs.length≤2:=by have:=z0k al3; rw [y04] at this; simp at this; omega
 refine .inl ⟨⟨_,SqL.of kc⟩,?_⟩
 refine z2f (xs:=lv++ov) (fun i σ' H'=>∃(t8:Option V) (vs:List V) (lvs:List (Int×Int)),σ' = [some (.ref a),some (.ref aw),some (.ref ad),some (.int (many:Int)),some (.ref al),some (.ref ol'),some (.int z),some (.ref ll),t8,none,none,none]∧Grow K (del H11 ll) H' ll vs (lvs.map fun p=>z2m p.1 p.2)∧lvs.length≤2+i∧∀p∈lvs,∃L,FV M p L∧Bd 1200 L) ⟨_,_,lvs,rfl,g0,lsl,lvs0⟩ ?_ ?_ ?_
 ·rintro i σ' H' _ ⟨t8,vs,lvs,rfl,g,_⟩
  exact SqL.of (g.same _ _ kc0)
 ·rintro i x σ' H' hx ⟨t8,vs,lvs,rfl,g,ll2,lok⟩
  obtain⟨p,pa,hp,rfl,hpa⟩:=z34 isd hx
  have hi:=(y00.mp hx).1
  rw [y09,lvl,ovl] at hi
  have vsl:vs.length=lvs.length:=by rw [z0k g.all,y04]
  have ip:Is K H' (.ref pa) (z2m p.1 p.2):=is_frac.mpr ⟨pa,rfl,g.same _ _ hpa⟩
  walk_at "run"
  refine⟨fun σ' H'=>∃(t8:Option V) (vs:List V) (lvs:List (Int×Int)),σ' = [some (.ref a),some (.ref aw),some (.ref ad),some (.int (many:Int)),some (.ref al),some (.ref ol'),some (.int z),some (.ref ll),t8,none,none,none]∧Grow K (del H11 ll) H' ll vs (lvs.map fun p=>z2m p.1 p.2)∧lvs.length≤2+(i+1)∧∀p∈lvs,∃L,FV M p L∧Bd 1200 L,?_,fun _ _ z=>z⟩
  walk_at "run"
  refine⟨z2m p.1 p.2,ll,vs,_,rfl,g.here,ip,IsAll.same del_sub _ _ g.all,z2o _ _,fun d hd'=>?_,?_⟩
  ·obtain⟨r,_,rfl⟩:=y22.mp hd'
   exact z2o _ _
  walk_at "run"
  refine z3j (fun _=>?_) (fun _=>⟨_,vs,lvs,rfl,g,by omega,lok⟩)
  refine⟨⟨_,g.here⟩,_,g.here,z0l (by omega),?_⟩
  refine⟨_,vs ++ [.ref pa],lvs ++ [p],rfl,?_,by rw [y09]; show _+1≤_; omega,fun r hr'=>?_⟩
  ·rw [y0h]
   exact g.push (z72 ip g.here)
  ·rcases y0u.mp hr' with z | z
   ·exact lok r z
   ·rw [y0a.mp z]
    exact fok p (y03 hp)
 rintro σ' H12 ⟨t8,vs,lvs,rfl,g,ll2,lok⟩
 have same11:Same (del H11 ll) H12:=g.same
 have isf2:Is K H12 (.ref al) (z56 qs):=Is.same same11 _ _ (is_list.mpr ⟨al,lv,rfl,by rw [z4g na]; exact hal,z41 kl hlv⟩)
 have iso2:Is K H12 (.ref ol') (z56 oq):=Is.same same11 _ _ (is_list.mpr ⟨ol',ov,rfl,by rw [z4g no]; exact hol,z41 kl hov⟩)
 have al12:=IsAll.same del_sub _ _ g.all
 have kl12:=g.here
 clear g isf iso kc kc0 isc isd hlv hov kl al3 g0 hal hol same11
 walk_at "run"
 refine .inl ⟨⟨_,SqL.of kl12⟩,?_⟩
 refine z2f (xs:=vs) (fun i σ' H'=>Same H12 H'∧∃t9 t10,σ' = [some (.ref a),some (.ref aw),some (.ref ad),some (.int (many:Int)),some (.ref al),some (.ref ol'),some (.int z),some (.ref ll),t8,t9,t10,none]) ⟨Same.refl _,_,_,rfl⟩ ?_ ?_ ?_
 ·rintro i σ' H' _ ⟨e1,_⟩
  exact SqL.of (e1 _ _ kl12)
 ·rintro i x σ' H' hx ⟨e1,t9,t10,rfl⟩
  obtain⟨p,pa,hp,rfl,hpa⟩:=z34 (IsAll.same e1 _ _ al12) hx
  obtain⟨L,fL,bL⟩:=lok p (y03 hp)
  have ip:Is K H' (.ref pa) (z2m p.1 p.2):=is_frac.mpr ⟨pa,rfl,hpa⟩
  have l20:Xs.length≤20:=by have:=bb.l12; omega
  have o20:Os.length≤20:=by rw [←bb.len]; exact l20
  have ba:∀{Ys:List Int},(∀X∈Ys,Bd 1200 X)→Ys.length≤20→Bd 1300 (PM.ab Ys L):=fun h hl=>(zm2 (fun x hx=>(h x hx).le (by decide)) bL (by omega)).le (by decide)
  walk_at "run"
  refine⟨_,_,qs,Xs,M,p,L,rfl,Is.same e1 _ _ isf2,ip,bb.f1,l20,fL,bL,fun u fu v13 H13 s13 is13=>?_⟩
  refine⟨_,_,oq,Os,M,p,L,rfl,Is.same (e1.trans s13) _ _ iso2,Is.same s13 _ _ ip,bb.f2,o20,fL,bL,fun v fv v14 H14 s14 is14=>?_⟩
  refine⟨sz (by show 2≤1000; decide),fun ld hld=>?_⟩
  have f5:=z06 hld (.lst [v13,v14])
  have kd:=z01 (H:=H14) (a:=ld) (o:=.lst [v13,v14])
  have e2:=e1.trans (s13.trans (s14.trans f5))
  have i13:=Is.same (s14.trans f5) _ _ is13
  have i14:=Is.same f5 _ _ is14
  have ip2:=Is.same (s13.trans (s14.trans f5)) _ _ ip
  generalize upd H14 ld (.lst [v13,v14])=H15 at kd e2 i13 i14 ip2 ⊢
  clear f5 hld s13 s14 is13 is14 ip e1
  obtain⟨bu1,bu2⟩:=fu.bd hM bb.f1.bM (ba bb.b1 l20)
  obtain⟨bv1,bv2⟩:=fv.bd hM bb.f1.bM (ba bb.b2 o20)
  refine⟨fun σ' H'=>H'=H15∧σ' = [some (.ref a),some (.ref aw),some (.ref ad),some (.int (many:Int)),some (.ref al),some (.ref ol'),some (.int z),some (.ref ll),t8,some (.ref pa),some (.ref ld),none],?_,?_⟩
  ·walk_at "run"
   refine⟨_,_,.inl (SqL.of kd),rfl,_,_,.inl (SqL.of kd),rfl,_,_,v.1,v.2,u.1,u.2,rfl,i14,i13,bv1.le (by decide),bv2.le (by decide),bu1.le (by decide),bu2.le (by decide),?_⟩
   walk_at "run"
   rw [decide_eq_false (fun z=>by have:=(fv.lt hM fu).mp z; have:=bb.ab L; omega)]
   exact z8b ⟨rfl,rfl⟩
  rintro σ' H' ⟨rfl,rfl⟩
  walk_at "run"
  refine⟨_,_,qs,Xs,M,p,L,rfl,Is.same e2 _ _ isf2,ip2,bb.f1,l20,fL,bL,fun u' fu' v16 H16 s16 is16=>?_⟩
  cases fu'.uniq hM fu
  refine⟨_,_,.inl (SqL.of (s16 _ _ kd)),rfl,_,_,is16,Is.same s16 _ _ i13,z2o _ _,z2o _ _,?_⟩
  rw [z4r (z2o _ _)]
  refine z8b ⟨_,_,oq,Os,M,p,L,rfl,Is.same (e2.trans s16) _ _ iso2,Is.same s16 _ _ ip2,bb.f2,o20,fL,bL,fun w fw v17 H17 s17 is17=>?_⟩
  cases fw.uniq hM fv
  refine⟨_,_,.inl (SqL.of ((s16.trans s17) _ _ kd)),rfl,_,_,is17,Is.same (s16.trans s17) _ _ i14,z2o _ _,z2o _ _,?_⟩
  rw [z4r (z2o _ _)]
  exact z8b ⟨e2.trans (s16.trans s17),_,_,rfl⟩
 rintro σ' H13 ⟨e1,t9,t10,rfl⟩
 walk_at "run"
 refine⟨_,qs,Xs,M,rfl,Is.same e1 _ _ isf2,bb.f1,bb.pos,fun lo1 hi1 A1 B1 hA1 hB1 le1 fA1 fB1 v14 H14 s14 is14=>?_⟩
 refine⟨_,oq,Os,M,rfl,Is.same (e1.trans s14) _ _ iso2,bb.f2,by rw [←bb.len]; exact bb.pos,fun lo2 hi2 A2 B2 hA2 hB2 le2 fA2 fB2 v15 H15 s15 is15=>?_⟩
 obtain⟨en1,en2⟩:=PM.ends_of bb.len (by rw [bb.s1,bb.s2]) bb.ab hA1 hB1 (fun y hy=>(le2 y hy).1) (fun y hy=>(le2 y hy).2)
 refine⟨sz (by show 2≤1000; decide),fun le hle=>?_⟩
 have f6:=z06 hle (.lst [v14,v15])
 have ke:=z01 (H:=H15) (a:=le) (o:=.lst [v14,v15])
 replace is14:=Is.same (s15.trans f6) _ _ is14
 replace is15:=Is.same f6 _ _ is15
 generalize upd H15 le (.lst [v14,v15])=H16 at ke is14 is15 ⊢
 obtain⟨t1,x1,rfl,ht1,hx1⟩:=is_tuple.mp is14
 obtain⟨t2,x2,rfl,ht2,hx2⟩:=is_tuple.mp is15
 obtain⟨u1,hu1,iu1⟩:=z1x hx1 (i:=0) (d:=z2m lo1.1 lo1.2) rfl
 obtain⟨u2,hu2,iu2⟩:=z1x hx1 (i:=1) (d:=z2m hi1.1 hi1.2) rfl
 obtain⟨w1,hw1,iw1⟩:=z1x hx2 (i:=0) (d:=z2m lo2.1 lo2.2) rfl
 obtain⟨w2,hw2,iw2⟩:=z1x hx2 (i:=1) (d:=z2m hi2.1 hi2.2) rfl
 have bq:∀{p:Int×Int} {X:Int},FV M p X→Bd 1200 X→Bd 100000 p.1∧Bd 100000 p.2:=fun f b=>by
  obtain⟨a1,a2⟩:=f.bd hM bb.f1.bM (b.le (by decide))
  exact⟨a1.le (by decide),a2.le (by decide)⟩
 have c1:=bq fA1 (bb.b1 A1 hA1)
 have c2:=bq fA2 (bb.b2 A2 hA2)
 have c3:=bq fB1 (bb.b1 B1 hB1)
 have c4:=bq fB2 (bb.b2 B2 hB2)
 have st1:=SqT.of (K:=K) ht1
 have st2:=SqT.of (K:=K) ht2
 refine⟨_,_,.inl (SqL.of ke),rfl,_,_,.inr st1,z1v (j:=0) hu1,_,_,.inl (SqL.of ke),rfl,_,_,.inr st2,z1v (j:=0) hw1,_,_,lo1.1,lo1.2,lo2.1,lo2.2,rfl,iu1,iw1,c1.1,c1.2,c2.1,c2.2,?_⟩
 walk_at "run"
 rw [decide_eq_false (fun z=>by have:=(fA1.lt hM fA2).mp z; omega)]
 refine z8c ⟨_,_,.inl (SqL.of ke),rfl,_,_,.inr st2,z1v (j:=1) hw2,_,_,.inl (SqL.of ke),rfl,_,_,.inr st1,z1v (j:=1) hu2,_,_,hi2.1,hi2.2,hi1.1,hi1.2,rfl,iw2,iu2,c4.1,c4.2,c3.1,c3.2,?_⟩
 walk_at "run"
 rw [decide_eq_false (fun z=>by have:=(fB2.lt hM fB1).mp z; omega)]
 exact q _
end
theorem all_mk {l:y4h}{w:World}{K:y02}{h:Heap}{mg:Str→Option Value}{fa f1 f2 f3 f4 f5 f6 f7 f8 f9 f10 f11 f12 f13 f14 f15 f16 f17 f18 f19 f20 f21 f22 f23 f24 f25 f26 f27 f28 f29 f30 f31 f32 f33 f34 f35 f36 f37 f38 f39 f40 f41 f42 f43 f44 f45 f46 f47 f48 f49 CPour:Addr}(X:K.In h)(G:h.Ns mainGlobals mg)(hfa:mg "law"=some (.ref fa))
  {od1 an1 od2 an2 od3 an3 od4 an4 od5 an5 od6 an6 od7 an7 od8 an8 od9 an9 od10 an10 od11 an11 od12 an12 od13 an13 od14 an14 od15 an15 od16 an16 od17 an17 od18 an18 od19 an19 od20 an20 od21 an21 od22 an22 od23 an23 od24 an24 od25 an25 od26 an26 od27 an27 od28 an28 od29 an29 od30 an30 od31 an31 od32 an32 od33 an33 od34 an34 od35 an35 od36 an36 od37 an37 od38 an38 od39 an39 od40 an40 od41 an41 od42 an42 od43 an43 od44 an44 od45 an45 od46 an46 od47 an47 od48 an48 od49 an49:Option Addr} {sl1 sl2 sl3 sl4 sl5 sl6 sl7 sl8 sl9 sl10 sl11 sl12 sl13 sl14 sl15 sl16 sl17 sl18 sl19 sl20 sl21 sl22 sl23 sl24 sl25 sl26 sl27 sl28 sl29 sl30 sl31 sl32 sl33 sl34 sl35 sl36 sl37 sl38 sl39 sl40 sl41 sl42 sl43 sl44 sl45 sl46 sl47 sl48 sl49:Array (Option Value)} {oc1 kV1 dc1 pm1 cd1 ct1 oc2 kV2 dc2 pm2 cd2 ct2 oc3 kV3 dc3 pm3 cd3 ct3 oc4 kV4 dc4 pm4 cd4 ct4 oc5 kV5 dc5 pm5 cd5 ct5 oc6 kV6 dc6 pm6 cd6 ct6 oc7 kV7 dc7 pm7 cd7 ct7 oc8 kV8 dc8 pm8 cd8 ct8 oc9 kV9 dc9 pm9 cd9 ct9 oc10 kV10 dc10 pm10 cd10 ct10 oc11 kV11 dc11 pm11 cd11 ct11 oc12 kV12 dc12 pm12 cd12 ct12 oc13 kV13 dc13 pm13 cd13 ct13 oc14 kV14 dc14 pm14 cd14 ct14 oc15 kV15 dc15 pm15 cd15 ct15 oc16 kV16 dc16 pm16 cd16 ct16 oc17 kV17 dc17 pm17 cd17 ct17 oc18 kV18 dc18 pm18 cd18 ct18 oc19 kV19 dc19 pm19 cd19 ct19 oc20 kV20 dc20 pm20 cd20 ct20 oc21 kV21 dc21 pm21 cd21 ct21 oc22 kV22 dc22 pm22 cd22 ct22 oc23 kV23 dc23 pm23 cd23 ct23 oc24 kV24 dc24 pm24 cd24 ct24 oc25 kV25 dc25 pm25 cd25 ct25 oc26 kV26 dc26 pm26 cd26 ct26 oc27 kV27 dc27 pm27 cd27 ct27 oc28 kV28 dc28 pm28 cd28 ct28 oc29 kV29 dc29 pm29 cd29 ct29 oc30 kV30 dc30 pm30 cd30 ct30 oc31 kV31 dc31 pm31 cd31 ct31 oc32 kV32 dc32 pm32 cd32 ct32 oc33 kV33 dc33 pm33 cd33 ct33 oc34 kV34 dc34 pm34 cd34 ct34 oc35 kV35 dc35 pm35 cd35 ct35 oc36 kV36 dc36 pm36 cd36 ct36 oc37 kV37 dc37 pm37 cd37 ct37 oc38 kV38 dc38 pm38 cd38 ct38 oc39 kV39 dc39 pm39 cd39 ct39 oc40 kV40 dc40 pm40 cd40 ct40 oc41 kV41 dc41 pm41 cd41 ct41 oc42 kV42 dc42 pm42 cd42 ct42 oc43 kV43 dc43 pm43 cd43 ct43 oc44 kV44 dc44 pm44 cd44 ct44 oc45 kV45 dc45 pm45 cd45 ct45 oc46 kV46 dc46 pm46 cd46 ct46 oc47 kV47 dc47 pm47 cd47 ct47 oc48 kV48 dc48 pm48 cd48 ct48 oc49 kV49 dc49 pm49 cd49 ct49:Value}
  (a1:y0j K mainGlobals "_law_mixed"=some (some (.ref f1))) (l1:K.lookup f1=some ⟨oc1,od1,.func (y0i "_law_mixed" "_law_mixed" (z0e z4t) (z0d z4t) (z05 z4t) .none kV1 dc1 pm1 an1 cd1 ct1),sl1⟩) (c1:y0g K cd1 "_law_mixed"=true) (k1:y0e K (.ref f1)=true)
  (a2:y0j K mainGlobals "_law_cell_at"=some (some (.ref f2))) (l2:K.lookup f2=some ⟨oc2,od2,.func (y0i "_law_cell_at" "_law_cell_at" (z0e z36) (z0d z36) (z05 z36) .none kV2 dc2 pm2 an2 cd2 ct2),sl2⟩) (c2:y0g K cd2 "_law_cell_at"=true) (k2:y0e K (.ref f2)=true)
  (a3:y0j K mainGlobals "_law_row"=some (some (.ref f3))) (l3:K.lookup f3=some ⟨oc3,od3,.func (y0i "_law_row" "_law_row" (z0e z8p) (z0d z8p) (z05 z8p) .none kV3 dc3 pm3 an3 cd3 ct3),sl3⟩) (c3:y0g K cd3 "_law_row"=true) (k3:y0e K (.ref f3)=true)
  (a4:y0j K mainGlobals "_law_work"=some (some (.ref f4))) (l4:K.lookup f4=some ⟨oc4,od4,.func (y0i "_law_work" "_law_work" (z0e z63) (z0d z63) (z05 z63) .none kV4 dc4 pm4 an4 cd4 ct4),sl4⟩) (c4:y0g K cd4 "_law_work"=true) (k4:y0e K (.ref f4)=true)
  (a5:y0j K mainGlobals "_law_crowd"=some (some (.ref f5))) (l5:K.lookup f5=some ⟨oc5,od5,.func (y0i "_law_crowd" "_law_crowd" (z0e z4o) (z0d z4o) (z05 z4o) .none kV5 dc5 pm5 an5 cd5 ct5),sl5⟩) (c5:y0g K cd5 "_law_crowd"=true) (k5:y0e K (.ref f5)=true)
  (a6:y0j K mainGlobals "pour_more"=some (some (.ref f6))) (l6:K.lookup f6=some ⟨oc6,od6,.func (y0i "pour_more" "pour_more" (z0e z2v) (z0d z2v) (z05 z2v) .none kV6 dc6 pm6 an6 cd6 ct6),sl6⟩) (c6:y0g K cd6 "pour_more"=true) (k6:y0e K (.ref f6)=true)
  (a7:y0j K mainGlobals "pour_all"=some (some (.ref f7))) (l7:K.lookup f7=some ⟨oc7,od7,.func (y0i "pour_all" "pour_all" (z0e z3c) (z0d z3c) (z05 z3c) .none kV7 dc7 pm7 an7 cd7 ct7),sl7⟩) (c7:y0g K cd7 "pour_all"=true) (k7:y0e K (.ref f7)=true)
  (a8:y0j K mainGlobals "ties_in"=some (some (.ref f8))) (l8:K.lookup f8=some ⟨oc8,od8,.func (y0i "ties_in" "ties_in" (z0e z3v) (z0d z3v) (z05 z3v) .none kV8 dc8 pm8 an8 cd8 ct8),sl8⟩) (c8:y0g K cd8 "ties_in"=true) (k8:y0e K (.ref f8)=true)
  (a9:y0j K mainGlobals "work_in"=some (some (.ref f9))) (l9:K.lookup f9=some ⟨oc9,od9,.func (y0i "work_in" "work_in" (z0e z46) (z0d z46) (z05 z46) .none kV9 dc9 pm9 an9 cd9 ct9),sl9⟩) (c9:y0g K cd9 "work_in"=true) (k9:y0e K (.ref f9)=true)
  (a10:y0j K mainGlobals "pour_in"=some (some (.ref f10))) (l10:K.lookup f10=some ⟨oc10,od10,.func (y0i "pour_in" "pour_in" (z0e z3w) (z0d z3w) (z05 z3w) .none kV10 dc10 pm10 an10 cd10 ct10),sl10⟩) (c10:y0g K cd10 "pour_in"=true) (k10:y0e K (.ref f10)=true)
  (a11:y0j K mainGlobals "chosen"=some (some (.ref f11))) (l11:K.lookup f11=some ⟨oc11,od11,.func (y0i "chosen" "chosen" (z0e z50) (z0d z50) (z05 z50) .none kV11 dc11 pm11 an11 cd11 ct11),sl11⟩) (c11:y0g K cd11 "chosen"=true) (k11:y0e K (.ref f11)=true)
  (a12:y0j K mainGlobals "crowds_by"=some (some (.ref f12))) (l12:K.lookup f12=some ⟨oc12,od12,.func (y0i "crowds_by" "crowds_by" (z0e z2y) (z0d z2y) (z05 z2y) .none kV12 dc12 pm12 an12 cd12 ct12),sl12⟩) (c12:y0g K cd12 "crowds_by"=true) (k12:y0e K (.ref f12)=true)
  (a13:y0j K mainGlobals "is_whole"=some (some (.ref f13))) (l13:K.lookup f13=some ⟨oc13,od13,.func (y0i "is_whole" "is_whole" (z0e z37) (z0d z37) (z05 z37) .none kV13 dc13 pm13 an13 cd13 ct13),sl13⟩) (c13:y0g K cd13 "is_whole"=true) (k13:y0e K (.ref f13)=true)
  (a14:y0j K mainGlobals "divisor_of"=some (some (.ref f14))) (l14:K.lookup f14=some ⟨oc14,od14,.func (y0i "divisor_of" "divisor_of" (z0e z2k) (z0d z2k) (z05 z2k) .none kV14 dc14 pm14 an14 cd14 ct14),sl14⟩) (c14:y0g K cd14 "divisor_of"=true) (k14:y0e K (.ref f14)=true)
  (a15:y0j K mainGlobals "part_of"=some (some (.ref f15))) (l15:K.lookup f15=some ⟨oc15,od15,.func (y0i "part_of" "part_of" (z0e z42) (z0d z42) (z05 z42) .none kV15 dc15 pm15 an15 cd15 ct15),sl15⟩) (c15:y0g K cd15 "part_of"=true) (k15:y0e K (.ref f15)=true)
  (a16:y0j K mainGlobals "layers_by"=some (some (.ref f16))) (l16:K.lookup f16=some ⟨oc16,od16,.func (y0i "layers_by" "layers_by" (z0e z2r) (z0d z2r) (z05 z2r) .none kV16 dc16 pm16 an16 cd16 ct16),sl16⟩) (c16:y0g K cd16 "layers_by"=true) (k16:y0e K (.ref f16)=true)
  (a17:y0j K mainGlobals "loads_by"=some (some (.ref f17))) (l17:K.lookup f17=some ⟨oc17,od17,.func (y0i "loads_by" "loads_by" (z0e z3a) (z0d z3a) (z05 z3a) .none kV17 dc17 pm17 an17 cd17 ct17),sl17⟩) (c17:y0g K cd17 "loads_by"=true) (k17:y0e K (.ref f17)=true)
  (a18:y0j K mainGlobals "_law_whole"=some (some (.ref f18))) (l18:K.lookup f18=some ⟨oc18,od18,.func (y0i "_law_whole" "_law_whole" (z0e z4x) (z0d z4x) (z05 z4x) .none kV18 dc18 pm18 an18 cd18 ct18),sl18⟩) (c18:y0g K cd18 "_law_whole"=true) (k18:y0e K (.ref f18)=true)
  (a19:y0j K mainGlobals "_law_divisor"=some (some (.ref f19))) (l19:K.lookup f19=some ⟨oc19,od19,.func (y0i "_law_divisor" "_law_divisor" (z0e z39) (z0d z39) (z05 z39) .none kV19 dc19 pm19 an19 cd19 ct19),sl19⟩) (c19:y0g K cd19 "_law_divisor"=true) (k19:y0e K (.ref f19)=true)
  (a20:y0j K mainGlobals "_law_is_fraction"=some (some (.ref f20))) (l20:K.lookup f20=some ⟨oc20,od20,.func (y0i "_law_is_fraction" "_law_is_fraction" (z0e z21) (z0d z21) (z05 z21) .none kV20 dc20 pm20 an20 cd20 ct20),sl20⟩) (c20:y0g K cd20 "_law_is_fraction"=true) (k20:y0e K (.ref f20)=true)
  (a21:y0j K mainGlobals "_law_lowest"=some (some (.ref f21))) (l21:K.lookup f21=some ⟨oc21,od21,.func (y0i "_law_lowest" "_law_lowest" (z0e z3z) (z0d z3z) (z05 z3z) .none kV21 dc21 pm21 an21 cd21 ct21),sl21⟩) (c21:y0g K cd21 "_law_lowest"=true) (k21:y0e K (.ref f21)=true)
  (a22:y0j K mainGlobals "_law_plus"=some (some (.ref f22))) (l22:K.lookup f22=some ⟨oc22,od22,.func (y0i "_law_plus" "_law_plus" (z0e z67) (z0d z67) (z05 z67) .none kV22 dc22 pm22 an22 cd22 ct22),sl22⟩) (c22:y0g K cd22 "_law_plus"=true) (k22:y0e K (.ref f22)=true)
  (a23:y0j K mainGlobals "_law_bear"=some (some (.ref f23))) (l23:K.lookup f23=some ⟨oc23,od23,.func (y0i "_law_bear" "_law_bear" (z0e z6h) (z0d z6h) (z05 z6h) .none kV23 dc23 pm23 an23 cd23 ct23),sl23⟩) (c23:y0g K cd23 "_law_bear"=true) (k23:y0e K (.ref f23)=true)
  (a24:y0j K mainGlobals "_law_far"=some (some (.ref f24))) (l24:K.lookup f24=some ⟨oc24,od24,.func (y0i "_law_far" "_law_far" (z0e z8h) (z0d z8h) (z05 z8h) .none kV24 dc24 pm24 an24 cd24 ct24),sl24⟩) (c24:y0g K cd24 "_law_far"=true) (k24:y0e K (.ref f24)=true)
  (a25:y0j K mainGlobals "_law_weights"=some (some (.ref f25))) (l25:K.lookup f25=some ⟨oc25,od25,.func (y0i "_law_weights" "_law_weights" (z0e z38) (z0d z38) (z05 z38) .none kV25 dc25 pm25 an25 cd25 ct25),sl25⟩) (c25:y0g K cd25 "_law_weights"=true) (k25:y0e K (.ref f25)=true)
  (a26:y0j K mainGlobals "_law_drawn"=some (some (.ref f26))) (l26:K.lookup f26=some ⟨oc26,od26,.func (y0i "_law_drawn" "_law_drawn" (z0e z4z) (z0d z4z) (z05 z4z) .none kV26 dc26 pm26 an26 cd26 ct26),sl26⟩) (c26:y0g K cd26 "_law_drawn"=true) (k26:y0e K (.ref f26)=true)
  (a27:y0j K mainGlobals "_law_total"=some (some (.ref f27))) (l27:K.lookup f27=some ⟨oc27,od27,.func (y0i "_law_total" "_law_total" (z0e z4w) (z0d z4w) (z05 z4w) .none kV27 dc27 pm27 an27 cd27 ct27),sl27⟩) (c27:y0g K cd27 "_law_total"=true) (k27:y0e K (.ref f27)=true)
  (a28:y0j K mainGlobals "_law_below"=some (some (.ref f28))) (l28:K.lookup f28=some ⟨oc28,od28,.func (y0i "_law_below" "_law_below" (z0e z4y) (z0d z4y) (z05 z4y) .none kV28 dc28 pm28 an28 cd28 ct28),sl28⟩) (c28:y0g K cd28 "_law_below"=true) (k28:y0e K (.ref f28)=true)
  (a29:y0j K mainGlobals "_law_over"=some (some (.ref f29))) (l29:K.lookup f29=some ⟨oc29,od29,.func (y0i "_law_over" "_law_over" (z0e z6f) (z0d z6f) (z05 z6f) .none kV29 dc29 pm29 an29 cd29 ct29),sl29⟩) (c29:y0g K cd29 "_law_over"=true) (k29:y0e K (.ref f29)=true)
  (a30:y0j K mainGlobals "is_below"=some (some (.ref f30))) (l30:K.lookup f30=some ⟨oc30,od30,.func (y0i "is_below" "is_below" (z0e z3b) (z0d z3b) (z05 z3b) .none kV30 dc30 pm30 an30 cd30 ct30),sl30⟩) (c30:y0g K cd30 "is_below"=true) (k30:y0e K (.ref f30)=true)
  (a31:y0j K mainGlobals "plus_in_lowest"=some (some (.ref f31))) (l31:K.lookup f31=some ⟨oc31,od31,.func (y0i "plus_in_lowest" "plus_in_lowest" (z0e z1g) (z0d z1g) (z05 z1g) .none kV31 dc31 pm31 an31 cd31 ct31),sl31⟩) (c31:y0g K cd31 "plus_in_lowest"=true) (k31:y0e K (.ref f31)=true)
  (a32:y0j K mainGlobals "sum_of_parts"=some (some (.ref f32))) (l32:K.lookup f32=some ⟨oc32,od32,.func (y0i "sum_of_parts" "sum_of_parts" (z0e z20) (z0d z20) (z05 z20) .none kV32 dc32 pm32 an32 cd32 ct32),sl32⟩) (c32:y0g K cd32 "sum_of_parts"=true) (k32:y0e K (.ref f32)=true)
  (a33:y0j K mainGlobals "part_times"=some (some (.ref f33))) (l33:K.lookup f33=some ⟨oc33,od33,.func (y0i "part_times" "part_times" (z0e z2i) (z0d z2i) (z05 z2i) .none kV33 dc33 pm33 an33 cd33 ct33),sl33⟩) (c33:y0g K cd33 "part_times"=true) (k33:y0e K (.ref f33)=true)
  (a34:y0j K mainGlobals "overtime_above"=some (some (.ref f34))) (l34:K.lookup f34=some ⟨oc34,od34,.func (y0i "overtime_above" "overtime_above" (z0e z1i) (z0d z1i) (z05 z1i) .none kV34 dc34 pm34 an34 cd34 ct34),sl34⟩) (c34:y0g K cd34 "overtime_above"=true) (k34:y0e K (.ref f34)=true)
  (a35:y0j K mainGlobals "_law_ends"=some (some (.ref f35))) (l35:K.lookup f35=some ⟨oc35,od35,.func (y0i "_law_ends" "_law_ends" (z0e z62) (z0d z62) (z05 z62) .none kV35 dc35 pm35 an35 cd35 ct35),sl35⟩) (c35:y0g K cd35 "_law_ends"=true) (k35:y0e K (.ref f35)=true)
  (a36:y0j K mainGlobals "law"=some (some (.ref f36))) (l36:K.lookup f36=some ⟨oc36,od36,.func (y0i "law" "law" (z0e zet) (z0d zet) (z05 zet) .none kV36 dc36 pm36 an36 cd36 ct36),sl36⟩) (c36:y0g K cd36 "law"=true) (k36:y0e K (.ref f36)=true)
  (uPour:y0j K mainGlobals "Pour"=some (some (.ref CPour))) (p1Pour:y3o K CPour Str.empty=true) (p2Pour:y3z K CPour=true) (p3Pour:y4y K CPour=true) (p4Pour:y0w K (.ref CPour) "__setattr__"=some (some (.builtin "object.__setattr__"))) (p5Pour:y4g K CPour=true) (p6Pour:y0e K (.ref CPour)=true)
  (n_many_gives:y0w K (.ref CPour) "many_gives"=some none)
  (n_sent:y0w K (.ref CPour) "sent"=some none)
  (n_spare:y0w K (.ref CPour) "spare"=some none)
  (n_tie_ends:y0w K (.ref CPour) "tie_ends"=some none)
  (n_ties_at:y0w K (.ref CPour) "ties_at"=some none)
  (a37:y0w K (.ref CPour) "__init__"=some (some (.ref f37))) (l37:K.lookup f37=some ⟨oc37,od37,.func (y0i "__init__" "Pour.__init__" (z0e z2w) (z0d z2w) (z05 z2w) .none kV37 dc37 pm37 an37 cd37 ct37),sl37⟩) (c37:y0g K cd37 "Pour.__init__"=true) (k37:y0e K (.ref f37)=true) (i37:y1w K (.ref f37)=true)
  (a38:y0w K (.ref CPour) "gives_with_rest"=some (some (.ref f38))) (l38:K.lookup f38=some ⟨oc38,od38,.func (y0i "gives_with_rest" "Pour.gives_with_rest" (z0e z0r) (z0d z0r) (z05 z0r) .none kV38 dc38 pm38 an38 cd38 ct38),sl38⟩) (c38:y0g K cd38 "Pour.gives_with_rest"=true) (k38:y0e K (.ref f38)=true) (i38:y1w K (.ref f38)=true)
  (a39:y0w K (.ref CPour) "has_room"=some (some (.ref f39))) (l39:K.lookup f39=some ⟨oc39,od39,.func (y0i "has_room" "Pour.has_room" (z0e z1n) (z0d z1n) (z05 z1n) .none kV39 dc39 pm39 an39 cd39 ct39),sl39⟩) (c39:y0g K cd39 "Pour.has_room"=true) (k39:y0e K (.ref f39)=true) (i39:y1w K (.ref f39)=true)
  (a40:y0w K (.ref CPour) "far_end"=some (some (.ref f40))) (l40:K.lookup f40=some ⟨oc40,od40,.func (y0i "far_end" "Pour.far_end" (z0e z1z) (z0d z1z) (z05 z1z) .none kV40 dc40 pm40 an40 cd40 ct40),sl40⟩) (c40:y0g K cd40 "Pour.far_end"=true) (k40:y0e K (.ref f40)=true) (i40:y1w K (.ref f40)=true)
  (a41:y0w K (.ref CPour) "may_go"=some (some (.ref f41))) (l41:K.lookup f41=some ⟨oc41,od41,.func (y0i "may_go" "Pour.may_go" (z0e z27) (z0d z27) (z05 z27) .none kV41 dc41 pm41 an41 cd41 ct41),sl41⟩) (c41:y0g K cd41 "Pour.may_go"=true) (k41:y0e K (.ref f41)=true) (i41:y1w K (.ref f41)=true)
  (a42:y0w K (.ref CPour) "row_behind"=some (some (.ref f42))) (l42:K.lookup f42=some ⟨oc42,od42,.func (y0i "row_behind" "Pour.row_behind" (z0e z1b) (z0d z1b) (z05 z1b) .none kV42 dc42 pm42 an42 cd42 ct42),sl42⟩) (c42:y0g K cd42 "Pour.row_behind"=true) (k42:y0e K (.ref f42)=true) (i42:y1w K (.ref f42)=true)
  (a43:y0w K (.ref CPour) "steps_to_room"=some (some (.ref f43))) (l43:K.lookup f43=some ⟨oc43,od43,.func (y0i "steps_to_room" "Pour.steps_to_room" (z0e z0w) (z0d z0w) (z05 z0w) .none kV43 dc43 pm43 an43 cd43 ct43),sl43⟩) (c43:y0g K cd43 "Pour.steps_to_room"=true) (k43:y0e K (.ref f43)=true) (i43:y1w K (.ref f43)=true)
  (a44:y0w K (.ref CPour) "leads_on"=some (some (.ref f44))) (l44:K.lookup f44=some ⟨oc44,od44,.func (y0i "leads_on" "Pour.leads_on" (z0e z1s) (z0d z1s) (z05 z1s) .none kV44 dc44 pm44 an44 cd44 ct44),sl44⟩) (c44:y0g K cd44 "Pour.leads_on"=true) (k44:y0e K (.ref f44)=true) (i44:y1w K (.ref f44)=true)
  (a45:y0w K (.ref CPour) "skip_dead_ties"=some (some (.ref f45))) (l45:K.lookup f45=some ⟨oc45,od45,.func (y0i "skip_dead_ties" "Pour.skip_dead_ties" (z0e z0u) (z0d z0u) (z05 z0u) .none kV45 dc45 pm45 an45 cd45 ct45),sl45⟩) (c45:y0g K cd45 "Pour.skip_dead_ties"=true) (k45:y0e K (.ref f45)=true) (i45:y1w K (.ref f45)=true)
  (a46:y0w K (.ref CPour) "way_from"=some (some (.ref f46))) (l46:K.lookup f46=some ⟨oc46,od46,.func (y0i "way_from" "Pour.way_from" (z0e z1o) (z0d z1o) (z05 z1o) .none kV46 dc46 pm46 an46 cd46 ct46),sl46⟩) (c46:y0g K cd46 "Pour.way_from"=true) (k46:y0e K (.ref f46)=true) (i46:y1w K (.ref f46)=true)
  (a47:y0w K (.ref CPour) "send_along"=some (some (.ref f47))) (l47:K.lookup f47=some ⟨oc47,od47,.func (y0i "send_along" "Pour.send_along" (z0e z1c) (z0d z1c) (z05 z1c) .none kV47 dc47 pm47 an47 cd47 ct47),sl47⟩) (c47:y0g K cd47 "Pour.send_along"=true) (k47:y0e K (.ref f47)=true) (i47:y1w K (.ref f47)=true)
  (a48:y0w K (.ref CPour) "send_by_steps"=some (some (.ref f48))) (l48:K.lookup f48=some ⟨oc48,od48,.func (y0i "send_by_steps" "Pour.send_by_steps" (z0e z0v) (z0d z0v) (z05 z0v) .none kV48 dc48 pm48 an48 cd48 ct48),sl48⟩) (c48:y0g K cd48 "Pour.send_by_steps"=true) (k48:y0e K (.ref f48)=true) (i48:y1w K (.ref f48)=true)
  (a49:y0w K (.ref CPour) "fill"=some (some (.ref f49))) (l49:K.lookup f49=some ⟨oc49,od49,.func (y0i "fill" "Pour.fill" (z0e z2s) (z0d z2s) (z05 z2s) .none kV49 dc49 pm49 an49 cd49 ct49),sl49⟩) (c49:y0g K cd49 "Pour.fill"=true) (k49:y0e K (.ref f49)=true) (i49:y1w K (.ref f49)=true)
  (z1:y0j K mainGlobals "abs"=some none) (z2:y0j K mainGlobals "any"=some none) (z3:y0j K mainGlobals "bool"=some none) (z4:y0j K mainGlobals "dict"=some none) (z5:y0j K mainGlobals "enumerate"=some none) (z6:y0j K mainGlobals "int"=some none) (z7:y0j K mainGlobals "isinstance"=some none) (z8:y0j K mainGlobals "len"=some none) (z9:y0j K mainGlobals "list"=some none) (z10:y0j K mainGlobals "max"=some none) (z11:y0j K mainGlobals "min"=some none) (z12:y0j K mainGlobals "range"=some none) (z13:y0j K mainGlobals "reversed"=some none) (z14:y0j K mainGlobals "sorted"=some none) (z15:y0j K mainGlobals "str"=some none) (z16:y0j K mainGlobals "sum"=some none) (z17:y0j K mainGlobals "tuple"=some none) (z18:y0j K mainGlobals "zip"=some none) :
  ∃fd:FuncData,(∀(s:Shared) (v:Value),BindsTo s fd ⟨[v],[]⟩ [("_law_script",v)])∧∀base:Heap,K.In base→base.Ns mainGlobals mg→FnOk l.prog w K mg base CX0 13 fa fd ["_law_script"] (zdu K):=by
 have T_Lmixed:=z1a (st:=z4t) (ps:=["_law_cell","_law_k"]) X G a1 l1 c1 k1 fun _ _ _ _ _ _ us hl=>match us,hl with | [_,_],_=>rfl
 have T_Lcell_at:=z1a (st:=z36) (ps:=["_law_script","_law_k"]) X G a2 l2 c2 k2 fun _ _ _ _ _ _ us hl=>match us,hl with | [_,_],_=>rfl
 have T_Lrow:=z1a (st:=z8p) (ps:=["_law_cell","_law_many","_law_thin"]) X G a3 l3 c3 k3 fun _ _ _ _ _ _ us hl=>match us,hl with | [_,_,_],_=>rfl
 have T_Lwork:=z1a (st:=z63) (ps:=["_law_cell"]) X G a4 l4 c4 k4 fun _ _ _ _ _ _ us hl=>match us,hl with | [_],_=>rfl
 have T_Lcrowd:=z1a (st:=z4o) (ps:=["_law_script"]) X G a5 l5 c5 k5 fun _ _ _ _ _ _ us hl=>match us,hl with | [_],_=>rfl
 have T_pour_more:=z1a (st:=z2v) (ps:=["gives","takes","ties","sent"]) X G a6 l6 c6 k6 fun _ _ _ _ _ _ us hl=>match us,hl with | [_,_,_,_],_=>rfl
 have T_pour_all:=z1a (st:=z3c) (ps:=["gives","takes","ties"]) X G a7 l7 c7 k7 fun _ _ _ _ _ _ us hl=>match us,hl with | [_,_,_],_=>rfl
 have T_ties_in:=z1a (st:=z3v) (ps:=["doers","crowd"]) X G a8 l8 c8 k8 fun _ _ _ _ _ _ us hl=>match us,hl with | [_,_],_=>rfl
 have T_work_in:=z1a (st:=z46) (ps:=["works","crowd"]) X G a9 l9 c9 k9 fun _ _ _ _ _ _ us hl=>match us,hl with | [_,_],_=>rfl
 have T_pour_in:=z1a (st:=z3w) (ps:=["works","doers","crowd"]) X G a10 l10 c10 k10 fun _ _ _ _ _ _ us hl=>match us,hl with | [_,_,_],_=>rfl
 have T_chosen:=z1a (st:=z50) (ps:=["things","marks","wanted"]) X G a11 l11 c11 k11 fun _ _ _ _ _ _ us hl=>match us,hl with | [_,_,_],_=>rfl
 have T_crowds_by:=z1a (st:=z2y) (ps:=["works","doers","many"]) X G a12 l12 c12 k12 fun _ _ _ _ _ _ us hl=>match us,hl with | [_,_,_],_=>rfl
 have T_is_whole:=z1a (st:=z37) (ps:=["thing"]) X G a13 l13 c13 k13 fun _ _ _ _ _ _ us hl=>match us,hl with | [_],_=>rfl
 have T_divisor_of:=z1a (st:=z2k) (ps:=["one","other"]) X G a14 l14 c14 k14 fun _ _ _ _ _ _ us hl=>match us,hl with | [_,_],_=>rfl
 have T_part_of:=z1a (st:=z42) (ps:=["top","bottom"]) X G a15 l15 c15 k15 fun _ _ _ _ _ _ us hl=>match us,hl with | [_,_],_=>rfl
 have T_layers_by:=z1a (st:=z2r) (ps:=["works","doers","many"]) X G a16 l16 c16 k16 fun _ _ _ _ _ _ us hl=>match us,hl with | [_,_,_],_=>rfl
 have T_loads_by:=z1a (st:=z3a) (ps:=["works","doers","many"]) X G a17 l17 c17 k17 fun _ _ _ _ _ _ us hl=>match us,hl with | [_,_,_],_=>rfl
 have T_Lwhole:=z1a (st:=z4x) (ps:=["_law_found"]) X G a18 l18 c18 k18 fun _ _ _ _ _ _ us hl=>match us,hl with | [_],_=>rfl
 have T_Ldivisor:=z1a (st:=z39) (ps:=["_law_one","_law_other"]) X G a19 l19 c19 k19 fun _ _ _ _ _ _ us hl=>match us,hl with | [_,_],_=>rfl
 have T_Lis_fraction:=z1a (st:=z21) (ps:=["_law_found"]) X G a20 l20 c20 k20 fun _ _ _ _ _ _ us hl=>match us,hl with | [_],_=>rfl
 have T_Llowest:=z1a (st:=z3z) (ps:=["_law_top","_law_bottom"]) X G a21 l21 c21 k21 fun _ _ _ _ _ _ us hl=>match us,hl with | [_,_],_=>rfl
 have T_Lplus:=z1a (st:=z67) (ps:=["_law_one","_law_other"]) X G a22 l22 c22 k22 fun _ _ _ _ _ _ us hl=>match us,hl with | [_,_],_=>rfl
 have T_Lbear:=z1a (st:=z6h) (ps:=["_law_doers","_law_many","_law_shares"]) X G a23 l23 c23 k23 fun _ _ _ _ _ _ us hl=>match us,hl with | [_,_,_],_=>rfl
 have T_Lfar:=z1a (st:=z8h) (ps:=["_law_script","_law_at","_law_k"]) X G a24 l24 c24 k24 fun _ _ _ _ _ _ us hl=>match us,hl with | [_,_,_],_=>rfl
 have T_Lweights:=z1a (st:=z38) (ps:=["_law_script","_law_at","_law_many"]) X G a25 l25 c25 k25 fun _ _ _ _ _ _ us hl=>match us,hl with | [_,_,_],_=>rfl
 have T_Ldrawn:=z1a (st:=z4z) (ps:=["_law_script","_law_works","_law_doers"]) X G a26 l26 c26 k26 fun _ _ _ _ _ _ us hl=>match us,hl with | [_,_,_],_=>rfl
 have T_Ltotal:=z1a (st:=z4w) (ps:=["_law_loads"]) X G a27 l27 c27 k27 fun _ _ _ _ _ _ us hl=>match us,hl with | [_],_=>rfl
 have T_Lbelow:=z1a (st:=z4y) (ps:=["_law_one","_law_other"]) X G a28 l28 c28 k28 fun _ _ _ _ _ _ us hl=>match us,hl with | [_,_],_=>rfl
 have T_Lover:=z1a (st:=z6f) (ps:=["_law_loads","_law_level"]) X G a29 l29 c29 k29 fun _ _ _ _ _ _ us hl=>match us,hl with | [_,_],_=>rfl
 have T_is_below:=z1a (st:=z3b) (ps:=["one","other"]) X G a30 l30 c30 k30 fun _ _ _ _ _ _ us hl=>match us,hl with | [_,_],_=>rfl
 have T_plus_in_lowest:=z1a (st:=z1g) (ps:=["one","other"]) X G a31 l31 c31 k31 fun _ _ _ _ _ _ us hl=>match us,hl with | [_,_],_=>rfl
 have T_sum_of_parts:=z1a (st:=z20) (ps:=["parts"]) X G a32 l32 c32 k32 fun _ _ _ _ _ _ us hl=>match us,hl with | [_],_=>rfl
 have T_part_times:=z1a (st:=z2i) (ps:=["one","other"]) X G a33 l33 c33 k33 fun _ _ _ _ _ _ us hl=>match us,hl with | [_,_],_=>rfl
 have T_overtime_above:=z1a (st:=z1i) (ps:=["loads","level"]) X G a34 l34 c34 k34 fun _ _ _ _ _ _ us hl=>match us,hl with | [_,_],_=>rfl
 have T_Lends:=z1a (st:=z62) (ps:=["_law_loads"]) X G a35 l35 c35 k35 fun _ _ _ _ _ _ us hl=>match us,hl with | [_],_=>rfl
 have clPour:Cls K CPour:=⟨p1Pour,p2Pour,p3Pour,p4Pour⟩
 have F:FldsPour K CPour:=⟨⟨clPour,n_many_gives⟩,⟨clPour,n_sent⟩,⟨clPour,n_spare⟩,⟨clPour,n_tie_ends⟩,⟨clPour,n_ties_at⟩⟩
 have T_Pour_init:MTop K CPour "__init__" "Pour.__init__" z2w ["self","gives","takes","ties","sent"]:=⟨⟨f37,_,z1j l37 c37 k37,(z1j l37 c37 k37).binds fun _ _ _ _ _ _ us hl=>match us,hl with | [_,_,_,_,_],_=>rfl,⟨a37,i37,k37⟩⟩,clPour⟩
 have T_Pour_gives_with_rest:MTop K CPour "gives_with_rest" "Pour.gives_with_rest" z0r ["self"]:=⟨⟨f38,_,z1j l38 c38 k38,(z1j l38 c38 k38).binds fun _ _ _ _ _ _ us hl=>match us,hl with | [_],_=>rfl,⟨a38,i38,k38⟩⟩,clPour⟩
 have T_Pour_has_room:MTop K CPour "has_room" "Pour.has_room" z1n ["self","ends"]:=⟨⟨f39,_,z1j l39 c39 k39,(z1j l39 c39 k39).binds fun _ _ _ _ _ _ us hl=>match us,hl with | [_,_],_=>rfl,⟨a39,i39,k39⟩⟩,clPour⟩
 have T_Pour_far_end:MTop K CPour "far_end" "Pour.far_end" z1z ["self","end","tie"]:=⟨⟨f40,_,z1j l40 c40 k40,(z1j l40 c40 k40).binds fun _ _ _ _ _ _ us hl=>match us,hl with | [_,_,_],_=>rfl,⟨a40,i40,k40⟩⟩,clPour⟩
 have T_Pour_may_go:MTop K CPour "may_go" "Pour.may_go" z27 ["self","end","tie"]:=⟨⟨f41,_,z1j l41 c41 k41,(z1j l41 c41 k41).binds fun _ _ _ _ _ _ us hl=>match us,hl with | [_,_,_],_=>rfl,⟨a41,i41,k41⟩⟩,clPour⟩
 have T_Pour_row_behind:MTop K CPour "row_behind" "Pour.row_behind" z1b ["self","row","steps"]:=⟨⟨f42,_,z1j l42 c42 k42,(z1j l42 c42 k42).binds fun _ _ _ _ _ _ us hl=>match us,hl with | [_,_,_],_=>rfl,⟨a42,i42,k42⟩⟩,clPour⟩
 have T_Pour_steps_to_room:MTop K CPour "steps_to_room" "Pour.steps_to_room" z0w ["self"]:=⟨⟨f43,_,z1j l43 c43 k43,(z1j l43 c43 k43).binds fun _ _ _ _ _ _ us hl=>match us,hl with | [_],_=>rfl,⟨a43,i43,k43⟩⟩,clPour⟩
 have T_Pour_leads_on:MTop K CPour "leads_on" "Pour.leads_on" z1s ["self","end","tie","steps"]:=⟨⟨f44,_,z1j l44 c44 k44,(z1j l44 c44 k44).binds fun _ _ _ _ _ _ us hl=>match us,hl with | [_,_,_,_],_=>rfl,⟨a44,i44,k44⟩⟩,clPour⟩
 have T_Pour_skip_dead_ties:MTop K CPour "skip_dead_ties" "Pour.skip_dead_ties" z0u ["self","end","steps","tried"]:=⟨⟨f45,_,z1j l45 c45 k45,(z1j l45 c45 k45).binds fun _ _ _ _ _ _ us hl=>match us,hl with | [_,_,_,_],_=>rfl,⟨a45,i45,k45⟩⟩,clPour⟩
 have T_Pour_way_from:MTop K CPour "way_from" "Pour.way_from" z1o ["self","give","steps","tried"]:=⟨⟨f46,_,z1j l46 c46 k46,(z1j l46 c46 k46).binds fun _ _ _ _ _ _ us hl=>match us,hl with | [_,_,_,_],_=>rfl,⟨a46,i46,k46⟩⟩,clPour⟩
 have T_Pour_send_along:MTop K CPour "send_along" "Pour.send_along" z1c ["self","give","way"]:=⟨⟨f47,_,z1j l47 c47 k47,(z1j l47 c47 k47).binds fun _ _ _ _ _ _ us hl=>match us,hl with | [_,_,_],_=>rfl,⟨a47,i47,k47⟩⟩,clPour⟩
 have T_Pour_send_by_steps:MTop K CPour "send_by_steps" "Pour.send_by_steps" z0v ["self","steps"]:=⟨⟨f48,_,z1j l48 c48 k48,(z1j l48 c48 k48).binds fun _ _ _ _ _ _ us hl=>match us,hl with | [_,_],_=>rfl,⟨a48,i48,k48⟩⟩,clPour⟩
 have T_Pour_fill:MTop K CPour "fill" "Pour.fill" z2s ["self"]:=⟨⟨f49,_,z1j l49 c49 k49,(z1j l49 c49 k49).binds fun _ _ _ _ _ _ us hl=>match us,hl with | [_],_=>rfl,⟨a49,i49,k49⟩⟩,clPour⟩
 have B:Blt mg:=⟨y12 X G z1,y12 X G z2,y12 X G z3,y12 X G z4,y12 X G z5,y12 X G z6,y12 X G z7,y12 X G z8,y12 X G z9,y12 X G z10,y12 X G z11,y12 X G z12,y12 X G z13,y12 X G z14,y12 X G z15,y12 X G z16,y12 X G z17,y12 X G z18⟩
 refine znk X G hfa a36 l36 c36 k36 (fun s v=>.of_eq rfl) fun f fd U base=>?_
 have D_Lmixed:=zfv (P:=l.prog) (w:=w) (base:=base) T_Lmixed B
 have D_Lcell_at:=zb7 (P:=l.prog) (w:=w) (base:=base) T_Lcell_at B
 have D_Lrow:=zla (P:=l.prog) (w:=w) (base:=base) T_Lrow B D_Lmixed
 have D_Lwork:=ziu (P:=l.prog) (w:=w) (base:=base) T_Lwork B D_Lmixed
 have D_Lcrowd:=zg1 (P:=l.prog) (w:=w) (base:=base) T_Lcrowd B D_Lmixed D_Lcell_at D_Lrow D_Lwork
 have D_Pour_init:=z9u (P:=l.prog) (w:=w) (base:=base) (mg:=mg) T_Pour_init B F
 have D_Pour_init:CDef l.prog w K mg base "Pour" CPour 1 ["self","gives","takes","ties","sent"] (zfd K CPour):=zku D_Pour_init p5Pour p6Pour (y65 X G uPour)
 have D_Pour_gives_with_rest:=z47 (P:=l.prog) (w:=w) (base:=base) (mg:=mg) T_Pour_gives_with_rest B F
 have D_Pour_has_room:=z6v (P:=l.prog) (w:=w) (base:=base) (mg:=mg) T_Pour_has_room B F
 have D_Pour_far_end:=z7s (P:=l.prog) (w:=w) (base:=base) (mg:=mg) T_Pour_far_end B F
 have D_Pour_may_go:=z89 (P:=l.prog) (w:=w) (base:=base) (mg:=mg) T_Pour_may_go B F
 have D_Pour_row_behind:=z5h (P:=l.prog) (w:=w) (base:=base) (mg:=mg) T_Pour_row_behind B F D_Pour_far_end D_Pour_may_go
 have D_Pour_steps_to_room:=z4k (P:=l.prog) (w:=w) (base:=base) (mg:=mg) T_Pour_steps_to_room B F D_Pour_gives_with_rest D_Pour_has_room D_Pour_row_behind
 have D_Pour_leads_on:=z6w (P:=l.prog) (w:=w) (base:=base) (mg:=mg) T_Pour_leads_on B D_Pour_may_go D_Pour_far_end
 have D_Pour_skip_dead_ties:=z4e (P:=l.prog) (w:=w) (base:=base) (mg:=mg) T_Pour_skip_dead_ties B F D_Pour_leads_on
 have D_Pour_way_from:=z70 (P:=l.prog) (w:=w) (base:=base) (mg:=mg) T_Pour_way_from B F D_Pour_has_room D_Pour_skip_dead_ties D_Pour_far_end
 have D_Pour_send_along:=z5t (P:=l.prog) (w:=w) (base:=base) (mg:=mg) T_Pour_send_along B F
 have D_Pour_send_by_steps:=z4h (P:=l.prog) (w:=w) (base:=base) (mg:=mg) T_Pour_send_by_steps B F D_Pour_gives_with_rest D_Pour_way_from D_Pour_send_along
 have D_Pour_fill:=z9p (P:=l.prog) (w:=w) (base:=base) (mg:=mg) T_Pour_fill B D_Pour_steps_to_room D_Pour_has_room D_Pour_send_by_steps
 have D_pour_more:=za3 (P:=l.prog) (w:=w) (base:=base) T_pour_more B F D_Pour_init D_Pour_fill
 have D_pour_all:=zbr (P:=l.prog) (w:=w) (base:=base) T_pour_all B D_pour_more
 have D_ties_in:=zdo (P:=l.prog) (w:=w) (base:=base) T_ties_in B
 have D_work_in:=zea (P:=l.prog) (w:=w) (base:=base) T_work_in B
 have D_pour_in:=zeb (P:=l.prog) (w:=w) (base:=base) T_pour_in B D_pour_all D_ties_in D_work_in
 have D_chosen:=zga (P:=l.prog) (w:=w) (base:=base) T_chosen B
 have D_crowds_by:=zay (P:=l.prog) (w:=w) (base:=base) T_crowds_by B D_pour_in D_chosen
 have D_is_whole:=zbb (P:=l.prog) (w:=w) (base:=base) T_is_whole B
 have D_divisor_of:=z93 (P:=l.prog) (w:=w) (base:=base) T_divisor_of B
 have D_part_of:=zdn (P:=l.prog) (w:=w) (base:=base) T_part_of B D_is_whole D_divisor_of
 have D_layers_by:=zat (P:=l.prog) (w:=w) (base:=base) T_layers_by B D_crowds_by D_part_of D_work_in
 have D_loads_by:=zcb (P:=l.prog) (w:=w) (base:=base) T_loads_by B D_layers_by
 have D_Lwhole:=zfp (P:=l.prog) (w:=w) (base:=base) T_Lwhole B
 have D_Ldivisor:=zbw (P:=l.prog) (w:=w) (base:=base) T_Ldivisor B
 have D_Lis_fraction:=z88 (P:=l.prog) (w:=w) (base:=base) T_Lis_fraction B D_Lwhole D_Ldivisor
 have D_Llowest:=ze4 (P:=l.prog) (w:=w) (base:=base) T_Llowest B D_Ldivisor
 have D_Lplus:=zid (P:=l.prog) (w:=w) (base:=base) T_Lplus B D_Llowest
 have D_Lbear:=zij (P:=l.prog) (w:=w) (base:=base) T_Lbear B D_Lplus
 have D_Lfar:=zkj (P:=l.prog) (w:=w) (base:=base) T_Lfar B D_Lmixed D_Lcell_at
 have D_Lweights:=zc7 (P:=l.prog) (w:=w) (base:=base) T_Lweights B D_Lfar D_Lmixed D_Lcell_at
 have D_Ldrawn:=zeu (P:=l.prog) (w:=w) (base:=base) T_Ldrawn B D_Lweights D_Llowest
 have D_Ltotal:=zf8 (P:=l.prog) (w:=w) (base:=base) T_Ltotal B D_Lplus
 have D_Lbelow:=zf0 (P:=l.prog) (w:=w) (base:=base) T_Lbelow B
 have D_Lover:=zix (P:=l.prog) (w:=w) (base:=base) T_Lover B D_Lbelow D_Lplus
 have D_is_below:=zbt (P:=l.prog) (w:=w) (base:=base) T_is_below B
 have D_plus_in_lowest:=z6e (P:=l.prog) (w:=w) (base:=base) T_plus_in_lowest B D_divisor_of
 have D_sum_of_parts:=z76 (P:=l.prog) (w:=w) (base:=base) T_sum_of_parts B D_plus_in_lowest
 have D_part_times:=z96 (P:=l.prog) (w:=w) (base:=base) T_part_times B D_part_of
 have D_overtime_above:=z65 (P:=l.prog) (w:=w) (base:=base) T_overtime_above B D_is_below D_sum_of_parts D_part_times
 have D_Lends:=zhu (P:=l.prog) (w:=w) (base:=base) T_Lends B D_Lbelow
 exact zn4 U B D_Lcrowd D_loads_by D_Lis_fraction D_Lbear D_Ldrawn D_Ltotal D_Lmixed D_Lcell_at D_Llowest D_Lover D_Lbelow D_overtime_above D_Lends
end My
namespace PySem.W.Fast
def tw5255373081859712998:=0
def tw11133602207155560409:=0
def tw15934077998822372692:=0
def tw10861649053568056502:=0
def tw16958847083393239182:=0
def tw2210137558674182986:=0
def tw13628162526320054741:=0
def tw12808848846363848790:=0
def tw9009628741229554021:=0
def tw11589327741211114521:=0
def tw12441860406111477958:=0
def tw9854153500455010224:=0
def tw15045695423220063262:=0
def tw15934270126114289511:=0
def tw10817512723573285385:=0
def tw11278612273488696841:=0
def tw890164001039525810:=0
def tw17764936106301104826:=0
def tw3874595636289878361:=0
def tw7735845010868483937:=0
def tw12594083461683397806:=0
def tw6398882751468326057:=0
def tw5973230006282969316:=0
def tw8518582585778304318:=0
def tw14747431363716947756:=0
def tw9020178471459703582:=0
def tw4884568526122081440:=0
def tw14457551994565333173:=0
def tw14341591526643662078:=0
def tw17043111501427691272:=0
def tw1131342109028834094:=0
def tw13366635726203622406:=0
def tw7660187977689833721:=0
def tw14666390709814545154:=0
def tw13881593017967503799:=0
def tw16523323647562849210:=0
def tw15576297052847799548:=0
def tw15269045920526098888:=0
def tw16981721555279591604:=0
def tw3837142561360745941:=0
def tw5813580575164622651:=0
def tw16097876646135651634:=0
def tw9799219029304028185:=0
def tw13881283926414256804:=0
def tw13123215265858087831:=0
def tw1823307486868615565:=0
def tw12131302166554549877:=0
def tw10855490704065582156:=0
def tw404466034835733226:=0
def tw4533739798085612854:=0
def tw16354490781500745572:=0
def tw8639004658970957392:=0
def tw2497314448530128653:=0
def tw9320892532570624688:=0
def tw12141738400289593283:=0
def tw9142653624873514571:=0
def tw7747852297409159148:=0
def tw14847515804443817114:=0
def tw2551715902601829269:=0
def tw15465580200465685651:=0
def tw16491160310179342004:=0
def tw14679282518547288062:=0
def tw14714066891366074590:=0
def tw15048718475387749221:=0
def tw9892401437380514242:=0
def tw242021929193853548:=0
def tw4651362507194425562:=0
def tw15163523026594482197:=0
def tw1876329940735469123:=0
def tw10669348018575536912:=0
def tw1505203101262816906:=0
def tw9411040713239488551:=0
def tw1810205953986962007:=0
def tw5209889476036021811:=0
def tw17830683431197934254:=0
def tw7948656002979862057:=0
def tw12111402634733510588:=0
def tw5217368169126675484:=0
def tw18042879601073234770:=0
def tw4730347849608845840:=0
def tw13332108888457108485:=0
def tw15618168500186368220:=0
def tw10094258403156136962:=0
def tw9479870007945185251:=0
def tw6722995552939722692:=0
def tw12922475814752750004:=0
def tw5884772349015359391:=0
def tw11930966264731995485:=0
def tw3095004685442843117:=0
def tw9439310768600806322:=0
def tw928068207290989963:=0
def tw3742812076167534185:=0
def tw1015480578177402037:=0
def tw4306985194256962835:=0
def tw6703898036536710692:=0
def tw17262204774217776633:=0
def tw12943946135121143101:=0
def tw14875909750682208324:=0
def tw16793710899667977082:=0
def tw11321856864044182845:=0
def tw13700341014723043129:=0
def tw7696303624060965578:=0
def tw4095254285559441615:=0
def tw2121689373827087157:=0
def tw9782921692819051824:=0
def tw2725438831561292175:=0
def tw15707457613853706849:=0
def tw11587148950336193770:=0
def tw302289275955503525:=0
def tw8825441304452364921:=0
def tw4098707967658773295:=0
def tw8403787421369582956:=0
def tw18299670848992992181:=0
def tw18395983160725950180:=0
def tw14429992241633745997:=0
def tw12955244223530246767:=0
def tw11816064465075800472:=0
def tw16953773233329850029:=0
def tw15448143062273370978:=0
def tw6906175317538279472:=0
def tw10917571155923877552:=0
def tw10031644911967708832:=0
def tw11237100504606188371:=0
def tw9658601591462020490:=0
def tw7133891003400203012:=0
def tw10410716753272665821:=0
def tw4648871188337334629:=0
def tw4991969804326991620:=0
def tw16063666323449386095:=0
def tw10555858818446739645:=0
def tw12616222364790121519:=0
def tw12734311410257982624:=0
def tw669844728930713605:=0
def tw3793085877106195172:=0
def tw818677719614648841:=0
def tw5477476142641468874:=0
def tw3434902820902775015:=0
def tw3509973653307241395:=0
def tw15457539397785379116:=0
def tw11732073151532136750:=0
def tw16106994324975515525:=0
def tw15236107921709846554:=0
def tw12025392329503072127:=0
def tw1826858492849888955:=0
def tw11537814533796546493:=0
def tw18268515059707851317:=0
def tw9003101191692297644:=0
def tw12078708164892501765:=0
def tw16885970031740958279:=0
def tw11904326280707914101:=0
def tw6321162283915510468:=0
def tw8106119005812107257:=0
def tw430403780767936752:=0
def tw7108934168197425903:=0
def tw15235694177881605775:=0
def tw6611196136251662346:=0
def tw14901137586709619533:=0
def tw10852852338937131113:=0
def tw10239440017553738996:=0
def tw7490355576265109920:=0
def tw13642437802985435994:=0
def tw11259334615261903908:=0
def tw13682827136490165053:=0
def tw9250665965091087110:=0
def tw3433821502113732810:=0
def tw5562311323014601776:=0
def tw5434460259775311260:=0
def tw5422198437777642875:=0
def tw14448397524714237008:=0
def tw17617681479506525933:=0
def tw17745092639152017787:=0
def tw15792088179761744310:=0
def tw18098645444569821597:=0
def tw3088382505263786610:=0
def tw14337366394974812400:=0
def tw13145429063577283554:=0
def tw8904404987603395895:=0
def tw634298846901017712:=0
def tw2826621561667091373:=0
def tw1148990932196381753:=0
def tw9038846019725360703:=0
def tw7478815050151880310:=0
def tw12985180784086222833:=0
def tw312020537311684893:=0
def tw7507059430255075521:=0
def tw14725291914006836647:=0
def tw4560966897119351316:=0
def tw16839759159633463940:=0
def tw14920170100295492804:=0
def tw5524327872392539009:=0
def tw13376941903562094599:=0
def tw660073725908613746:=0
def tw10162397917643548388:=0
def tw15865667585386675964:=0
def tw2836912642236650260:=0
def tw5726830589229952550:=0
def tw11408217213697074918:=0
def tw2066471729883791057:=0
def tw14761413363760164563:=0
def tw14149341067586127519:=0
def tw5193055634944683428:=0
def tw14177546935720842914:=0
def tw9712448357702715373:=0
def tw3400537746258514763:=0
def tw8332823805103769750:=0
def tw13481671427015930478:=0
def tw2391540629539478835:=0
def tw1913904804073746472:=0
def tw12184643485843847489:=0
def tw10750177225588255591:=0
def tw17282462145102423682:=0
def tw9339823403564113967:=0
def tw2995916657690328858:=0
def tw9491855052140432156:=0
def tw1933343560192477173:=0
def tw2378533096964595340:=0
def tw1735936302891145034:=0
def tw3641443224386769162:=0
def tw4861961907136812521:=0
def tw11950969681311886260:=0
def tw12209204038303665220:=0
def tw15591942311425181477:=0
def tw11642098998268855217:=0
def tw2964667808604056918:=0
def tw17651925228765799712:=0
def tw2821301839172096790:=0
def tw13325671761832806580:=0
def tw11689481891513906123:=0
def tw16830194903189206856:=0
def tw5036904272143268258:=0
def tw17249197627371408059:=0
def tw13356643395061047062:=0
def tw10136613119756778214:=0
def tw4820485821626766760:=0
def tw14203208859900558231:=0
def tw8185494056144654779:=0
def tw17707017462510097574:=0
def tw6560638510581901478:=0
def tw11973756601914506811:=0
def tw6034607918461458110:=0
def tw5069283859563985206:=0
def tw3911960812325796431:=0
def tw8657079326115481734:=0
def tw12238321804811759073:=0
def tw12897587921811863774:=0
def tw1042734569500431855:=0
def tw12458209109256486668:=0
def tw8775049605725175992:=0
def tw6952281157072514681:=0
def tw6959547126655464911:=0
end PySem.W.Fast
open PySem PySem.W PyProof.Rows
set_option maxRecDepth 100000 in
set_option maxHeartbeats 0 in
theorem PySem.Challenge.cw_evenyoke_k34_whole_none_is_better_holds : PySem.Challenge.rw_evenyoke_k34_whole_none_is_better.Holds := by
 w_on; o_law; k_head; (case hw=>w_witness2)
 k_fill
 refine L2.EX.walk (l:=PySem.Challenge.rw_evenyoke_k34_whole_none_is_better) 13 rfl rfl ⟨rfl,by decide,by decide⟩ (fun w h Y=>PySem.W.kIn_of Y) ?F
 case F =>
  intro w mg fa h KX G hmg
  refine' My.all_mk KX G hmg ?a1 ?l1 ?c1 ?k1 ?a2 ?l2 ?c2 ?k2 ?a3 ?l3 ?c3 ?k3 ?a4 ?l4 ?c4 ?k4 ?a5 ?l5 ?c5 ?k5 ?a6 ?l6 ?c6 ?k6 ?a7 ?l7 ?c7 ?k7 ?a8 ?l8 ?c8 ?k8 ?a9 ?l9 ?c9 ?k9 ?a10 ?l10 ?c10 ?k10 ?a11 ?l11 ?c11 ?k11 ?a12 ?l12 ?c12 ?k12 ?a13 ?l13 ?c13 ?k13 ?a14 ?l14 ?c14 ?k14 ?a15 ?l15 ?c15 ?k15 ?a16 ?l16 ?c16 ?k16 ?a17 ?l17 ?c17 ?k17 ?a18 ?l18 ?c18 ?k18 ?a19 ?l19 ?c19 ?k19 ?a20 ?l20 ?c20 ?k20 ?a21 ?l21 ?c21 ?k21 ?a22 ?l22 ?c22 ?k22 ?a23 ?l23 ?c23 ?k23 ?a24 ?l24 ?c24 ?k24 ?a25 ?l25 ?c25 ?k25 ?a26 ?l26 ?c26 ?k26 ?a27 ?l27 ?c27 ?k27 ?a28 ?l28 ?c28 ?k28 ?a29 ?l29 ?c29 ?k29 ?a30 ?l30 ?c30 ?k30 ?a31 ?l31 ?c31 ?k31 ?a32 ?l32 ?c32 ?k32 ?a33 ?l33 ?c33 ?k33 ?a34 ?l34 ?c34 ?k34 ?a35 ?l35 ?c35 ?k35 ?a36 ?l36 ?c36 ?k36 ?uPour ?p1Pour ?p2Pour ?p3Pour ?p4Pour ?p5Pour ?p6Pour ?n_many_gives ?n_sent ?n_spare ?n_tie_ends ?n_ties_at ?a37 ?l37 ?c37 ?k37 ?i37 ?a38 ?l38 ?c38 ?k38 ?i38 ?a39 ?l39 ?c39 ?k39 ?i39 ?a40 ?l40 ?c40 ?k40 ?i40 ?a41 ?l41 ?c41 ?k41 ?i41 ?a42 ?l42 ?c42 ?k42 ?i42 ?a43 ?l43 ?c43 ?k43 ?i43 ?a44 ?l44 ?c44 ?k44 ?i44 ?a45 ?l45 ?c45 ?k45 ?i45 ?a46 ?l46 ?c46 ?k46 ?i46 ?a47 ?l47 ?c47 ?k47 ?i47 ?a48 ?l48 ?c48 ?k48 ?i48 ?a49 ?l49 ?c49 ?k49 ?i49 ?z1 ?z2 ?z3 ?z4 ?z5 ?z6 ?z7 ?z8 ?z9 ?z10 ?z11 ?z12 ?z13 ?z14 ?z15 ?z16 ?z17 ?z18
  (case a1=>k_is)
  (case l1=>k_is)
  (case c1=>k_is)
  (case k1=>k_is)
  (case a2=>k_is)
  (case l2=>k_is)
  (case c2=>k_is)
  (case k2=>k_is)
  (case a3=>k_is)
  (case l3=>k_is)
  (case c3=>k_is)
  (case k3=>k_is)
  (case a4=>k_is)
  (case l4=>k_is)
  (case c4=>k_is)
  (case k4=>k_is)
  (case a5=>k_is)
  (case l5=>k_is)
  (case c5=>k_is)
  (case k5=>k_is)
  (case a6=>k_is)
  (case l6=>k_is)
  (case c6=>k_is)
  (case k6=>k_is)
  (case a7=>k_is)
  (case l7=>k_is)
  (case c7=>k_is)
  (case k7=>k_is)
  (case a8=>k_is)
  (case l8=>k_is)
  (case c8=>k_is)
  (case k8=>k_is)
  (case a9=>k_is)
  (case l9=>k_is)
  (case c9=>k_is)
  (case k9=>k_is)
  (case a10=>k_is)
  (case l10=>k_is)
  (case c10=>k_is)
  (case k10=>k_is)
  (case a11=>k_is)
  (case l11=>k_is)
  (case c11=>k_is)
  (case k11=>k_is)
  (case a12=>k_is)
  (case l12=>k_is)
  (case c12=>k_is)
  (case k12=>k_is)
  (case a13=>k_is)
  (case l13=>k_is)
  (case c13=>k_is)
  (case k13=>k_is)
  (case a14=>k_is)
  (case l14=>k_is)
  (case c14=>k_is)
  (case k14=>k_is)
  (case a15=>k_is)
  (case l15=>k_is)
  (case c15=>k_is)
  (case k15=>k_is)
  (case a16=>k_is)
  (case l16=>k_is)
  (case c16=>k_is)
  (case k16=>k_is)
  (case a17=>k_is)
  (case l17=>k_is)
  (case c17=>k_is)
  (case k17=>k_is)
  (case a18=>k_is)
  (case l18=>k_is)
  (case c18=>k_is)
  (case k18=>k_is)
  (case a19=>k_is)
  (case l19=>k_is)
  (case c19=>k_is)
  (case k19=>k_is)
  (case a20=>k_is)
  (case l20=>k_is)
  (case c20=>k_is)
  (case k20=>k_is)
  (case a21=>k_is)
  (case l21=>k_is)
  (case c21=>k_is)
  (case k21=>k_is)
  (case a22=>k_is)
  (case l22=>k_is)
  (case c22=>k_is)
  (case k22=>k_is)
  (case a23=>k_is)
  (case l23=>k_is)
  (case c23=>k_is)
  (case k23=>k_is)
  (case a24=>k_is)
  (case l24=>k_is)
  (case c24=>k_is)
  (case k24=>k_is)
  (case a25=>k_is)
  (case l25=>k_is)
  (case c25=>k_is)
  (case k25=>k_is)
  (case a26=>k_is)
  (case l26=>k_is)
  (case c26=>k_is)
  (case k26=>k_is)
  (case a27=>k_is)
  (case l27=>k_is)
  (case c27=>k_is)
  (case k27=>k_is)
  (case a28=>k_is)
  (case l28=>k_is)
  (case c28=>k_is)
  (case k28=>k_is)
  (case a29=>k_is)
  (case l29=>k_is)
  (case c29=>k_is)
  (case k29=>k_is)
  (case a30=>k_is)
  (case l30=>k_is)
  (case c30=>k_is)
  (case k30=>k_is)
  (case a31=>k_is)
  (case l31=>k_is)
  (case c31=>k_is)
  (case k31=>k_is)
  (case a32=>k_is)
  (case l32=>k_is)
  (case c32=>k_is)
  (case k32=>k_is)
  (case a33=>k_is)
  (case l33=>k_is)
  (case c33=>k_is)
  (case k33=>k_is)
  (case a34=>k_is)
  (case l34=>k_is)
  (case c34=>k_is)
  (case k34=>k_is)
  (case a35=>k_is)
  (case l35=>k_is)
  (case c35=>k_is)
  (case k35=>k_is)
  (case a36=>k_is)
  (case l36=>k_is)
  (case c36=>k_is)
  (case k36=>k_is)
  (case uPour=>k_is)
  (case p1Pour=>k_is)
  (case p2Pour=>k_is)
  (case p3Pour=>k_is)
  (case p4Pour=>k_is)
  (case p5Pour=>k_is)
  (case p6Pour=>k_is)
  (case n_many_gives=>k_is)
  (case n_sent=>k_is)
  (case n_spare=>k_is)
  (case n_tie_ends=>k_is)
  (case n_ties_at=>k_is)
  (case a37=>k_is)
  (case l37=>k_is)
  (case c37=>k_is)
  (case k37=>k_is)
  (case i37=>k_is)
  (case a38=>k_is)
  (case l38=>k_is)
  (case c38=>k_is)
  (case k38=>k_is)
  (case i38=>k_is)
  (case a39=>k_is)
  (case l39=>k_is)
  (case c39=>k_is)
  (case k39=>k_is)
  (case i39=>k_is)
  (case a40=>k_is)
  (case l40=>k_is)
  (case c40=>k_is)
  (case k40=>k_is)
  (case i40=>k_is)
  (case a41=>k_is)
  (case l41=>k_is)
  (case c41=>k_is)
  (case k41=>k_is)
  (case i41=>k_is)
  (case a42=>k_is)
  (case l42=>k_is)
  (case c42=>k_is)
  (case k42=>k_is)
  (case i42=>k_is)
  (case a43=>k_is)
  (case l43=>k_is)
  (case c43=>k_is)
  (case k43=>k_is)
  (case i43=>k_is)
  (case a44=>k_is)
  (case l44=>k_is)
  (case c44=>k_is)
  (case k44=>k_is)
  (case i44=>k_is)
  (case a45=>k_is)
  (case l45=>k_is)
  (case c45=>k_is)
  (case k45=>k_is)
  (case i45=>k_is)
  (case a46=>k_is)
  (case l46=>k_is)
  (case c46=>k_is)
  (case k46=>k_is)
  (case i46=>k_is)
  (case a47=>k_is)
  (case l47=>k_is)
  (case c47=>k_is)
  (case k47=>k_is)
  (case i47=>k_is)
  (case a48=>k_is)
  (case l48=>k_is)
  (case c48=>k_is)
  (case k48=>k_is)
  (case i48=>k_is)
  (case a49=>k_is)
  (case l49=>k_is)
  (case c49=>k_is)
  (case k49=>k_is)
  (case i49=>k_is)
  (case z1=>k_is)
  (case z2=>k_is)
  (case z3=>k_is)
  (case z4=>k_is)
  (case z5=>k_is)
  (case z6=>k_is)
  (case z7=>k_is)
  (case z8=>k_is)
  (case z9=>k_is)
  (case z10=>k_is)
  (case z11=>k_is)
  (case z12=>k_is)
  (case z13=>k_is)
  (case z14=>k_is)
  (case z15=>k_is)
  (case z16=>k_is)
  (case z17=>k_is)
  (case z18=>k_is)
