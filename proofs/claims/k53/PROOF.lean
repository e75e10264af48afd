import PyProof.Rows.All
import Wide.All
import OpenK.AllK
import Wide.FinOn
import Lean
import PyProof.EqAt
import PyProof.EqKinds
import PyProof.TupleCall
import KE.KRevIter
import PyProof.AutoListH
import KE.KDictOf
import PyProof.AttrMissHeap
import KE.KNestM
import KE.KLam
import PyProof.ListRange
import PyProof.Rows.SortWalk
import PyProof.SliceStr
import PyProof.SeqRoads
import KE.KItemsList
import KE.KDictList
import PyProof.StrWalks
import PyProof.DictUpdate
import PyProof.Rows.SetFrom
import PySem.Challenge.RW_evenyoke_k53_deeds_refused
open And renaming intro→y3e
open Array renaming getElem?_toList→y1r,getElem?_eq_some_iff→y2m,length_toList→y2r,toList_inj→y5n
open Bool renaming and_eq_true→y09,eq_iff_iff→y0d,false_ne_true→y0t,eq_false_iff→y2k,or_eq_true→y3c,false_eq_true→y3l,not_eq_true'→y3v,and_eq_true_iff→y4s,false_or→y58,false_and→y5s,false_xor→y5t,true_xor→y5w
open Int renaming fdiv_eq_ediv_of_nonneg→y3i,emod_lt_of_pos→y3o,emod_nonneg→y4o,negSucc→y50,toNat_natCast→y5e,le_refl→y5r,natAbs→y5v,toNat→y5x,sub→y5y
open List renaming getElem?_eq_some_iff→y01,getElem?_eq_getElem→y02,mem_append_left→y03,mem_append_right→y05,size_toArray→y07,mem_cons→y0a,replicate→y0b,mem_cons_of_mem→y0c,length_map→y0e,getElem?_map→y0g,getElem?_set_ne→y0h,length_append→y0k,rec→y0l,lookup_cons→y0m,getD_eq_getElem?_getD→y0n,mem_of_getElem?→y0o,mem_cons_self→y0p,getElem?_eq_none_iff→y0r,range→y0s,length_cons→y0u,mem_singleton→y0v,getElem?_append_left→y0x,getElem?_set_self→y0z,map_cons→y10,zip_cons_cons→y12,mem_map→y15,replicate_succ→y1d,mem_range'_1→y1f,nodup_cons→y1g,length_zip→y1h,filterMap_cons→y1l,any_cons→y1o,getElem?_zip_eq_some→y1p,length_singleton→y1q,all_eq_true→y1t,getElem?_of_mem→y1u,mem_append→y1y,append_nil→y1z,getElem?_append_right→y20,getElem_mem→y21,drop_eq_getElem_cons→y24,forIn_cons→y26,getElem?_replicate→y27,length_take→y2b,not_mem_nil→y2c,mem_filterMap→y2d,length_replicate→y2e,range'→y2f,find?_cons→y2g,flatten_cons→y2i,mem_range→y2o,lookup→y30,append_assoc→y32,contains_iff_mem→y35,dropLast_concat_getLast→y37,mem_filter→y38,of_mem_zip→y3a,nil_append→y3b,length_pos_iff→y3f,mem_map_of_mem→y3g,filterMap_map→y3k,getElem?_take_of_lt→y3u,all_cons→y3z,length_drop→y44,any_eq_true→y46,filter_cons→y47,cons_append→y48,drop_length→y49,mem_flatMap→y4a,range_succ_eq_map→y4c,drop_of_length_le→y4e,dropLast_eq_take→y4m,getElem?_eq_none→y4p,length_dropLast→y4q,getElem?_append→y4r,forIn_nil→y4v,map_congr_left→y4y,getElem?_drop→y56,foldl→y5b,getElem?_set→y5d,ext_getElem?→y5f,map_map→y5i,take_length→y5l,length_set→y5p,foldl_cons→y5q
open Nat renaming lt_of_lt_of_le→y04,ne_of_lt→y06,le_refl→y08,le_trans→y0j,blt_eq→y0y,eq_of_beq_eq_true→y13,le_of_ble_eq_true→y14,blt→y16,beq→y17,lt_succ_self→y1a,lt_irrefl→y1c,ble_eq→y1i,ne_of_gt→y1j,ble→y1m,le_of_lt→y22,lt_of_le_of_lt→y23,min_self→y2h,lt_succ_of_lt→y2l,le_add_right→y2q,zero_le→y2s,rec→y36,le_succ→y3d,le_of_eq→y3j,lt_or_ge→y3m,succ→y3n,beq_refl→y3p,not_lt_zero→y4j,lt_trans→y4k,lt_succ_of_le→y5g,lt_of_not_ge→y5m
open Option renaming map_eq_some_iff→y1k,isSome_map→y3w,getD_none→y5k
open Option.some renaming inj→y0q
open Or renaming inr→y45,inl→y4u
open PyProof.Rows renaming callWith_type1→y0f,slot_tuple_getitem→y25,callWith_builtin1→y33
open PySem renaming mem_of_lookup→y18,evalArgs_none→y4x,call→y5c,Within→y5h
open PySem.F renaming plainAttrs_list→y1w,plainAttrs_dict→y2a,slot_dict_get→y34,excBase_ValueError→y3h,slot_str_getitem→y3x,slot_dict_update→y3y,attr_ValueError→y40,args_dict_get_3→y42,slot_dict_items→y43,entry_dict_get→y4d,slot_dict_pop→y4l
open PySem.SeqAt renaming shaped→y57
open PySem.W renaming Frag→y00,findIn→y0i,keepIn→y0w,kia_one→y11,fnOf→y19,kitOne→y1b,emptyDict→y1e,codeIn→y1n,nsIn→y1s,mroIn→y1v,instObj→y1x,Looks→y28,mg_of→y29,clsIn→y2j,looks_findIn→y2n,plainGet→y2p,looks_mroIn→y2t,isFn→y2u,makesIn→y2v,kla_obj→y2w,callWith_K→y2x,cellsFrom_some→y2y,hasDictIn→y2z,specialIn→y31,plainGet_of→y39,lookIn→y3q,tabObj→y3r,methodObj→y3s,plainOver→y3t,excIn→y41,codeHdIn→y4b,mem_of_lookupK→y4f,takerIn→y4g,takesIn→y4h,OpenLaw→y4i,methodCall_KW→y4n,typeIn→y4t,hideAll_get→y4w,callWith_K0→y4z,codeHd_of_K→y51,of_hideAll→y52,kitx_tuple→y53,WalkO→y54,kitx_list→y59,kitx_dict→y5a,handedIn→y5j,hideAll→y5o,noTabs→y5u
open PySem.W.KF renaming slot_gs→y55
set_option compiler.extract_closed false
set_option Elab.async false
set_option linter.all false
set_option maxRecDepth 100000
namespace L2
open PySem PySem.Spec PyProof.Rows
abbrev Key:=Sum Int Str
def z7z:Key->Value->Bool
 | .inl k,v=>Value.isInt k v
 | .inr x,v=>Value.isStrOf x v
def zy5 (w:World):Key->Int
 | .inl k=>hashInt k
 | .inr x=>hashStr w x
theorem z0j:∀{k:Key} {v:Value},z7z k v=true->(∃i t,k=Sum.inl i/\v=Value.int i t)∨(∃x t,k=Sum.inr x/\v=Value.str x t)
 | .inl i,v,h=>by
  obtain⟨t,e⟩:=Value.isInt_shape (k:=i) (v:=v) h;exact .inl ⟨i,t,rfl,e⟩
 | .inr x,v,h=>by
  obtain⟨t,e⟩:=Value.isStrOf_shape (x:=x) (v:=v) h;exact .inr ⟨x,t,rfl,e⟩
theorem zax (i:Int)(t:Tok):z7z (.inl i) (.int i t)=true:=by simp[z7z,Value.isInt]
theorem zd8 (x:Str)(t:Tok):z7z (.inr x) (.str x t)=true:=by simp[z7z,Value.isStrOf]
theorem zm2 (a b:Int):decide ((Sum.inl a:Key)=Sum.inl b)=(a==b):=by
 by_cases e:a=b
 ·subst e;simp
 ·have h:¬(Sum.inl a:Key)=Sum.inl b:=λq=>e (Sum.inl.inj q);rw[decide_eq_false h];exact(beq_eq_false_iff_ne.mpr e).symm
theorem zlt (a b:Str):decide ((Sum.inr a:Key)=Sum.inr b)=decide (a=b):=by
 by_cases e:a=b
 ·subst e;simp
 ·have h:¬(Sum.inr a:Key)=Sum.inr b:=λq=>e (Sum.inr.inj q);rw[decide_eq_false h,decide_eq_false e]
theorem zpl (a:Int)(b:Str):decide ((Sum.inl a:Key)=Sum.inr b)=false:=decide_eq_false (λq=>nomatch q)
theorem zr2 (a:Str)(b:Int):decide ((Sum.inr a:Key)=Sum.inl b)=false:=decide_eq_false (λq=>nomatch q)
def z0d (prog:Program)(w:World):PySem.KeyKind prog w Key where
 is:=z7z
 hash:=zy5 w
 inj:=λv a b ha hb=>by
  rcases z0j ha with ⟨i,t,rfl,rfl⟩ | ⟨x,t,rfl,rfl⟩
  ·rcases z0j hb with ⟨j,u,rfl,e⟩ | ⟨y,u,rfl,e⟩
   ·injection e with e1 _;rw[e1]
   ·exact nomatch e
  ·rcases z0j hb with ⟨j,u,rfl,e⟩ | ⟨y,u,rfl,e⟩
   ·exact nomatch e
   ·injection e with e1 _;rw[e1]
 byValue:=λk v h=>by
  rcases z0j h with ⟨i,t,rfl,rfl⟩ | ⟨x,t,rfl,rfl⟩<;>rfl
 pyHash:=λhv h=>by
  rcases z0j hv with ⟨i,t,rfl,rfl⟩ | ⟨x,t,rfl,rfl⟩
  ·exact wpAny_pyHash_int h
  ·exact wpAny_pyHash_str h
 eqBool:=λhu hv h=>by
  rcases z0j hu with ⟨i,t,rfl,rfl⟩ | ⟨x,t,rfl,rfl⟩
  ·rcases z0j hv with ⟨j,u,rfl,rfl⟩ | ⟨y,u,rfl,rfl⟩
   ·rw[zm2] at h;exact wpAny_eqBool_int h
   ·rw[zpl] at h;exact SeqAt.EqAt.int_str i t y u _ _ _ _ h
  ·rcases z0j hv with ⟨j,u,rfl,rfl⟩ | ⟨y,u,rfl,rfl⟩
   ·rw[zr2] at h;exact SeqAt.EqAt.str_int x t j u _ _ _ _ h
   ·rw[zlt] at h;exact wpAny_eqBool_str h
 «strs»:=λk x t v h=>by
  rcases z0j h with ⟨i,u,rfl,e⟩ | ⟨y,u,rfl,e⟩
  ·exact nomatch e
  ·injection e with e1 _
   subst e1;cases v<;>rfl
theorem z7o (prog:Program)(w:World)(i:Int)(t:Tok):(z0d prog w).is (.inl i) (.int i t)=true:=zax i t
theorem z89 (prog:Program)(w:World)(x:Str)(t:Tok):(z0d prog w).is (.inr x) (.str x t)=true:=zd8 x t
end L2
namespace L2
open PySem PySem.Spec PyProof.Rows
inductive V where
 | non | bl (b:Bool) | int (i:Int) | str (x:Str) | byt (b:Array UInt8) | flt (b:UInt64) | ref (a:Addr) | ty (n:String)
 deriving DecidableEq
def RelV:V->Value->Prop
 | .non,u=>u=Value.none
 | .bl b,u=>u=Value.bool b
 | .int i,u=>∃t,u=Value.int i t
 | .str x,u=>∃t,u=Value.str x t
 | .byt b,u=>∃t,u=Value.bytes b t
 | .flt b,u=>∃t,u=Value.float b t
 | .ref a,u=>u=Value.ref a
 | .ty n,u=>u=Value.type n
abbrev Vals:List V->List Value->Prop:=Paired RelV
theorem Vals.length {xs:List V}{us:List Value}(r:Vals xs us):xs.length=us.length:=Paired.length r
theorem Vals.get:∀{xs:List V} {us:List Value} {i:Nat} {x:V},Vals xs us->xs[i]?=some x->∃u,us[i]?=some u/\RelV x u
 | _,_,_,_,.nil,e=>by simp at e
 | _,_,0,_,.cons r _,e=>by simp at e;subst e;exact⟨_,rfl,r⟩
 | _,_,i+1,x,.cons _ t,e=>by
  obtain⟨u,h1,h2⟩:=Vals.get (i:=i) (x:=x) t (by simpa using e)
  exact⟨u,by simpa using h1,h2⟩
theorem Vals.set {x:V}{u:Value}(r:RelV x u):∀{xs:List V} {us:List Value} (i:Nat),Vals xs us->Vals (xs.set i x) (us.set i u)
 | _,_,_,.nil=>.nil
 | _,_,0,.cons _ t=>.cons r t
 | _,_,i+1,.cons q t=>.cons q (Vals.set r i t)
theorem Vals.append:∀{xs ys:List V} {us ws:List Value},Vals xs us->Vals ys ws->Vals (xs++ys) (us++ws)
 | _,_,_,_,.nil,s=>s
 | _,_,_,_,.cons r t,s=>.cons r (Vals.append t s)
theorem Vals.take:∀{xs:List V} {us:List Value} (n:Nat),Vals xs us->Vals (xs.take n) (us.take n)
 | _,_,0,_=>.nil
 | _,_,_+1,.nil=>.nil
 | _,_,n+1,.cons r t=>.cons r (Vals.take n t)
theorem Vals.drop:∀{xs:List V} {us:List Value} (n:Nat),Vals xs us->Vals (xs.drop n) (us.drop n)
 | _,_,0,r=>r
 | _,_,_+1,.nil=>.nil
 | _,_,n+1,.cons _ t=>Vals.drop n t
theorem Vals.none_of:∀{xs:List V} {us:List Value} {i:Nat},Vals xs us->xs[i]?=none->us[i]?=none:=λ{xs us i} r e=>by
 have h1:=r.length;have h2:xs.length≤i:=y0r.mp e
 exact y0r.mpr (by omega)
def RelO:Option V->Option Value->Prop
 | some v,some u=>RelV v u
 | none,none=>True
 | _,_=>False
def KV {κ:Type}:List (κ×V)->List (κ×Value)->Prop:=Paired λ(p:κ×V) (q:κ×Value)=>p.1=q.1/\RelV p.2 q.2
def kV:Key->V
 | .inl i=>.int i
 | .inr x=>.str x
inductive HO where
 /-- a list -/
 | lst (xs:List V)
 /-- a tuple (never changes) -/
 | tup (xs:List V)
 /-- a dict whose keys are ints and texts;one whose keys are tuples of ints and texts (the empty one is both) -/
 | dK (kvs:List (Key×V)) | dT (kvs:List (List Key×V))
 /-- a set of ints: its members,its size -/
 | set (S:Int->Bool) (n:Nat)
 /-- an instance of the class at C,its dict at dx,its attributes -/
 | ins (C dx:Addr) (fs:List (Str×V))
 /-- the dict of the instance at x -/
 | own (x:Addr)
 /-- the dict of an exception -/
 | xd (fs:List (Str×V))
 /-- a bound method,f of x -/
 | met (f x:Addr)
 /-- a range object lo,lo+1,.. below hi -/
 | rng (lo hi:Int)
 /-- a thing that is known to the object (the script;a dict while a loop walks it): read,never written while it is so -/
 | frz (o:Obj) (u:HO)
 /-- a code object's table -/
 | tbl (ps:Array Value)
 /-- any other thing,by what is true of its one object (a def of one's own: SetO a S n:=HO.ext λh=>..) -/
 | ext (φ:Heap->Prop)
abbrev Hp:=Addr->Option HO
def upd (H:Hp)(a:Addr)(o:HO):Hp:=λb=>if b=a then some o else H b
theorem z08 {H:Hp}{a:Addr}{o:HO}:upd H a o a=some o:=by unfold upd;rw[if_pos rfl]
theorem z04 {H:Hp}{a b:Addr}{o:HO}(h:b≠a):upd H a o b=H b:=by unfold upd;rw[if_neg h]
theorem zjx {H:Hp}{a:Addr}{o u:HO}:upd (upd H a o) a u=upd H a u:=by
 funext b;unfold upd;split<;>rfl
theorem ztv {H:Hp}{a b:Addr}{o u:HO}(h:H a=some o)(h':H b=some u)(d:o≠u):a≠b:=by
 intro e;subst e;rw[h] at h';exact d (y0q h')
theorem z0i {H:Hp}{a b:Addr}{o:HO}(h:H a=some o)(h':H b=none):a≠b:=by
 intro e;subst e;rw[h] at h';cases h'
section
variable (P:Program)(w:World)
def ObjOk (H:Hp)(h:Heap)(a:Addr):HO->Prop
 | .lst xs=>xs.length≤sizeLine/\∃(its:List Value) (n:Nat),Vals xs its/\h.get? a=some { cls:=.type "list",data:=.seq its.toArray n }
 | .tup xs=>xs.length≤sizeLine/\∃its:List Value,Vals xs its/\IsTup h a its.toArray
 | .dK kvs=>kvs.length≤sizeLine/\(a==sysModules)=false/\∃vs,KV kvs vs/\h.DictOf (z0d P w) a vs
 | .dT kvs=>kvs.length≤sizeLine/\(a==sysModules)=false/\∃xs:List (List Key×Addr×Value),
   Paired (λ(p:List Key×V) (q:List Key×Addr×Value)=>p.1=q.1/\H q.2.1=some (.tup (p.1.map kV))/\RelV p.2 q.2.2) kvs xs /\
   ∃o es ep,h.get? a=some o/\o.ExactDict/\o.data = .dict es ep/\es.toList=xs.map (entryOfKey (tupleKind (z0d P w)))/\(xs.map (·.1)).Nodup
 | .set S n=>h.SetOf (intKind P w) a S n
 | .ins C dx fs=>H dx=some (.own a)/\fs.length≤1000/\dx≠a/\h.get? a=some (y1x C dx) /\
   ∃mA,h.Ns1 dx mA/\(∀f,RelO (fs.lookup f) (mA f))/\y5h mA (fs.map (·.1))
 | .own _=>∃o,h.get? a=some o
 | .xd fs=>∃mA,h.Ns1 a mA/\∀f,RelO (fs.lookup f) (mA f)
 | .rng lo hi=>∃t u v,h.get? a=some { cls:=.type "range",data:=.fields #[.int lo t,.int hi u,.int 1 v] }
 | .frz o u=>h.get? a=some o/\ObjOk H h a u
 | .tbl ps=>h.get? a=some { cls:=.none,data:=.fields ps }
 | .met f x=>h.get? a=some (y3s (.ref f) (.ref x))
 | .ext φ=>φ h/\(∃o,h.get? a=some o)/\∀h1 h2:Heap,φ h1->(∀o,h1.get? a=some o->h2.get? a=some o)->φ h2
def HOk (H:Hp)(h:Heap):Prop:=∀a o,H a=some o->ObjOk P w H h a o
end
section
variable {P:Program}{w:World}{H H':Hp}{h h':Heap}{a:Addr}{o:HO}
theorem ObjOk.lt (x:ObjOk P w H h a o):a<h.objs.size:=by
 cases o with
 | lst xs=>obtain⟨_,_,_,_,e⟩:=x;exact Heap.lt_size e
 | tup xs=>obtain⟨_,_,_,p⟩:=x;exact p.lt
 | dK kvs=>obtain⟨_,_,_,_,o,_,_,e,_⟩:=x;exact Heap.lt_size e
 | dT kvs=>obtain⟨_,_,_,_,o,_,_,e,_⟩:=x;exact Heap.lt_size e
 | set S n=>obtain⟨o,_,_,_,e,_⟩:=x;exact Heap.lt_size e
 | ins C dx fs=>obtain⟨_,_,_,e,_⟩:=x;exact Heap.lt_size e
 | own y=>obtain⟨_,e⟩:=x;exact Heap.lt_size e
 | xd fs=>obtain⟨_,⟨_,_,_,e,_⟩,_⟩:=x;exact Heap.lt_size e
 | rng lo hi=>obtain⟨_,_,_,e⟩:=x;exact Heap.lt_size e
 | frz ob u=>obtain⟨e,_⟩:=x;exact Heap.lt_size e
 | tbl ps=>exact Heap.lt_size (show h.get? a=some _ from x)
 | met f y=>exact Heap.lt_size (show h.get? a=some _ from x)
 | ext φ=>obtain⟨_,⟨_,e⟩,_⟩:=x;exact Heap.lt_size e
theorem Paired.mapP {α β:Type}{F G:α->β->Prop}:∀{l₁:List α} {l₂:List β},Paired F l₁ l₂->(∀a b,F a b->G a b)->Paired G l₁ l₂
 | _,_,.nil,_=>.nil
 | _,_,.cons r t,f=>.cons (f _ _ r) (Paired.mapP t f)
theorem ObjOk.stay (x:ObjOk P w H h a o)(k:∀b u,(b=a∨H b=some (.own a))->h.get? b=some u->h'.get? b=some u)
  (ho:∀b,H b=some (.own a)->H' b=some (.own a)) (ht:∀b xs,H b=some (.tup xs)->H' b=some (.tup xs)):ObjOk P w H' h' a o:=by
 induction o with
 | lst xs=>obtain⟨z,its,n,r,e⟩:=x;exact⟨z,its,n,r,k _ _ (.inl rfl) e⟩
 | tup xs=>obtain⟨z,its,r,ob,e,c⟩:=x;exact⟨z,its,r,ob,k _ _ (.inl rfl) e,c⟩
 | dK kvs=>obtain⟨z,y,vs,r,ob,es,ep,e,c⟩:=x;exact⟨z,y,vs,r,ob,es,ep,k _ _ (.inl rfl) e,c⟩
 | dT kvs =>
  obtain⟨z,y,xs,r,ob,es,ep,e,c⟩:=x;exact⟨z,y,xs,Paired.mapP r λp q z=>⟨z.1,ht _ _ z.2.1,z.2.2⟩,ob,es,ep,k _ _ (.inl rfl) e,c⟩
 | set S n=>obtain⟨ob,es,ep,t,e,c⟩:=x;exact⟨ob,es,ep,t,k _ _ (.inl rfl) e,c⟩
 | ins C dx fs =>
  obtain⟨d,z,ne,e,mA,⟨od,es,ep,e2,c⟩,r⟩:=x;exact⟨ho _ d,z,ne,k _ _ (.inl rfl) e,mA,⟨od,es,ep,k _ _ (.inr d) e2,c⟩,r⟩
 | own y=>obtain⟨ob,e⟩:=x;exact⟨ob,k _ _ (.inl rfl) e⟩
 | xd fs=>obtain⟨mA,⟨od,es,ep,e,c⟩,r⟩:=x;exact⟨mA,⟨od,es,ep,k _ _ (.inl rfl) e,c⟩,r⟩
 | rng lo hi=>obtain⟨t,u,v,e⟩:=x;exact⟨t,u,v,k _ _ (.inl rfl) e⟩
 | frz ob u ih=>obtain⟨e,q⟩:=x;exact⟨k _ _ (.inl rfl) e,ih q⟩
 | tbl ps =>
  have e:h.get? a=some { cls:=.none,data:=.fields ps }:=x;show h'.get? a=some { cls:=.none,data:=.fields ps };exact k a _ (.inl rfl) e
 | met f y =>
  have e:h.get? a=some (y3s (.ref f) (.ref y)):=x;show h'.get? a=some (y3s (.ref f) (.ref y));exact k a _ (.inl rfl) e
 | ext φ=>obtain⟨p,⟨o,e⟩,st⟩:=x;exact⟨st _ _ p λo q=>k _ _ (.inl rfl) q,⟨o,k _ _ (.inl rfl) e⟩,st⟩
theorem HOk.lt (x:HOk P w H h)(e:H a=some o):a<h.objs.size:=(x a o e).lt
theorem HOk.fresh (x:HOk P w H h)(e:h.objs.size≤a):H a=none:=by
 cases q:H a with
 | none=>rfl
 | some u=>exact absurd (y04 (x.lt q) e) (y1c _)
theorem HOk.kept (x:HOk P w H h)(k:∀b u,h.get? b=some u->h'.get? b=some u):HOk P w H h':=λa o e =>
 (x a o e).stay (λb u _ q=>k b u q) (λ_ q=>q) λ_ _ q=>q
theorem HOk.laid (x:HOk P w H h)(k:∀b u,h.get? b=some u->h'.get? b=some u)(hp:h.objs.size≤a)(new:ObjOk P w (upd H a o) h' a o):HOk P w (upd H a o) h':=λb u e=>by
 have hn:=x.fresh hp
 by_cases hb:b=a
 ·subst hb;rw[z08] at e;cases e;exact new
 ·rw[z04 hb] at e;exact(x b u e).stay (λc v _ q=>k c v q) (λc q=>by rw[z04 (z0i q hn)];exact q) λc xs q=>by rw[z04 (z0i q hn)];exact q
end
def Rd (H:Hp)(a:Addr)(u:HO):Prop:=H a=some u∨∃o,H a=some (.frz o u)
theorem Rd.ok {P:Program}{w:World}{H:Hp}{h:Heap}{a:Addr}{u:HO}(r:Rd H a u)(x:HOk P w H h):ObjOk P w H h a u:=by
 rcases r with r | ⟨o,r⟩
 ·exact x a u r
 ·obtain⟨_,q⟩:=x a _ r;exact q
def Mut:Option HO->Prop
 | some (.lst _)=>True
 | some (.dK _)=>True
 | some (.dT _)=>True
 | some (.set _ _)=>True
 | some (.ins _ _ _)=>True
 | some (.ext _)=>True
 | _=>False
section
variable {P:Program}{w:World}{H:Hp}{h h':Heap}{x e:Addr}{o':HO}
theorem HOk.write (ok:HOk P w H h)(mu:Mut (H x))(he:e=x∨H e=some (.own x))(k:∀b u,b≠e->h.get? b=some u->h'.get? b=some u)(heo:∃u,h'.get? e=some u)
  (new:ObjOk P w (upd H x o') h' x o'):HOk P w (upd H x o') h':=λb u q=>by
 have nown:∀c y,H c=some (.own y)->c≠x:=λc y r z=>by subst z;rw[r] at mu;exact mu
 have ntup:∀c xs,H c=some (.tup xs)->c≠x:=λc xs r z=>by subst z;rw[r] at mu;exact mu
 by_cases hb:b=x
 ·subst hb;rw[z08] at q;cases q;exact new
 ·rw[z04 hb] at q
  by_cases hbe:b=e
  ·have q':H b=some (.own x):=by
    rcases he with z | z
    ·exact absurd (hbe.trans z) hb
    ·rw[hbe];exact z
   rw[q] at q';cases q';obtain⟨v,hv⟩:=heo;exact⟨v,by rw[hbe];exact hv⟩
  ·refine(ok b u q).stay (λc v hc r=>k c v ?_ r) (λc r=>by rw[z04 (nown c b r)];exact r) λc xs r=>by rw[z04 (ntup c xs r)];exact r
   rcases hc with rfl | hc
   ·exact hbe
   ·rintro rfl;rcases he with z | z
    ·exact nown c b hc z
    ·rw[hc] at z;cases z;exact hb rfl
end
structure Un (fs ex:List Addr)(H H':Hp)(h h':Heap):Prop where
 keep:∀b o,h.get? b=some o->H b=none->b ∉ fs->b ∉ ex->h'.get? b=some o
 slot:∀b o,h.get? b=some o->H b=none->b∈fs->b ∉ ex->∃sl,h'.get? b=some { o with slots:=sl }
 free:∀b o,h.get? b=some o->H b=none->b ∉ ex->H' b=none
 there:∀b o,h.get? b=some o->b ∉ ex->∃o',h'.get? b=some o'
 tups:∀b xs,H b=some (.tup xs)->H' b=some (.tup xs)
 frzs:∀b o u,H b=some (.frz o u)->H' b=some (.frz o u)
 tbls:∀b ps,H b=some (.tbl ps)->∃more,H' b=some (.tbl (ps++more))
section
variable {fs fs' ex ex':List Addr}{H H1 H2:Hp}{h h1 h2 h':Heap}{a x e:Addr}{o:HO}
theorem Un.any (u:Un fs ex H H1 h h1){b:Addr}{ob:Obj}(q:h.get? b=some ob)(n:H b=none)(hx:b ∉ ex):∃sl,h1.get? b=some { ob with slots:=sl }:=by
 by_cases hb:b∈fs
 ·exact u.slot b ob q n hb hx
 ·exact⟨ob.slots,u.keep b ob q n hb hx⟩
theorem Un.kept (k:∀b u,h.get? b=some u->h'.get? b=some u):Un fs ex H H h h' :=
 ⟨λb ob q _ _ _=>k b ob q,λb ob q _ _ _=>⟨ob.slots,k b ob q⟩,λ_ _ _ n _=>n,λb ob q _=>⟨ob,k b ob q⟩,λ_ _ q=>q,λ_ _ _ q=>q,λ_ ps q=>⟨#[],by rw[q];simp⟩⟩
theorem Un.refl:Un fs ex H H h h:=Un.kept λ_ _ q=>q
theorem Un.laid (k:∀b u,h.get? b=some u->h'.get? b=some u)(hp:h.objs.size≤a)(hn:H a=none):Un fs ex H (upd H a o) h h' where
 keep:=λb u q _ _ _=>k b u q
 slot:=λb u q _ _ _=>⟨u.slots,k b u q⟩
 free:=λb u q n _=>by rw[z04 (y06 (y04 (Heap.lt_size q) hp))];exact n
 there:=λb u q _=>⟨u,k b u q⟩
 tups:=λb xs q=>by rw[z04 (z0i q hn)];exact q
 frzs:=λb u xs q=>by rw[z04 (z0i q hn)];exact q
 tbls:=λb ps q=>⟨#[],by rw[z04 (z0i q hn),q];simp⟩
theorem Un.write (mu:Mut (H x))(he:e=x∨H e=some (.own x))(k:∀b u,b≠e->h.get? b=some u->h'.get? b=some u)(heo:∃u,h'.get? e=some u):Un fs ex H (upd H x o) h h':=by
 have hx:∀b,H b=none->b≠x:=λb n z=>by subst z;rw[n] at mu;exact mu
 have hb:∀b,H b=none->b≠e:=λb n z=>by
  subst z;rcases he with r | r
  ·exact hx b n r
  ·rw[n] at r;cases r
 have hm:∀b u,H b=some u->¬Mut (some u)->b≠x:=λb u q nm z=>by subst z;rw[q] at mu;exact nm mu
 refine⟨λb u q n _ _=>k b u (hb b n) q,λb u q n _ _=>⟨u.slots,k b u (hb b n) q⟩,λb u q n _=>by rw[z04 (hx b n)];exact n,λb u q _=>?_,
  λb xs q=>by rw[z04 (hm b _ q λz=>z)];exact q,λb u xs q=>by rw[z04 (hm b _ q λz=>z)];exact q,λb ps q=>⟨#[],by rw[z04 (hm b _ q λz=>z),q];simp⟩⟩
 by_cases hbe:b=e
 ·subst hbe;exact heo
 ·exact⟨u,k b u hbe q⟩
end
def trk (h:Heap)(H:Hp):List Addr:=(y0s h.objs.size).filter λa=>(H a).isSome
def z9m (h:Heap)(H:Hp):Heap:=y5o h (trk h H)
theorem z7b (h:Heap)(H:Hp):(z9m h H).objs.size=h.objs.size:=PySem.W.hideAll_size _ _
theorem z3i {h:Heap}{H:Hp}{b:Addr}{o:Obj}(e:h.get? b=some o)(n:H b=none):(z9m h H).get? b=some o :=
 y4w _ e λhm=>by
  have q:(H b).isSome=true:=(y38.mp hm).2;rw[n] at q;simp at q
theorem zb8 {h:Heap}{H:Hp}{b:Addr}{o:Obj}(e:(z9m h H).get? b=some o):h.get? b=some o/\H b=none:=by
 have e':h.get? b=some o:=y52 (trk h H) e;refine⟨e',?_⟩;cases q:H b with
 | none=>rfl
 | some x =>
  have hm:b∈trk h H:=y38.mpr ⟨y2o.mpr (Heap.lt_size e'),by simp[q]⟩
  have z:(z9m h H).get? b=none:=PySem.W.hideAll_none (trk h H) hm;rw[z] at e;cases e
def zl1 (g h:Heap)(L:Addr):List (Addr×Obj):=(y0s h.objs.size).filterMap λa=>if a=L∨(g.get? a).isSome=true then none else (h.get? a).map λo=>(a,o)
def rest (g h:Heap)(L d:Addr):List (Addr×Obj):=(zl1 g h L).filter λp=>decide (p.1≠d)
end L2
namespace L2
open PySem PySem.Spec PyProof.Rows
structure Mod (K:y00)(mg:Str->Option Value)(base:Heap):Prop where
 kin:K.In base
 glob:base.Ns mainGlobals mg
 blt:∃mb,base.Ns builtinsNs mb/\∀x:Str,x ≠ "__name__"->mb x=bootBuiltins x
 nolimit:base.NoLimit
structure Cx where
 prog:Program
 w:World
 K:y00
 mg:Str->Option Value
 base:Heap
 A:Around
 N:List Str
 s₀:Shared
 H₀:Hp
 env:Env
 outer:List Env
 stack:List Env
 ex:List Addr
 fn:Str->Bool
 calm:Bool
 pn:List (Addr×Obj)
 xe:Value->Shared->Prop
def frs (l:List Env):List Addr:=l.filterMap (·.frame)
abbrev Cx.fs (X:Cx):List Addr:=frs X.outer
def Vis (sc:Scope)(x:Str):Prop:=sc.names.lookup x=some .local∨sc.names.lookup x=some .cell∨sc.names.lookup x=some .free
def Loc (sc:Scope)(x:Str):Prop:=sc.names.lookup x=some .local∨sc.names.lookup x=some .cell
def zvq (env:Env)(h:Heap)(m:Str->Option Value)(x:Str)(u:Value):Prop :=
 (env.kindOf x=some .local/\m x=some u)∨((env.kindOf x=some .cell∨env.kindOf x=some .free)/\∃c,env.cells.lookup x=some c/\h.IsCell c (some u))
structure Cx.Ok (X:Cx):Prop where
 mod:Mod X.K X.mg X.base
 kind:X.env.scope.kind = .function
 glob:X.env.globals=mainGlobals
 blt:X.env.builtins=builtinsNs
 above:X.s₀.heap.objs.size≤X.env.locals
 inj:∀x y c,X.env.cells.lookup x=some c->X.env.cells.lookup y=some c->x=y
 has:∀x,(X.env.kindOf x=some .cell∨X.env.kindOf x=some .free)->∃c,X.env.cells.lookup x=some c
 cab:∀x c,X.fn x=true->X.env.cells.lookup x=some c->X.s₀.heap.objs.size≤c
 hd:X.calm=true->X.A.handled=none
 frames:X.A.frames=some X.stack
 stk:X.stack=X.outer∨(X.stack=X.env::X.outer/\X.env.frame=some X.env.locals)
 exf:∀b∈X.ex,b≠X.env.locals/\∀x c,X.env.cells.lookup x=some c->c≠b
 bs:∀b o,X.base.get? b=some o->X.s₀.heap.get? b=some o/\X.H₀ b=none
 bsz:X.base.objs.size≤X.s₀.heap.objs.size
 noex:∀b o,X.base.get? b=some o->b ∉ X.ex
 exfs:∀b∈X.ex,b ∉ X.fs
 funs:X.s₀.heap.FunFrames X.base X.outer
 frf:∀b∈X.fs,X.H₀ b=none
structure Inv (X:Cx)(aa:List (Addr×Obj))(σ:List (Option V))(H:Hp)(s:Shared):Prop where
 ok:X.Ok
 os:s.os=X.s₀.os
 bare:AllBare s.gens
 base:Un X.fs X.ex X.H₀ H X.s₀.heap s.heap
 loc:∃m,s.heap.Ns X.env.locals m/\∀(i:Nat) (x:Str) (v:V),X.N[i]?=some x->σ[i]?=some (some v)->Vis X.env.scope x->∃u,RelV v u/\zvq X.env s.heap m x u
 cell:∀x c,X.env.cells.lookup x=some c->∃v,s.heap.IsCell c v
 free:H X.env.locals=none
 freeC:∀x c,X.env.cells.lookup x=some c->H c=none
 pin:∀p∈X.pn++aa,s.heap.get? p.1=some p.2/\H p.1=none/\p.1≠X.env.locals/\p.1 ∉ X.fs/\∀v,p.2.data ≠ .cell v
 hok:HOk X.prog X.w H s.heap
 len:σ.length=X.N.length
section
variable {X:Cx}{aa:List (Addr×Obj)}{σ:List (Option V)}{H H':Hp}{s:Shared}{h':Heap}
theorem Cx.Ok.nofr (ok:X.Ok){b:Addr}{o:Obj}(e:X.base.get? b=some o):b ∉ X.fs:=λhb=>by
 have:=(ok.funs.mem hb).1;rw[e] at this;cases this
theorem Inv.bs (I:Inv X aa σ H s):∀b o,X.base.get? b=some o->s.heap.get? b=some o/\H b=none:=λb o e =>
 ⟨I.base.keep b o (I.ok.bs b o e).1 (I.ok.bs b o e).2 (I.ok.nofr e) (I.ok.noex b o e),I.base.free b o (I.ok.bs b o e).1 (I.ok.bs b o e).2 (I.ok.noex b o e)⟩
theorem Inv.bk (I:Inv X aa σ H s):∀b o,X.base.get? b=some o->s.heap.get? b=some o:=λb o e=>(I.bs b o e).1
theorem Inv.mod (I:Inv X aa σ H s):Mod X.K X.mg X.base:=I.ok.mod
theorem Inv.kIn (I:Inv X aa σ H s):X.K.In s.heap:=I.ok.mod.kin.keeps I.bk
theorem Inv.nolimit (I:Inv X aa σ H s):s.heap.NoLimit:=I.ok.mod.nolimit.keeps I.bk
theorem Inv.lt (I:Inv X aa σ H s):X.env.locals<s.heap.objs.size:=let ⟨_,hn,_⟩:=I.loc;hn.lt
theorem Inv.sz (I:Inv X aa σ H s):X.s₀.heap.objs.size≤s.heap.objs.size:=y0j I.ok.above (y22 I.lt)
theorem Inv.nofs (I:Inv X aa σ H s){a:Addr}(h:s.heap.objs.size≤a):a ∉ X.fs:=λhb=>by
 obtain⟨_,o,ho,_⟩:=I.ok.funs.mem hb;exact absurd (y04 (Heap.lt_size ho) (y0j I.sz h)) (y1c _)
theorem Inv.cne (I:Inv X aa σ H s):∀x c,X.env.cells.lookup x=some c->c≠X.env.locals:=λx c e z=>by
 obtain⟨v,o,ho,hd⟩:=I.cell x c e;obtain⟨m,⟨o',es,ep,ho',hd',_⟩,_⟩:=I.loc;rw[z,ho'] at ho;cases ho;rw[hd'] at hd;cases hd
theorem Inv.funs (I:Inv X aa σ H s):s.heap.FunFrames X.base X.outer:=by
 have all:∀(l:List Env),(∀b∈frs l,b∈X.fs)->X.s₀.heap.FunFrames X.base l->s.heap.FunFrames X.base l:=by
  intro l
  induction l with
  | nil=>intro _ _;trivial
  | cons env r ih =>
   intro hs hl;obtain⟨hk,⟨L,o,hf,hn,ho,hd⟩,hr⟩:=hl;have hL:L∈X.fs:=hs L (by unfold frs;rw[y1l,hf];exact y0p)
   obtain⟨sl,e⟩:=I.base.slot L o ho (I.ok.frf L hL) hL λz=>I.ok.exfs L z hL;exact⟨hk,⟨L,_,hf,hn,e,hd⟩,ih (λb hb=>hs b (by unfold frs;rw[y1l,hf];exact y0c _ hb)) hr⟩
 exact all X.outer (λ_ hb=>hb) I.ok.funs
theorem Inv.stack (I:Inv X aa σ H s):s.heap.FunFrames X.base X.stack:=by
 rcases I.ok.stk with e | ⟨e,hf⟩
 ·rw[e];exact I.funs
 ·rw[e];obtain⟨m,hn,_⟩:=I.loc;refine .cons (by rw[I.ok.kind];decide) hf hn ?_ I.funs
  exact Heap.get?_none_of_le (y0j I.ok.bsz I.ok.above)
theorem Inv.stkSub (I:Inv X aa σ H s):∀b∈frs X.stack,b∈X.env.locals::X.fs:=λb hb=>by
 rcases I.ok.stk with e | ⟨e,hf⟩
 ·rw[e] at hb;exact y0c _ hb
 ·rw[e] at hb;unfold frs at hb;rw[y1l,hf] at hb;exact hb
theorem Inv.stkFree (I:Inv X aa σ H s):∀b∈frs X.stack,H b=none:=λb hb=>by
 rcases y0a.mp (I.stkSub b hb) with e | hb
 ·rw[e];exact I.free
 ·obtain⟨_,o,ho,_⟩:=I.ok.funs.mem hb;exact I.base.free b o ho (I.ok.frf b hb) λz=>I.ok.exfs b z hb
theorem Inv.step {g':Array GenState}{t':Nat}{d':Drawn}{ch:List Addr}(I:Inv X aa σ H s)
  (hch:∀b∈ch,(b∈X.ex∨X.s₀.heap.objs.size≤b)/\b≠X.env.locals/\(∀x c,X.env.cells.lookup x=some c->c≠b)/\∀p∈X.pn++aa,p.1≠b)
  (keep:∀b o,b≠X.env.locals->b ∉ X.fs->b ∉ ch->s.heap.get? b=some o->H b=none->h'.get? b=some o)
  (slot:∀b o,b≠X.env.locals->b∈X.fs->b ∉ ch->s.heap.get? b=some o->H b=none->∃sl,h'.get? b=some { o with slots:=sl }) (free:∀b o,b ∉ ch->s.heap.get? b=some o->H b=none->H' b=none)
  (there:∀b o,b ∉ ch->s.heap.get? b=some o->∃o',h'.get? b=some o')
  (tups:∀b xs,H b=some (.tup xs)->H' b=some (.tup xs)) (frzs:∀b o u,H b=some (.frz o u)->H' b=some (.frz o u)) (tbls:∀b ps,H b=some (.tbl ps)->∃more,H' b=some (.tbl (ps++more)))
  (ns:∀m,s.heap.Ns X.env.locals m->h'.Ns X.env.locals m) (hok:HOk X.prog X.w H' h') (hg:AllBare g') :
  Inv X aa σ H' { s with heap:=h',gens:=g',drawn:=d',toks:=t' }:=by
 have neL:∀b o,X.s₀.heap.get? b=some o->b≠X.env.locals:=λb o e=>y06 (y04 (Heap.lt_size e) I.ok.above);have neC:∀b o,X.s₀.heap.get? b=some o->b ∉ X.ex->b ∉ ch:=λb o e hx hb=>by
  rcases (hch b hb).1 with z | z
  ·exact hx z
  ·exact absurd (y04 (Heap.lt_size e) z) (y1c _)
 have cellK:∀x c,X.env.cells.lookup x=some c->∀v,s.heap.IsCell c v->h'.IsCell c v:=λx c e v ⟨o,ho,hd⟩=>by
  have nch:c ∉ ch:=λz=>(hch c z).2.2.1 x c e rfl
  by_cases hc:c∈X.fs
  ·obtain⟨sl,q⟩:=slot c o (I.cne x c e) hc nch ho (I.freeC x c e);exact⟨_,q,hd⟩
  ·exact⟨o,keep c o (I.cne x c e) hc nch ho (I.freeC x c e),hd⟩
 refine⟨I.ok,I.os,hg,⟨λb o e n hb hx=>?_,λb o e n hb hx=>?_,λb o e n hx=>?_,λb o e hx=>?_,λb xs e=>tups b xs (I.base.tups b xs e),λb o xs e=>frzs b o xs (I.base.frzs b o xs e),λb ps e=>?_⟩,?_,λx c e=>?_,?_,λx c e=>?_,λp hp=>?_,hok,I.len⟩
 ·exact keep b o (neL b o e) hb (neC b o e hx) (I.base.keep b o e n hb hx) (I.base.free b o e n hx)
 ·obtain⟨sl,e1⟩:=I.base.slot b o e n hb hx;obtain⟨sl',e2⟩:=slot b _ (neL b o e) hb (neC b o e hx) e1 (I.base.free b o e n hx);exact⟨sl',e2⟩
 ·obtain⟨o',e1⟩:=I.base.there b o e hx;exact free b o' (neC b o e hx) e1 (I.base.free b o e n hx)
 ·obtain⟨o',e1⟩:=I.base.there b o e hx;exact there b o' (neC b o e hx) e1
 ·obtain⟨m1,e1⟩:=I.base.tbls b ps e;obtain⟨m2,e2⟩:=tbls b _ e1;exact⟨m1++m2,by rw[e2,Array.append_assoc]⟩
 ·obtain⟨m,hn,hl⟩:=I.loc;refine⟨m,ns m hn,λi x v e1 e2 e3=>?_⟩;obtain⟨u,r,l⟩:=hl i x v e1 e2 e3;refine⟨u,r,?_⟩;rcases l with l | ⟨k,c,e,z⟩
  ·exact .inl l
  ·exact .inr ⟨k,c,e,cellK x c e _ z⟩
 ·obtain⟨v,z⟩:=I.cell x c e;exact⟨v,cellK x c e v z⟩
 ·obtain⟨m,⟨o,_,_,ho,_⟩,_⟩:=I.loc;exact free _ o (λz=>(hch _ z).2.1 rfl) ho I.free
 ·obtain⟨v,o,ho,hd⟩:=I.cell x c e;exact free c o (λz=>(hch c z).2.2.1 x c e rfl) ho (I.freeC x c e)
 ·obtain⟨e,n,ne,nf,d⟩:=I.pin p hp;have nch:p.1 ∉ ch:=λz=>(hch p.1 z).2.2.2 p hp rfl;exact⟨keep p.1 p.2 ne nf nch e n,free p.1 p.2 nch e n,ne,nf,d⟩
theorem Inv.un {t':Nat}(I:Inv X aa σ H s)(u:Un X.fs [] H H' s.heap h')(hok:HOk X.prog X.w H' h'):Inv X aa σ H' { s with heap:=h',toks:=t' }:=by
 obtain⟨m,⟨o,es,ep,ho,r⟩,_⟩:=id I.loc;obtain⟨sl,hL⟩:=u.any ho I.free (by simp)
 exact I.step (g':=s.gens) (d':=s.drawn) (ch:=[]) (λ_ z=>nomatch z) (λb o _ hb _ e n=>u.keep b o e n hb (by simp)) (λb o _ hb _ e n=>u.slot b o e n hb (by simp)) (λb o _ e n=>u.free b o e n (by simp)) (λb o _ e=>u.there b o e (by simp)) u.tups u.frzs u.tbls (λm' hm=>by
  obtain⟨o',es',ep',ho',r'⟩:=hm;rw[ho] at ho';cases ho';exact⟨_,es',ep',hL,r'⟩) hok I.bare
theorem Inv.call {g':Array GenState}{t':Nat}{d':Drawn}{ch:List Addr}(I:Inv X aa σ H s)(u:Un (frs X.stack) ch H H' s.heap h')(hok:HOk X.prog X.w H' h')(hg:AllBare g')
  (hch:∀b∈ch,(b∈X.ex∨X.s₀.heap.objs.size≤b)/\b≠X.env.locals/\(∀x c,X.env.cells.lookup x=some c->c≠b)/\∀p∈X.pn++aa,p.1≠b) :
  Inv X aa σ H' { s with heap:=h',gens:=g',drawn:=d',toks:=t' }:=by
 obtain⟨m,⟨o,es,ep,ho,r⟩,_⟩:=id I.loc;obtain⟨sl,hL⟩:=u.any ho I.free λz=>(hch _ z).2.1 rfl;exact I.step (ch:=ch) hch (λb o hL hb hc e n=>u.keep b o e n (λz=>(y0a.mp (I.stkSub b z)).elim hL hb) hc) (λb o _ _ hc e n=>u.any e n hc) (λb o hc e n=>u.free b o e n hc) (λb o hc e=>u.there b o e hc) u.tups u.frzs u.tbls (λm' hm=>by
  obtain⟨o',es',ep',ho',r'⟩:=hm;rw[ho] at ho';cases ho';exact⟨_,es',ep',hL,r'⟩) hok hg
theorem Inv.turned {t':Nat}{it:Addr}(I:Inv X aa σ H s)(k:∀b o,b≠it->s.heap.get? b=some o->h'.get? b=some o)(hn:H it=none)(hL:it≠X.env.locals)
  (h1:it∈X.ex∨X.s₀.heap.objs.size≤it) (h2:∀x c,X.env.cells.lookup x=some c->c≠it) (h3:∀p∈X.pn++aa,p.1≠it):Inv X aa σ H { s with heap:=h',toks:=t' }:=by
 have nit:∀b u,H b=some u->b≠it:=λb u e z=>by rw[z,hn] at e;cases e
 refine I.step (g':=s.gens) (d':=s.drawn) (ch:=[it]) (λb hb=>?_) (λb o _ _ hc e _=>k b o (λz=>hc (by simp[z])) e) (λb o _ _ hc e _=>⟨o.slots,k b o (λz=>hc (by simp[z])) e⟩) (λ_ _ _ _ n=>n)
  (λb o hc e=>⟨o,k b o (λz=>hc (by simp[z])) e⟩) (λ_ _ e=>e) (λ_ _ _ e=>e) (λb ps e=>⟨#[],by rw[e];simp⟩) (λm hm=>?_) (λb u e=>?_) I.bare
 ·have e:b=it:=by simpa using hb
  subst e;exact⟨h1,hL,h2,h3⟩
 ·obtain⟨o,es,ep,ho,r⟩:=hm;exact⟨o,es,ep,k _ o (Ne.symm hL) ho,r⟩
 ·refine(I.hok b u e).stay (λc v hc q=>k c v ?_ q) (λ_ q=>q) λ_ _ q=>q;rcases hc with z | z
  ·rw[z];exact nit b u e
  ·exact nit c _ z
theorem Inv.tok (I:Inv X aa σ H s)(t:Nat):Inv X aa σ H { s with toks:=t }:=I.un (h':=s.heap) (t':=t) Un.refl I.hok
theorem Inv.kept {t':Nat}(I:Inv X aa σ H s)(k:∀b u,s.heap.get? b=some u->h'.get? b=some u):Inv X aa σ H { s with heap:=h',toks:=t' }:=I.un (Un.kept k) (I.hok.kept k)
theorem Inv.laid {a:Addr}{o:HO}{t':Nat}(I:Inv X aa σ H s)(k:∀b u,s.heap.get? b=some u->h'.get? b=some u)(hp:s.heap.objs.size≤a)(new:ObjOk X.prog X.w (upd H a o) h' a o) :
  Inv X aa σ (upd H a o) { s with heap:=h',toks:=t' }:=I.un (Un.laid k hp (I.hok.fresh hp)) (I.hok.laid k hp new)
theorem Inv.write {x e:Addr}{o:HO}{t':Nat}(I:Inv X aa σ H s)(mu:Mut (H x))(he:e=x∨H e=some (.own x))(k:∀b u,b≠e->s.heap.get? b=some u->h'.get? b=some u)(heo:∃u,h'.get? e=some u)
  (new:ObjOk X.prog X.w (upd H x o) h' x o):Inv X aa σ (upd H x o) { s with heap:=h',toks:=t' }:=I.un (Un.write mu he k heo) (I.hok.write mu he k heo new)
theorem Inv.weak {σ':List (Option V)}(I:Inv X aa σ H s)(hl:σ'.length = σ.length)(w:∀(i:Nat) v,σ'[i]?=some (some v)->σ[i]?=some (some v)):Inv X aa σ' H s :=
 ⟨I.ok,I.os,I.bare,I.base,let ⟨m,hn,hl'⟩:=I.loc;⟨m,hn,λi x v e1 e2 e3=>hl' i x v e1 (w i v e2) e3⟩,I.cell,I.free,I.freeC,I.pin,I.hok,hl.trans I.len⟩
theorem Inv.pins_of {pins':List (Addr×Obj)}(I:Inv X aa σ H s)(h:∀p∈pins',s.heap.get? p.1=some p.2/\H p.1=none/\p.1≠X.env.locals/\p.1 ∉ X.fs/\∀v,p.2.data ≠ .cell v):Inv X pins' σ H s :=
 ⟨I.ok,I.os,I.bare,I.base,I.loc,I.cell,I.free,I.freeC,λp hp=>(y1y.mp hp).elim (λz=>I.pin p (y03 _ z)) (h p),I.hok,I.len⟩
theorem z5y {N:List Str}(hN:N.Nodup){i j:Nat}{x:Str}(a:N[i]?=some x)(b:N[j]?=some x):i=j:=by
 obtain⟨h1,e1⟩:=y01.mp a;obtain⟨h2,e2⟩:=y01.mp b;exact(List.getElem_inj hN).mp (e1.trans e2.symm)
theorem zbi {M:Model}{A:Around}{E:Value->Shared->Prop}{i:Nat}{x:Str}{v:V}{u:Value}{Q:Unit->Shared->Prop}(I:Inv X aa σ H s)(hN:X.N.Nodup)(hi:X.N[i]?=some x)(hx:Loc X.env.scope x)(r:RelV v u)
  (h:∀s',Inv X aa (σ.set i (some v)) H s'->(∃a,Heap.SameBut a s.heap s'.heap/\(a=X.env.locals∨X.env.cells.lookup x=some a))->Q () s') (hf:X.fn x=true∨X.env.scope.names.lookup x=some .local:=by first | exact .inl rfl | exact .inr rfl | assumption):wpAny M A (storeName X.env x u) Q E s:=by
 obtain⟨m,hn,hl⟩:=id I.loc;have hcls:(X.env.scope.kind == .class||(X.env.scope.kind == .module&&X.env.locals != X.env.globals))=false:=by rw[I.ok.kind];rfl
 have hiσ:i < σ.length:=by rw[I.len];exact(y01.mp hi).1
 have cne:=I.cne;have tracked:∀{a:Addr} {h':Heap},(∃o,s.heap.get? a=some o/\H a=none)->Heap.SameBut a s.heap h'->HOk X.prog X.w H h':=λ{a h'} ha hs b ob e=>by
  obtain⟨_,_,hfree⟩:=ha;refine(I.hok b ob e).stay (λc w' hc q=>(hs.2 c ?_).trans q) (λ_ q=>q) λ_ _ q=>q;rintro rfl;rcases hc with rfl | hc
  ·rw[hfree] at e;cases e
  ·rw[hfree] at hc;cases hc
 rcases hx with hk | hk
 ·refine wpAny_storeName_local hk hn (λh' hn' hs=>?_) hcls;obtain⟨oL,_,_,hoL,_⟩:=id hn;refine h _ ⟨I.ok,I.os,I.bare,⟨λb o e n hb hx=>?_,λb o e n hb hx=>?_,I.base.free,λb o e hx=>?_,I.base.tups,I.base.frzs,I.base.tbls⟩,⟨_,hn',λj y v' e1 e2 e3=>?_⟩,λy c e=>?_,I.free,I.freeC,λp hp=>?_,tracked ⟨oL,hoL,I.free⟩ hs,by simpa using I.len⟩ ⟨_,hs,.inl rfl⟩
  ·exact(hs.2 b (y06 (y04 (Heap.lt_size e) I.ok.above))).trans (I.base.keep b o e n hb hx)
  ·obtain⟨sl,e1⟩:=I.base.slot b o e n hb hx;exact⟨sl,(hs.2 b (y06 (y04 (Heap.lt_size e) I.ok.above))).trans e1⟩
  ·obtain⟨o',e1⟩:=I.base.there b o e hx;exact⟨o',(hs.2 b (y06 (y04 (Heap.lt_size e) I.ok.above))).trans e1⟩
  ·by_cases hj:j=i
   ·subst hj;rw[hi] at e1;cases e1;rw[y0z hiσ] at e2;cases e2;exact⟨u,r,.inl ⟨hk,by simp⟩⟩
   ·rw[y0h (Ne.symm hj)] at e2;obtain⟨u',r',q⟩:=hl j y v' e1 e2 e3;refine⟨u',r',?_⟩;rcases q with ⟨k,e⟩ | ⟨k,c,e,z⟩
    ·refine .inl ⟨k,?_⟩;have:y≠x:=λe=>hj (z5y hN e1 (e▸hi));simp[this,e]
    ·exact .inr ⟨k,c,e,z.sameBut hs (cne y c e)⟩
  ·obtain⟨w',z⟩:=I.cell y c e;exact⟨w',z.sameBut hs (cne y c e)⟩
  ·obtain⟨e,n,ne,nf,d⟩:=I.pin p hp;exact⟨(hs.2 p.1 ne).trans e,n,ne,nf,d⟩
 ·have hfn:X.fn x=true:=by
   rcases hf with z | z
   ·exact z
   ·rw[z] at hk;cases hk
  obtain⟨c,hc⟩:=I.ok.has x (.inl hk);obtain⟨w',z⟩:=I.cell x c hc;refine wpAny_storeName_cell I.ok.kind hk hc z (λh' hc' hs=>?_);obtain⟨oc,hoc,hocd⟩:=id z;refine h { s with heap:=h' } ⟨I.ok,I.os,I.bare,⟨λb o e n hb hx=>?_,λb o e n hb hx=>?_,I.base.free,λb o e hx=>?_,I.base.tups,I.base.frzs,I.base.tbls⟩,⟨m,hn.sameBut hs (Ne.symm (cne x c hc)),λj y v' e1 e2 e3=>?_⟩,λy c' e=>?_,I.free,I.freeC,λp hp=>?_,tracked ⟨oc,hoc,I.freeC x c hc⟩ hs,by simpa using I.len⟩ ⟨c,hs,.inr hc⟩
  ·exact(hs.2 b (y06 (y04 (Heap.lt_size e) (I.ok.cab x c hfn hc)))).trans (I.base.keep b o e n hb hx)
  ·obtain⟨sl,e1⟩:=I.base.slot b o e n hb hx;exact⟨sl,(hs.2 b (y06 (y04 (Heap.lt_size e) (I.ok.cab x c hfn hc)))).trans e1⟩
  ·obtain⟨o',e1⟩:=I.base.there b o e hx;exact⟨o',(hs.2 b (y06 (y04 (Heap.lt_size e) (I.ok.cab x c hfn hc)))).trans e1⟩
  ·by_cases hj:j=i
   ·subst hj;rw[hi] at e1;cases e1;rw[y0z hiσ] at e2;cases e2;exact⟨u,r,.inr ⟨.inl hk,c,hc,hc'⟩⟩
   ·rw[y0h (Ne.symm hj)] at e2;obtain⟨u',r',q⟩:=hl j y v' e1 e2 e3;refine⟨u',r',?_⟩;rcases q with q | ⟨k,c',e,z'⟩
    ·exact .inl q
    ·refine .inr ⟨k,c',e,z'.sameBut hs ?_⟩;rintro rfl;exact hj (z5y hN e1 (I.ok.inj _ _ _ e hc▸hi))
  ·by_cases hcc:c'=c
   ·subst hcc;exact⟨_,hc'⟩
   ·obtain⟨w2,z2⟩:=I.cell y c' e;exact⟨w2,z2.sameBut hs hcc⟩
  ·obtain⟨e,n,ne,nf,d⟩:=I.pin p hp;refine⟨(hs.2 p.1 ?_).trans e,n,ne,nf,d⟩;intro q;rw[q,hoc] at e;have q':oc=p.2:=y0q e;exact d w' (by rw[←q'];exact hocd)
theorem z3j {M:Model}{A:Around}{E:Value->Shared->Prop}{i:Nat}{x:Str}{v:V}{u:Value}{Q:Unit->Shared->Prop}(I:Inv X aa σ H s)(hN:X.N.Nodup)(hi:X.N[i]?=some x)(hx:Loc X.env.scope x)(r:RelV v u)
  (h:∀s',Inv X aa (σ.set i (some v)) H s'->Q () s') (hf:X.fn x=true∨X.env.scope.names.lookup x=some .local:=by first | exact .inl rfl | exact .inr rfl | assumption):wpAny M A (storeName X.env x u) Q E s :=
 zbi I hN hi hx r (λs' I' _=>h s' I') hf
theorem Inv.call' {s':Shared}{ch:List Addr}(I:Inv X aa σ H s)(ho:s'.os=s.os)(u:Un (frs X.stack) ch H H' s.heap s'.heap)(hok:HOk X.prog X.w H' s'.heap)(hg:AllBare s'.gens)
  (hch:∀b∈ch,(b∈X.ex∨X.s₀.heap.objs.size≤b)/\b≠X.env.locals/\(∀x c,X.env.cells.lookup x=some c->c≠b)/\∀p∈X.pn++aa,p.1≠b):Inv X aa σ H' s':=by
 obtain⟨h',g',d',t',o'⟩:=s';have e:o'=s.os:=ho;subst e;exact I.call (g':=g') (t':=t') (d':=d') u hok hg hch
end
abbrev XK:=Value->Option Addr->Hp->Prop
abbrev St:=List (Option V)
abbrev VK:=V->Hp->Prop
abbrev TE:=St->Hp->VK->Prop
abbrev TT:=St->Hp->(Bool->Hp->Prop)->Prop
abbrev TA:=St->Hp->(List V->Hp->Prop)->Prop
structure Ends where
 nx:St->Hp->Prop
 rt:VK
 bk:St->Hp->Prop:=λ_ _=>False
 ct:St->Hp->Prop:=λ_ _=>False
abbrev TS:=Ends->St->Hp->Prop
def EP (X:Cx)(aa:List (Addr×Obj))(σ:St)(Q:VK)(u:Value)(s':Shared):Prop:=∃v H',Inv X aa σ H' s'/\RelV v u/\Q v H'
def TP (X:Cx)(aa:List (Addr×Obj))(σ:St)(Q:Bool->Hp->Prop)(b:Bool)(s':Shared):Prop:=∃H',Inv X aa σ H' s'/\Q b H'
def AP (X:Cx)(aa:List (Addr×Obj))(σ:St)(Q:List V->Hp->Prop)(us:List Value)(s':Shared):Prop:=∃vs H',Inv X aa σ H' s'/\Vals vs us/\Q vs H'
def SP (X:Cx)(aa:List (Addr×Obj))(D:Ends)(f:Flow)(s':Shared):Prop :=
 match f with
 | .next=>∃ σ' H',Inv X aa σ' H' s'/\D.nx σ' H'
 | .brk=>∃ σ' H',Inv X aa σ' H' s'/\D.bk σ' H'
 | .cont=>∃ σ' H',Inv X aa σ' H' s'/\D.ct σ' H'
 | .ret u=>∃v σ' H',Inv X aa σ' H' s'/\RelV v u/\D.rt v H'
def PE (X:Cx)(e:Expr)(t:TE):Prop :=
 ∀(aa:List (Addr×Obj)) (s:Shared) (σ:St) (H:Hp) (Q:VK),Inv X aa σ H s->t σ H Q->wpAny (model X.prog X.w) X.A (eval e X.env) (EP X aa σ Q) X.xe s
def PT (X:Cx)(e:Expr)(t:TT):Prop :=
 ∀(aa:List (Addr×Obj)) (s:Shared) (σ:St) (H:Hp) (Q:Bool->Hp->Prop),Inv X aa σ H s->t σ H Q->wpAny (model X.prog X.w) X.A (isTrue e X.env (eval e X.env)) (TP X aa σ Q) X.xe s
def PW (X:Cx)(e:Expr)(t:TT):Prop :=
 ∀(aZ:Sem Value) (aa:List (Addr×Obj)) (s:Shared) (σ:St) (H:Hp) (Q:Bool->Hp->Prop),Inv X aa σ H s->t σ H Q->wpAny (model X.prog X.w) X.A (isTrue e X.env aZ) (TP X aa σ Q) X.xe s
theorem PW.pt {X:Cx}{e:Expr}{t:TT}(h:PW X e t):PT X e t:=h _
def PA (X:Cx)(es:List Expr)(t:TA):Prop :=
 ∀(pos:Pos) (aa:List (Addr×Obj)) (s:Shared) (σ:St) (H:Hp) (Q:List V->Hp->Prop),Inv X aa σ H s->t σ H Q->wpAny (model X.prog X.w) X.A (spliced (backTo pos (starEach es X.env))) (AP X aa σ Q) X.xe s
def PS (X:Cx)(st:Stmt)(t:TS):Prop :=
 ∀(aa:List (Addr×Obj)) (s:Shared) (σ:St) (H:Hp) (D:Ends),Inv X aa σ H s->t D σ H->wpAny (model X.prog X.w) X.A (exec st X.env) (SP X aa D) X.xe s
def PSs (X:Cx)(st:List Stmt)(t:TS):Prop :=
 ∀(aa:List (Addr×Obj)) (s:Shared) (σ:St) (H:Hp) (D:Ends),Inv X aa σ H s->t D σ H->wpAny (model X.prog X.w) X.A (execs st X.env) (SP X aa D) X.xe s
theorem thn {α:Type}{t:Sem α}{Q Q':α->Shared->Prop}{M:Model}{A:Around}{E:Value->Shared->Prop}{s:Shared}(h:wpAny M A t Q E s)(hQ:∀a s,Q a s->Q' a s):wpAny M A t Q' E s:=wpAny_mono h hQ λ_ _ x=>x
end L2
namespace L2
open PySem PySem.Spec PyProof.Rows
section
variable {X:Cx}
def zxo (i:Nat):TE:=fun σ H Q=>∃v,σ[i]?=some (some v)/\Q v H
def tC (v:V):TE:=λ_ H Q=>Q v H
theorem znz {i:Nat}{x:Str}{pos:Pos}(hN:X.N[i]?=some x)(hv:Vis X.env.scope x)(hd:(x==("__debug__":Str))=false:=by decide)(hcd:(x==("__classdict__":Str))=false:=by decide):PE X (.Name x pos) (zxo i):=by
 intro aa s σ H Q I h;obtain⟨v,e,h⟩:=h;obtain⟨m,hn,hl⟩:=I.loc;obtain⟨u,r,l⟩:=hl i x v hN e hv;have fin:EP X aa σ Q u s:=⟨v,H,I,r,h⟩;rcases l with ⟨hk,hm⟩ | ⟨hk,c,hc,aC⟩
 ·exact wpAny_Name (wpAny_loadName_local I.ok.kind hk hn hm fin) hd
 ·rcases hk with hk | hk
  ·exact wpAny_Name (wpAny_loadName_cell I.ok.kind hk hc aC fin) hd
  ·exact wpAny_Name (wpAny_loadName_free I.ok.kind hk hc aC fin hcd) hd
theorem zbr {i j pos}:PE X (.Constant (.int i) j pos) (tC (.int i)):=λ_ _ _ H _ I h=>wpAny_Constant_int ⟨.int i,H,I.tok _,⟨_,rfl⟩,h⟩
theorem ztt {b j pos}:PE X (.Constant (.bool b) j pos) (tC (.bl b)):=λ_ _ _ H _ I h=>Constant_bool ⟨.bl b,H,I,rfl,h⟩
theorem zq0 {j pos}:PE X (.Constant .none j pos) (tC .non):=λ_ _ _ H _ I h=>Constant_none ⟨.non,H,I,rfl,h⟩
theorem zrl {x j pos}:PE X (.Constant (.str x) j pos) (tC (.str x)):=λ_ _ _ H _ I h=>Calls.Constant_str ⟨.str x,H,I.tok _,⟨_,rfl⟩,h⟩
def Gl (X:Cx)(x:Str):Prop:=X.env.kindOf x=some .globalImplicit
theorem z2a {E:Value->Shared->Prop}{aa:List (Addr×Obj)}{s:Shared}{σ:St}{H:Hp}{x:Str}{u:Value}{pos:Pos}{Q:Value->Shared->Prop}(I:Inv X aa σ H s)(hg:Gl X x)(hm:X.mg x=some u)(h:Q u s)
  (hd:(x==("__debug__":Str))=false:=by decide):wpAny (model X.prog X.w) X.A (eval (.Name x pos) X.env) Q E s :=
 Calls.Name_function_global I.ok.kind hg (Calls.loadGlobal_global (by rw[I.ok.glob];exact I.mod.glob.keeps I.bk) hm h) hd
theorem z16 {E:Value->Shared->Prop}{aa:List (Addr×Obj)}{s:Shared}{σ:St}{H:Hp}{x:Str}{u:Value}{pos:Pos}{Q:Value->Shared->Prop}(I:Inv X aa σ H s)(hg:Gl X x)(hm:X.mg x=none)(hv:bootBuiltins x=some u)(h:Q u s)
  (hn:x ≠ "__name__":=by decide) (hd:(x==("__debug__":Str))=false:=by decide):wpAny (model X.prog X.w) X.A (eval (.Name x pos) X.env) Q E s:=by
 obtain⟨mb,h1,h2⟩:=I.mod.blt;exact Calls.Name_function_global I.ok.kind hg (Calls.loadGlobal_builtin (by rw[I.ok.glob];exact I.mod.glob.keeps I.bk) hm (by rw[I.ok.blt];exact h1.keeps I.bk) ((h2 x hn).trans hv) h) hd
theorem zbt {x:Str}{v:V}{u:Value}{pos:Pos}(hg:Gl X x)(hm:X.mg x=some u)(r:RelV v u)(hd:(x==("__debug__":Str))=false:=by decide):PE X (.Name x pos) (tC v) :=
 λ_ _ _ H _ I h=>z2a I hg hm ⟨v,H,I,r,h⟩ hd
theorem zk7 {x:Str}{v:V}{u:Value}{pos:Pos}(hg:Gl X x)(hm:X.mg x=none)(hv:bootBuiltins x=some u)(r:RelV v u)(hn:x ≠ "__name__":=by decide)(hd:(x==("__debug__":Str))=false:=by decide):PE X (.Name x pos) (tC v) :=
 λ_ _ _ H _ I h=>z16 I hg hm hv ⟨v,H,I,r,h⟩ hn hd
variable {a b:Expr}{ta tb:TE}{pos:Pos}
variable {tA tB':TT}{rest:List Expr}
def zwv (t u:TT):TT:=fun σ H Q=>t σ H λc H1=>if c=true then u σ H1 Q else Q false H1
def tOr (t u:TT):TT:=fun σ H Q=>t σ H λc H1=>if c=true then Q true H1 else u σ H1 Q
def zwc (t:TT):TT:=fun σ H Q=>t σ H λc H1=>Q (!c) H1
theorem zit (ha:PT X a tA):PW X (.BoolOp .And [a] pos) tA:=by
 intro wh aa s σ H Q I h;refine isTrue_and (thn (ha aa s σ H Q I h) λc s1 e=>?_);cases c with
 | true=>exact isTrue_and_nil e
 | false=>exact e
theorem zmn (ha:PT X a tA):PW X (.BoolOp .Or [a] pos) tA:=by
 intro wh aa s σ H Q I h;refine isTrue_or (thn (ha aa s σ H Q I h) λc s1 e=>?_);cases c with
 | false=>exact isTrue_or_nil e
 | true=>exact e
theorem znp (ha:PT X a tA)(hb:PW X (.BoolOp .And (b::rest) pos) tB'):PW X (.BoolOp .And (a::b::rest) pos) (zwv tA tB'):=by
 intro wh aa s σ H Q I h;refine isTrue_and (thn (ha aa s σ H _ I h) λc s1 ⟨H1,I1,q1⟩=>?_);cases c with
 | true=>exact hb wh aa s1 σ H1 Q I1 q1
 | false=>exact⟨H1,I1,q1⟩
theorem zsu (ha:PT X a tA)(hb:PW X (.BoolOp .Or (b::rest) pos) tB'):PW X (.BoolOp .Or (a::b::rest) pos) (tOr tA tB'):=by
 intro wh aa s σ H Q I h;refine isTrue_or (thn (ha aa s σ H _ I h) λc s1 ⟨H1,I1,q1⟩=>?_);cases c with
 | true=>exact⟨H1,I1,q1⟩
 | false=>exact hb wh aa s1 σ H1 Q I1 q1
theorem zm1 (ha:PT X a tA):PT X (.UnaryOp .Not a pos) (zwc tA):=by
 intro aa s σ H Q I h;exact isTrue_not (ha aa s σ H (λc H1=>Q (!c) H1) I h)
theorem zot {op}{t:TE}(h:PE X a t):PE X (.BoolOp op [a] pos) t:=λaa s σ H Q I hw=>BoolOp_one (h aa s σ H Q I hw)
def tIf (t:TT)(ta tb:TE):TE:=fun σ H Q=>t σ H λc H1=>if c=true then ta σ H1 Q else tb σ H1 Q
theorem zgp {c:Expr}(hc:PT X c tA)(ha:PE X a ta)(hb:PE X b tb):PE X (.IfExp c a b pos) (tIf tA ta tb):=by
 intro aa s σ H Q I h;refine wpAny_IfExp (thn (hc aa s σ H _ I h) λd s1 ⟨H1,I1,q1⟩=>?_);cases d with
 | true=>exact ha aa s1 σ H1 Q I1 q1
 | false=>exact hb aa s1 σ H1 Q I1 q1
end
end L2
namespace L2
open PySem PySem.Spec PyProof.Rows
def SqL (K:y00)(H:Hp)(a:Addr)(xs:List V):Prop :=
 Rd H a (.lst xs) ∨
  ∃(o:Obj) (its:Array Value) (n:Nat),K.lookup a=some o/\o.cls = .type "list"/\o.dict=none/\o.data = .seq its n/\its.size≤sizeLine/\Vals xs its.toList
def SqT (K:y00)(H:Hp)(a:Addr)(xs:List V):Prop :=
 Rd H a (.tup xs) ∨
  ∃(o:Obj) (its:Array Value) (n:Nat),K.lookup a=some o/\o.cls = .type "tuple"/\o.data = .seq its n/\its.size≤sizeLine/\Vals xs its.toList
def zxe:Value->Option V
 | .none=>some .non
 | .bool b=>some (.bl b)
 | .int i _=>some (.int i)
 | .str x _=>some (.str x)
 | .bytes b _=>some (.byt b)
 | .float b _=>some (.flt b)
 | .ref a=>some (.ref a)
 | .type n=>some (.ty n)
 | _=>none
theorem RelV.abs {x:V}{u:Value}(r:RelV x u):zxe u=some x:=by
 cases x with
 | non=>cases r;rfl
 | bl _=>cases r;rfl
 | int _=>obtain⟨t,rfl⟩:=r;rfl
 | str _=>obtain⟨t,rfl⟩:=r;rfl
 | byt _=>obtain⟨t,rfl⟩:=r;rfl
 | flt _=>obtain⟨t,rfl⟩:=r;rfl
 | ref _=>cases r;rfl
 | ty _=>cases r;rfl
theorem RelV.inj {x y:V}{u:Value}(r:RelV x u)(q:RelV y u):x=y:=y0q (r.abs.symm.trans q.abs)
theorem Vals.inj:∀{xs ys:List V} {us:List Value},Vals xs us->Vals ys us->xs=ys
 | _,_,_,.nil,.nil=>rfl
 | _,_,_,.cons r t,.cons r' t'=>by rw[r.inj r',Vals.inj t t']
section
variable {X:Cx}{aa:List (Addr×Obj)}{σ:St}{H:Hp}{s:Shared}{a:Addr}{xs ys:List V}
theorem SqL.of {K:y00}(h:H a=some (.lst xs)):SqL K H a xs:=.inl (.inl h)
theorem SqT.of {K:y00}(h:H a=some (.tup xs)):SqT K H a xs:=.inl (.inl h)
theorem Inv.list (I:Inv X aa σ H s)(h:SqL X.K H a xs):∃its:List Value,Vals xs its/\PlainL s.heap a its.toArray/\xs.length≤sizeLine:=by
 rcases h with h | ⟨o,its,n,hk,hc,hd,hs,hz,r⟩
 ·obtain⟨z,its,n,r,e⟩:=h.ok I.hok;exact⟨its,r,⟨_,n,e,rfl,rfl,rfl⟩,z⟩
 ·refine⟨its.toList,r,⟨o,n,I.kIn a o hk,hc,hd,by simpa using hs⟩,?_⟩
  have e:=r.length;simp only[y2r] at e;omega
theorem Inv.tuple (I:Inv X aa σ H s)(h:SqT X.K H a xs):∃its:List Value,Vals xs its/\IsTup s.heap a its.toArray/\xs.length≤sizeLine:=by
 rcases h with h | ⟨o,its,n,hk,hc,hs,hz,r⟩
 ·obtain⟨z,its,r,p⟩:=h.ok I.hok;exact⟨its,r,p,z⟩
 ·refine⟨its.toList,r,⟨o,I.kIn a o hk,hc,n,by simpa using hs⟩,?_⟩
  have e:=r.length;simp only[y2r] at e;omega
theorem Inv.list_inj (I:Inv X aa σ H s)(h:SqL X.K H a xs)(h':SqL X.K H a ys):xs=ys:=by
 obtain⟨its,r,⟨o,n,e,_,_,d⟩,_⟩:=I.list h;obtain⟨its',r',⟨o',n',e',_,_,d'⟩,_⟩:=I.list h';rw[e] at e';cases e';rw[d] at d';injection d' with d1 _
 have:its=its':=by simpa using congrArg Array.toList d1
 subst this;exact r.inj r'
theorem Inv.tuple_inj (I:Inv X aa σ H s)(h:SqT X.K H a xs)(h':SqT X.K H a ys):xs=ys:=by
 obtain⟨its,r,⟨o,e,_,n,d⟩,_⟩:=I.tuple h;obtain⟨its',r',⟨o',e',_,n',d'⟩,_⟩:=I.tuple h';rw[e] at e';cases e';rw[d] at d';injection d' with d1 _
 have:its=its':=by simpa using congrArg Array.toList d1
 subst this;exact r.inj r'
end
abbrev Cx.wish (X:Cx)(E:Value->Shared->Prop):Cx:={ X with xe:=E }
abbrev Cx.nox (X:Cx):Cx:=X.wish λ_ _=>False
theorem Cx.Ok.wish {X:Cx}(ok:X.Ok)(E:Value->Shared->Prop):(X.wish E).Ok :=
 ⟨ok.mod,ok.kind,ok.glob,ok.blt,ok.above,ok.inj,ok.has,ok.cab,ok.hd,ok.frames,ok.stk,ok.exf,ok.bs,ok.bsz,ok.noex,ok.exfs,ok.funs,ok.frf⟩
theorem Cx.Ok.unwish {X:Cx}{E:Value->Shared->Prop}(ok:(X.wish E).Ok):X.Ok :=
 ⟨ok.mod,ok.kind,ok.glob,ok.blt,ok.above,ok.inj,ok.has,ok.cab,ok.hd,ok.frames,ok.stk,ok.exf,ok.bs,ok.bsz,ok.noex,ok.exfs,ok.funs,ok.frf⟩
section
variable {X:Cx}{aa:List (Addr×Obj)}{σ:St}{H:Hp}{s:Shared}{E:Value->Shared->Prop}
theorem Inv.wish (I:Inv X aa σ H s)(E:Value->Shared->Prop):Inv (X.wish E) aa σ H s:=⟨I.ok.wish E,I.os,I.bare,I.base,I.loc,I.cell,I.free,I.freeC,I.pin,I.hok,I.len⟩
theorem Inv.unwish (I:Inv (X.wish E) aa σ H s):Inv X aa σ H s:=⟨I.ok.unwish,I.os,I.bare,I.base,I.loc,I.cell,I.free,I.freeC,I.pin,I.hok,I.len⟩
theorem SP.unwish {D:Ends}{f:Flow}{s':Shared}(h:SP (X.wish E) aa D f s'):SP X aa D f s':=by
 cases f with
 | next=>obtain⟨σ',H',I,q⟩:=h;exact⟨σ',H',I.unwish,q⟩
 | brk=>obtain⟨σ',H',I,q⟩:=h;exact⟨σ',H',I.unwish,q⟩
 | cont=>obtain⟨σ',H',I,q⟩:=h;exact⟨σ',H',I.unwish,q⟩
 | ret u=>obtain⟨v,σ',H',I,r,q⟩:=h;exact⟨v,σ',H',I.unwish,r,q⟩
theorem PSs.nox {st:List Stmt}{t:TS}(h:PSs X.nox st t):PSs X st t:=λaa s σ H D I hw =>
 wpAny_mono (h aa s σ H D (I.wish _) hw) (λ_ _ q=>q.unwish) λ_ _ z=>False.elim z
end
section
variable {X:Cx}{st:Stmt}{rest:List Stmt}{t u:TS}{e:Expr}{te:TE}{pos:Pos}
def zkv:TS:=λD σ H=>D.nx σ H
def zwl (t u:TS):TS:=λD σ H=>t { D with nx:=u D } σ H
theorem zle:PSs X [] zkv:=λ_ _ σ H _ I h=>wpAny_execs_nil ⟨σ,H,I,h⟩
theorem zg2 (h1:PS X st t)(h2:PSs X rest u):PSs X (st::rest) (zwl t u):=by
 intro aa s σ H D I h;refine wpAny_execs_cons (thn (h1 aa s σ H { D with nx:=u D } I h) λf s1 q=>?_)
 cases f with
 | next =>
  obtain⟨σ',H',I',q⟩:=q;exact h2 aa s1 σ' H' D I' q
 | ret v=>exact q
 | brk=>exact q
 | cont=>exact q
theorem zbs (h1:PS X st t):PSs X [st] t:=by
 intro aa s σ H D I h;refine wpAny_execs_cons (thn (h1 aa s σ H D I h) λf s1 q=>?_);cases f with
 | next=>exact wpAny_execs_nil q
 | ret v=>exact q
 | brk=>exact q
 | cont=>exact q
theorem zkk:PS X (.Pass pos) zkv:=λ_ _ σ H _ I h=>wpAny_Pass ⟨σ,H,I,h⟩
theorem Inv.quiet {aa:List (Addr×Obj)}{σ:St}{H:Hp}{s:Shared}(I:Inv X aa σ H s):interactive X.env=false:=by simp[interactive,I.ok.kind]
def zq2 (te:TE):TS:=λD σ H=>te σ H λ_ H1=>D.nx σ H1
theorem zjp (he:PE X e te)(hs:swapsWith e none pos.line X.env=pure false:=by rfl):PS X (.Expr e pos) (zq2 te):=by
 intro aa s σ H D I h;exact wpAny_Expr_any (thn (he aa s σ H _ I h) λv s1 ⟨x,H1,I1,r1,q1⟩=>⟨σ,H1,I1,q1⟩) I.quiet hs
def zw6 (te:TE):TS:=λD σ H=>te σ H D.rt
theorem zmi (he:PE X e te):PS X (.Return (some e) pos) (zw6 te):=by
 intro aa s σ H D I h;exact wpAny_Return_some (thn (he aa s σ H _ I h) λv s1 ⟨x,H1,I1,r1,q1⟩=>⟨x,σ,H1,I1,r1,q1⟩)
def zw5 (c:TT)(t u:TS):TS:=λD σ H=>c σ H λb H1=>if b=true then t D σ H1 else u D σ H1
theorem zs8 {c:Expr}{a b:List Stmt}{tc:TT}(hc:PT X c tc)(ha:PSs X a t)(hb:PSs X b u):PS X (.If c a b pos) (zw5 tc t u):=by
 intro aa s σ H D I h;refine wpAny_If (thn (hc aa s σ H _ I h) λd s1 ⟨H1,I1,q1⟩=>?_);cases d with
 | true=>exact ha aa s1 σ H1 D I1 q1
 | false=>exact hb aa s1 σ H1 D I1 q1
end
abbrev TG:=V->St->Hp->(St->Hp->Prop)->Prop
abbrev TGs:=List V->St->Hp->(St->Hp->Prop)->Prop
def PG (X:Cx)(aV:Expr)(t:TG):Prop :=
 ∀(aa:List (Addr×Obj)) (s:Shared) (σ:St) (H:Hp) (v:V) (u:Value) (Q:St->Hp->Prop),Inv X aa σ H s->RelV v u->t v σ H Q ->
  wpAny (model X.prog X.w) X.A (assign aV X.env u) (λ_ s'=>∃ σ' H',Inv X aa σ' H' s'/\Q σ' H') X.xe s
def PGs (X:Cx)(ts:List Expr)(t:TGs):Prop :=
 ∀(aa:List (Addr×Obj)) (s:Shared) (σ:St) (H:Hp) (vs:List V) (us:List Value) (Q:St->Hp->Prop),Inv X aa σ H s->Vals vs us->t vs σ H Q ->
  wpAny (model X.prog X.w) X.A (assignInOrder ((assignEach ts X.env).map (·.2)) us) (λ_ s'=>∃ σ' H',Inv X aa σ' H' s'/\Q σ' H') X.xe s
abbrev zps:=V->V->V->Hp->(Hp->Prop)->Prop
def zrp (X:Cx)(t:zps):Prop :=
 ∀(aa:List (Addr×Obj)) (s:Shared) (σ:St) (H:Hp) (o i v:V) (ov iv u:Value) (Q:Hp->Prop),Inv X aa σ H s->RelV o ov->RelV i iv->RelV v u->t o i v H Q ->
  wpAny (model X.prog X.w) X.A (setItem ov iv u) (λ_ s'=>∃H',Inv X aa σ H' s'/\Q H') X.xe s
abbrev TIp:=V->V->Hp->VK->Prop
def PIp (X:Cx)(op:Operator)(t:TIp):Prop :=
 ∀(aa:List (Addr×Obj)) (s:Shared) (σ:St) (H:Hp) (x y:V) (v u:Value) (Q:VK),Inv X aa σ H s->RelV x v->RelV y u->t x y H Q ->
  wpAny (model X.prog X.w) X.A (inplaceOp op v u) (EP X aa σ Q) X.xe s
section
variable {X:Cx}{pos:Pos}
def z1m (i:Nat):TG:=λv σ H Q=>Q (σ.set i (some v)) H
theorem zl7 {i:Nat}{x:Str}(hN:X.N.Nodup)(hi:X.N[i]?=some x)(hx:Loc X.env.scope x)(hf:X.fn x=true∨X.env.scope.names.lookup x=some .local:=by first | exact .inl rfl | exact .inr rfl | assumption):PG X (.Name x pos) (z1m i):=by
 intro aa s σ H v u Q I r h;exact wpAny_assign_Name (z3j I hN hi hx r (λs' I'=>⟨_,H,I',h⟩) hf)
def zxu:TGs:=λvs σ H Q=>vs = []/\Q σ H
def zsy (t:TG)(u:TGs):TGs:=λvs σ H Q=>∃v r,vs=v::r/\t v σ H fun σ' H'=>u r σ' H' Q
theorem zc3:PGs X [] zxu:=by
 intro aa s σ H vs us Q I r h;obtain⟨e,h⟩:=h;subst e;cases r;exact assignInOrder_nil ⟨σ,H,I,h⟩
theorem z2e {e:Expr}{es:List Expr}{t:TG}{u:TGs}(h1:PG X e t)(h2:PGs X es u)
  (hs:(assignEach (e::es) X.env).map (·.2)=assign e X.env::(assignEach es X.env).map (·.2):=by rfl):PGs X (e::es) (zsy t u):=by
 intro aa s σ H vs us Q I r h;obtain⟨v,vr,e1,h⟩:=h;subst e1;cases r with
 | cons r rr =>
  rw[hs];refine assignInOrder_cons (thn (h1 aa s σ H _ _ _ I r h) λ_ s1 ⟨σ1,H1,I1,q1⟩=>?_);exact h2 aa s1 σ1 H1 _ _ Q I1 rr q1
def zy2 (K:y00)(n:Nat)(t:TGs):TG:=λv σ H Q=>∃a xs,v = .ref a/\SqT K H a xs/\xs.length=n/\t xs σ H Q
theorem zhj {es:List Expr}{k:Nat}{t:TGs}{n:Nat}(hc:X.calm=true)(h:PGs X es t)
  (hn:(assignEach es X.env).length=n:=by rfl) (hst:(assignEach es X.env).findIdx? (·.1)=none:=by rfl):PG X (.Tuple es k pos) (zy2 X.K n t):=by
 intro aa s σ H v u Q I r hw;obtain⟨a,xs,e1,hq,hl,hw⟩:=hw;subst e1;cases r;obtain⟨its,rv,ht,hz⟩:=I.tuple hq;refine assign_Tuple_tuple (I.ok.hd hc) ht (by simp[hn,←hl,rv.length]) hst λh' hx=>?_
 have I1:Inv X aa σ H { s with heap:=h' }:=I.kept (t':=s.toks) λb o e=>hx b o (y06 (Heap.lt_size e)) e
 exact h aa _ σ H xs _ Q I1 (by simpa using rv) hw
def zsb (to ti:TE)(t:zps):TG:=λv σ H Q=>to σ H λo H1=>ti σ H1 λi H2=>t o i v H2 λH3=>Q σ H3
theorem zq3 {o i:Expr}{to ti:TE}{t:zps}(ho:PE X o to)(hi:PE X i ti)(hs:zrp X t)
  (ha:∀v,assign (.Subscript o i pos) X.env v=(do
   let ov ←holding [v] (eval o X.env)
   let iv ←holding [v,ov] (eval i X.env)
   standAt pos
   holding [v,ov,iv] (setItem ov iv v)
   release [v,ov,iv] []):=by intro _;rfl):PG X (.Subscript o i pos) (zsb to ti t):=by
 intro aa s σ H v u Q I r h;rw[ha];refine wpAny_bind (wpAny_holding (thn (ho aa s σ H _ I h) λov s1 ⟨x,H1,I1,r1,q1⟩=>?_));refine wpAny_bind (wpAny_holding (thn (hi aa s1 σ H1 _ I1 q1) λiv s2 ⟨y,H2,I2,r2,q2⟩=>?_));refine wpAny_bind (wpAny_standAt (wpAny_bind (wpAny_holding (thn (hs aa s2 σ H2 x y v ov iv u _ I2 r1 r2 r q2) λ_ s3 ⟨H3,I3,q3⟩=>?_))));exact wpAny_release ⟨σ,H3,I3,q3⟩
def zi7 (te:TE)(g:TG):TS:=λD σ H=>te σ H λx H1=>g x σ H1 D.nx
theorem zqd {tg e:Expr}{te:TE}{g:TG}(he:PE X e te)(hg:PG X tg g)(hs:swapsWithSole [tg] e pos.line X.env=pure false:=by rfl)(hw:swappedStores [tg] e X.env=pure none:=by rfl)
  (h1:(assignEach [tg] X.env).map (·.2) = [assign tg X.env]:=by rfl):PS X (.Assign [tg] e pos) (zi7 te g):=by
 intro aa s σ H D I h;refine wpAny_Assign_stores (thn (he aa s σ H _ I h) λv s1 ⟨x,H1,I1,r1,q1⟩=>?_) hs hw;rw[h1];exact thn (hg aa s1 σ H1 x v _ I1 r1 q1) λ_ s2 q=>q
theorem zhf {i:Nat}{x:Str}{e:Expr}{te:TE}{au:Pos}(hN:X.N.Nodup)(hi:X.N[i]?=some x)(hx:Loc X.env.scope x)(he:PE X e te)(hs:swapsWith e (some (.Name x au)) pos.line X.env=pure false:=by rfl)(hf:X.fn x=true∨X.env.scope.names.lookup x=some .local:=by first | exact .inl rfl | exact .inr rfl | assumption) :
  PS X (.Assign [.Name x au] e pos) (zi7 te (z1m i)):=by
 intro aa s σ H D I h;refine wpAny_Assign_Name (thn (he aa s σ H _ I h) λv s1 ⟨y,H1,I1,r1,q1⟩=>?_) hs;exact z3j I1 hN hi hx r1 (λs2 I2=>⟨_,H1,I2,q1⟩) hf
def zpz (to ti te:TE)(tget:V->V->Hp->VK->Prop)(tip:TIp)(tset:zps):TS:=λD σ H=>to σ H λo H1=>ti σ H1 λi H2=>tget o i H2 λx H3=>te σ H3 λy H4=>tip x y H4 λz H5=>tset o i z H5 λH6=>D.nx σ H6
def zvr (X:Cx)(t:V->V->Hp->VK->Prop):Prop :=
 ∀(aa:List (Addr×Obj)) (s:Shared) (σ:St) (H:Hp) (o i:V) (ov iv:Value) (Q:VK),Inv X aa σ H s->RelV o ov->RelV i iv->t o i H Q ->
  wpAny (model X.prog X.w) X.A (getItem ov iv) (EP X aa σ Q) X.xe s
theorem zkg {o i e:Expr}{to ti te:TE}{tget:V->V->Hp->VK->Prop}{tip:TIp}{tset:zps}{op:Operator}{tpos:Pos}(ho:PE X o to)(hi:PE X i ti)(hg:zvr X tget)(he:PE X e te)(hp:PIp X op tip)(hs:zrp X tset)
  (ha:∀ov iv new,augStore i ov iv new=(do holding [new,ov,iv] (setItem ov iv new);release [new,ov,iv] [];pure .next):=by intros;rfl):PS X (.AugAssign (.Subscript o i tpos) op e pos) (zpz to ti te tget tip tset):=by
 intro aa s σ H D I h;refine wpAny_AugAssign_SubscriptAny (thn (ho aa s σ H _ I h) λov s1 ⟨x1,H1,I1,r1,q1⟩=>?_) ha;refine thn (hi aa s1 σ H1 _ I1 q1) λiv s2 ⟨x2,H2,I2,r2,q2⟩=>?_;refine thn (hg aa s2 σ H2 x1 x2 ov iv _ I2 r1 r2 q2) λold s3 ⟨x3,H3,I3,r3,q3⟩=>?_;refine thn (he aa s3 σ H3 _ I3 q3) λv s4 ⟨x4,H4,I4,r4,q4⟩=>?_;refine thn (hp aa s4 σ H4 x3 x4 old v _ I4 r3 r4 q4) λnew s5 ⟨x5,H5,I5,r5,q5⟩=>?_;exact thn (hs aa s5 σ H5 x1 x2 x5 ov iv new _ I5 r1 r2 r5 q5) λ_ s6 ⟨H6,I6,q6⟩=>⟨σ,H6,I6,q6⟩
def ipI (f:Int->Int->Int):TIp:=λx y H Q=>∃i j,x = .int i/\y = .int j/\Q (.int (f i j)) H
theorem zlu:PIp X .Add (ipI λi j=>i+j):=by
 intro aa s σ H x y v u Q I r1 r2 h;obtain⟨i,j,e1,e2,q⟩:=h;subst e1;subst e2;obtain⟨t,rfl⟩:=r1;obtain⟨t',rfl⟩:=r2;exact iadd_int ⟨.int _,H,I.tok _,⟨_,rfl⟩,q⟩
theorem zlr:PIp X .Sub (ipI λi j=>i - j):=by
 intro aa s σ H x y v u Q I r1 r2 h;obtain⟨i,j,e1,e2,q⟩:=h;subst e1;subst e2;obtain⟨t,rfl⟩:=r1;obtain⟨t',rfl⟩:=r2;exact isub_int ⟨.int _,H,I.tok _,⟨_,rfl⟩,q⟩
end
section
variable {X:Cx}{pos:Pos}
end
structure It where
 go:Nat->Hp->Prop
 yld:Nat->Hp->V->Hp->Prop
 stop:Nat->Hp->Prop
def zcb (X:Cx)(aa:List (Addr×Obj))(H:Hp)(b:Addr):Prop :=
 H b=none/\b≠X.env.locals/\b ∉ X.fs/\(b∈X.ex∨X.s₀.heap.objs.size≤b)/\(∀x c,X.env.cells.lookup x=some c->c≠b)/\∀p∈X.pn++aa,p.1≠b
theorem Inv.fpOk {X:Cx}{aa:List (Addr×Obj)}{σ:St}{H H':Hp}{s:Shared}{b:Addr}(I:Inv X aa σ H s)(hb:s.heap.objs.size≤b)(hn:H' b=none):zcb X aa H' b:=by
 refine⟨hn,y1j (y04 I.lt hb),I.nofs hb,.inr (y0j I.sz hb),λx c e z=>?_,λp hp z=>?_⟩
 ·obtain⟨v,q⟩:=I.cell x c e;exact absurd (y04 q.lt (by rw[z];exact hb)) (y1c _)
 ·exact absurd (y04 (Heap.lt_size (I.pin p hp).1) (by rw[z];exact hb)) (y1c _)
structure Turn (P:Program)(w:World)(K:y00)(tg:Expr)(J:It)(fp:List Addr)(it:Addr)(tn:Nat->Heap->Prop):Prop where
 mem:it∈fp
 obj:∀i h,tn i h->∀b∈fp,∃o,h.get? b=some o/\∀v,o.data ≠ .cell v
 keep:∀i h h',tn i h->(∀b∈fp,∀o,h.get? b=some o->h'.get? b=some o)->tn i h'
 item:∀(X:Cx),X.prog=P->X.w=w->X.K=K->X.calm=true->∀(i:Nat) (aa:List (Addr×Obj)) (s:Shared) (σ:St) (H:Hp) (E:Value->Shared->Prop),Inv X aa σ H s->(∀b∈fp,zcb X aa H b)->tn i s.heap->J.go i H ->
  wpAny (model P w) X.A (pyNext (.ref it)) (λr s1=>∃u,r=some u /\
   wpAny (model P w) X.A (letOwnedTupleGo tg (.ref it) u) (λ_ s2=>∃x H',Inv X aa σ H' s2/\RelV x u/\J.yld i H x H'/\tn (i+1) s2.heap/\∀b∈fp,H' b=none) E s1) E s
 done:∀(X:Cx),X.prog=P->X.w=w->X.K=K->X.calm=true->∀(i:Nat) (aa:List (Addr×Obj)) (s:Shared) (σ:St) (H:Hp) (E:Value->Shared->Prop),Inv X aa σ H s->(∀b∈fp,zcb X aa H b)->tn i s.heap->J.stop i H ->
  wpAny (model P w) X.A (pyNext (.ref it)) (λr s1=>r=none/\Inv X aa σ H s1) E s
 self:∀(A:Around) (i:Nat) (s:Shared) (Q:Value->Shared->Prop) (E:Value->Shared->Prop),tn i s.heap->Q (.ref it) s->wpAny (model P w) A (pyIter (.ref it)) Q E s
abbrev TI:=St->Hp->(It->Hp->Prop)->Prop
def PIE (X:Cx)(aa:List (Addr×Obj))(σ:St)(tg:Expr)(R:It->Hp->Prop)(itv:Value)(s2:Shared):Prop :=
 ∃(it:Addr) (fp:List Addr) (tn:Nat->Heap->Prop) (J:It) (H':Hp),itv = .ref it/\Inv X aa σ H' s2/\Turn X.prog X.w X.K tg J fp it tn/\tn 0 s2.heap/\(∀b∈fp,zcb X aa H' b)/\R J H'
def PI (X:Cx)(tg iter:Expr)(wi:TI):Prop :=
 ∀(aa:List (Addr×Obj)) (s:Shared) (σ:St) (H:Hp) (R:It->Hp->Prop),Inv X aa σ H s->wi σ H R ->
  wpAny (model X.prog X.w) X.A (eval iter X.env) (λv s1=>wpAny (model X.prog X.w) X.A (pyIter v) (PIE X aa σ tg R) X.xe s1) X.xe s
theorem zco {M:Model}{A:Around}{E:Value->Shared->Prop}{s:Shared}{tg:Expr}{it:Addr}{u:Value}{o:Obj}{n:String}{vs:Array Value}{Q:Unit->Shared->Prop}(ho:s.heap.get? it=some o)(hc:o.cls = .type n)(hd:o.data = .fields vs)
  (hn:["enumerate","zip","dict_itemiterator","dict_reverseitemiterator","odict_iterator","itertools.zip_longest","itertools.pairwise"].contains n=false) (hQ:Q () s):wpAny M A (letOwnedTupleGo tg (.ref it) u) Q E s:=by
 unfold letOwnedTupleGo;cases tg<;>first
  | exact wpAny_pure hQ
  | (cases u<;>first
    | exact wpAny_pure hQ
    | (refine wpAny_bind (wpAny_load ho ?_)
       rw[hc,hd];show wpAny M A (if (["enumerate","zip","dict_itemiterator","dict_reverseitemiterator","odict_iterator","itertools.zip_longest","itertools.pairwise"].contains n&&vs[0]?==some (rawInt _))=true then _ else _) Q E s
       rw[if_neg (by intro h;rw[hn,y5s] at h;cases h)]
       exact wpAny_pure hQ))
def Itl (K:y00)(a:Addr):It :=
 ⟨λi H=>∃xs x,SqL K H a xs/\xs[i]?=some x,λi H x H'=>H'=H/\∀xs,SqL K H a xs->xs[i]?=some x,λi H=>∃xs,SqL K H a xs/\xs.length≤i⟩
def Itt (K:y00)(a:Addr):It :=
 ⟨λi H=>∃xs x,SqT K H a xs/\xs[i]?=some x,λi H x H'=>H'=H/\∀xs,SqT K H a xs->xs[i]?=some x,λi H=>∃xs,SqT K H a xs/\xs.length≤i⟩
def Itr (lo:Int)(n:Nat):It:=⟨λi _=>i<n,λi H x H'=>H'=H/\x = .int (lo+i),λi _=>n≤i⟩
theorem zdt {P:Program}{w:World}{K:y00}{tg:Expr}(a it:Addr):Turn P w K tg (Itl K a) [it] it (λi h=>h.IsListIter it a i) where
 mem:=by simp
 obj:=λi h st b hb=>by
  have e:b=it:=by simpa using hb
  subst e;obtain⟨o,e,c,d⟩:=st;exact⟨o,e,λv z=>by rw[d] at z;cases z⟩
 keep:=λi h h' st k=>st.at λo e=>k it (by simp) o e
 item:=by
  intro X hP hw hK hc i aa s σ H E I hf st hg;subst hP hw hK;obtain⟨xs,x,hq,hx⟩:=hg;obtain⟨its,rv,p,hz⟩:=I.list hq;obtain⟨u,hu,ru⟩:=rv.get hx;obtain⟨f0,f1,f2,f3,f4,f5⟩:=hf it (by simp)
  refine wpAny_pyNext_list_item st p.isList (x:=u) (by simpa using hu) λh' st' sb=>?_
  have I1:Inv X aa σ H { s with heap:=h' }:=I.turned (t':=s.toks) (λb o hb e=>(sb.2 b hb).trans e) f0 f1 f3 f4 f5
  obtain⟨o,e,c,d⟩:=id st';exact⟨u,rfl,zco (s:={ s with heap:=h' }) e c d (by decide) ⟨x,H,I1,ru,⟨rfl,λys hy=>by rw[I.list_inj hy hq];exact hx⟩,st',λb hb=>(hf b hb).1⟩⟩
 done:=by
  intro X hP hw hK hc i aa s σ H E I hf st hg;subst hP hw hK;obtain⟨xs,hq,hx⟩:=hg;obtain⟨its,rv,p,hz⟩:=I.list hq;obtain⟨f0,f1,f2,f3,f4,f5⟩:=hf it (by simp)
  have hl:=rv.length;exact wpAny_pyNext_list_end (I.ok.hd hc) st p.isList (by simp;omega) λh' eb=>⟨rfl,I.turned (t':=s.toks) (λb o hb e=>eb b o hb e) f0 f1 f3 f4 f5⟩
 self:=λ_ _ _ _ _ st h=>wpAny_pyIter_listiter st h
theorem zaf {P:Program}{w:World}{K:y00}{tg:Expr}(a it:Addr):Turn P w K tg (Itt K a) [it] it (λi h=>h.IsTupleIter it a i) where
 mem:=by simp
 obj:=λi h st b hb=>by
  have e:b=it:=by simpa using hb
  subst e;obtain⟨o,e,c,d⟩:=st;exact⟨o,e,λv z=>by rw[d] at z;cases z⟩
 keep:=λi h h' st k=>st.at λo e=>k it (by simp) o e
 item:=by
  intro X hP hw hK hc i aa s σ H E I hf st hg;subst hP hw hK;obtain⟨xs,x,hq,hx⟩:=hg;obtain⟨its,rv,p,hz⟩:=I.tuple hq;obtain⟨u,hu,ru⟩:=rv.get hx;obtain⟨f0,f1,f2,f3,f4,f5⟩:=hf it (by simp)
  refine wpAny_pyNext_tuple_item st (show s.heap.IsTuple a its.toArray from p) (x:=u) (by simpa using hu) λh' st' sb=>?_
  have I1:Inv X aa σ H { s with heap:=h' }:=I.turned (t':=s.toks) (λb o hb e=>(sb.2 b hb).trans e) f0 f1 f3 f4 f5
  obtain⟨o,e,c,d⟩:=id st';exact⟨u,rfl,zco (s:={ s with heap:=h' }) e c d (by decide) ⟨x,H,I1,ru,⟨rfl,λys hy=>by rw[I.tuple_inj hy hq];exact hx⟩,st',λb hb=>(hf b hb).1⟩⟩
 done:=by
  intro X hP hw hK hc i aa s σ H E I hf st hg;subst hP hw hK;obtain⟨xs,hq,hx⟩:=hg;obtain⟨its,rv,p,hz⟩:=I.tuple hq;obtain⟨f0,f1,f2,f3,f4,f5⟩:=hf it (by simp)
  have hl:=rv.length;exact wpAny_pyNext_tuple_end (I.ok.hd hc) st (show s.heap.IsTuple a its.toArray from p) (by simp;omega) λh' eb=>⟨rfl,I.turned (t':=s.toks) (λb o hb e=>eb b o hb e) f0 f1 f3 f4 f5⟩
 self:=λ_ _ _ _ _ st h=>wpAny_pyIter_tupleiter st h
theorem zag {P:Program}{w:World}{K:y00}{tg:Expr}(it:Addr)(lo:Int)(n:Nat):Turn P w K tg (Itr lo n) [it] it (λi h=>IsRangeIter h it (lo+(i:Nat)*1) ((n:Int) - (i:Nat)) 1) where
 mem:=by simp
 obj:=λi h st b hb=>by
  have e:b=it:=by simpa using hb
  subst e;exact⟨_,st,λv z=>by
   have z':Data.fields _=Data.cell v:=z;cases z'⟩
 keep:=λi h h' st k=>k it (by simp) _ st
 item:=by
  intro X hP hw hK hc i aa s σ H E I hf st hg;subst hP hw hK;obtain⟨f0,f1,f2,f3,f4,f5⟩:=hf it (by simp)
  have W:=Walks.range (prog:=X.prog) (w:=X.w) (I.ok.hd hc) it lo 1 n;refine W.item i s _ _ hg st λv h' tk hv st' kk=>?_;obtain⟨t,rfl⟩:=hv;have I1:Inv X aa σ H { s with heap:=h',toks:=tk }:=I.turned (λb o hb e=>kk b o (by simpa using hb) e) f0 f1 f3 f4 f5
  refine⟨_,rfl,zco (s:={ s with heap:=h',toks:=tk }) (n:="range_iterator") st' rfl rfl (by decide) ⟨.int (lo+i),H,I1,⟨t,?_⟩,⟨rfl,rfl⟩,st',λb hb=>(hf b hb).1⟩⟩
  rw[Int.mul_one]
 done:=by
  intro X hP hw hK hc i aa s σ H E I hf st hg;subst hP hw hK;obtain⟨f0,f1,f2,f3,f4,f5⟩:=hf it (by simp)
  exact wpAny_pyNext_range_end (I.ok.hd hc) st (by have:n≤i:=hg;omega) λh' eb=>⟨rfl,I.turned (t':=s.toks) (λb o hb e=>eb b o hb e) f0 f1 f3 f4 f5⟩
 self:=λ_ _ _ _ _ st h=>wpAny_pyIter_rangeiter st h
end L2
namespace L2
open PySem PySem.Spec PyProof.Rows
section
variable {X:Cx}{tg:Expr}
theorem zgb {aa:List (Addr×Obj)}{σ:St}{H:Hp}{s:Shared}{R:It->Hp->Prop}{E:Value->Shared->Prop}{lo hi:Int}{t u v:Tok}{tk:Nat}(I:Inv X aa σ H s)(h1:-(2^62)≤lo)(h2:lo<2^62)(h3:-(2^62)≤hi)(h4:hi<2^62)
  (q:R (Itr lo (hi - lo).toNat) H):wpAny (model X.prog X.w) X.A (pyIter (.ref s.heap.objs.size)) (PIE X aa σ tg R) E { s with heap:=s.heap.push { cls:=.type "range",data:=.fields #[.int lo t,.int hi u,.int 1 v] },toks:=tk }:=by
 refine wpAny_pyIter_range (IsRange.new ..) (small_one h1 h2 h3 h4) ?_;have I1:Inv X aa σ H { s with heap:=s.heap.push { cls:=.type "range",data:=.fields #[.int lo t,.int hi u,.int 1 v] },toks:=tk }:=I.kept λb o e=>Heap.get?_push_of_some _ e
 refine⟨(s.heap.push { cls:=.type "range",data:=.fields #[.int lo t,.int hi u,.int 1 v] }).objs.size,[(s.heap.push { cls:=.type "range",data:=.fields #[.int lo t,.int hi u,.int 1 v] }).objs.size],_,_,H,rfl,
  I1.kept (t':=tk) λb o e=>Heap.get?_push_of_some _ e,zag _ lo (hi - lo).toNat,?_,λb hb=>?_,q⟩
 ·have e1:lo+((0:Nat):Int)*1=lo:=by simp
  have e2:(((hi - lo).toNat:Nat):Int) - ((0:Nat):Int)=Builtin.Range.rangeSize lo hi 1:=by rw[rangeSize_one];split<;>omega
  show IsRangeIter _ _ (lo+((0:Nat):Int)*1) ((((hi - lo).toNat:Nat):Int) - ((0:Nat):Int)) 1;rw[e1,e2];exact Heap.get?_push_size _ rfl
 ·have e:b=(s.heap.push { cls:=.type "range",data:=.fields #[.int lo t,.int hi u,.int 1 v] }).objs.size:=by simpa using hb
  subst e;exact I1.fpOk (y08 _) (I1.hok.fresh (y08 _))
def zxp (wi:TI)(g:TG)(tb:TS):TS:=λD σ H=>wi σ H λJ H1=>∃W:Nat->Nat->St->Hp->Prop,(∃m,W 0 m σ H1)/\∀i m σ H,W i m σ H ->
 (J.stop i H/\D.nx σ H)∨(J.go i H/\∃N:St->Hp->Prop,(∀ σ' H',N σ' H'->∃m',m'<m/\W (i+1) m' σ' H')/\∀x H',J.yld i H x H'->g x σ H' fun σ2 H2=>tb { D with nx:=N,ct:=N,bk:=D.nx } σ2 H2)
def z6m (fp:List Addr)(h:Heap):List (Addr×Obj):=fp.filterMap λb=>(h.get? b).map λo=>(b,o)
theorem z32 {fp:List Addr}{h:Heap}{b:Addr}{o:Obj}(hb:b∈fp)(e:h.get? b=some o):(b,o)∈z6m fp h:=y2d.mpr ⟨b,hb,by rw[e];rfl⟩
theorem zc6 {fp:List Addr}{h:Heap}{p:Addr×Obj}(hp:p∈z6m fp h):p.1∈fp/\h.get? p.1=some p.2:=by
 obtain⟨b,hb,e⟩:=y2d.mp hp;cases q:h.get? b with
 | none=>rw[q] at e;cases e
 | some o =>
  rw[q] at e;have e':(b,o)=p:=y0q e;subst e';exact⟨hb,q⟩
theorem Inv.pinned {aa:List (Addr×Obj)}{σ:St}{H:Hp}{s:Shared}{fp:List Addr}(I:Inv X aa σ H s)(hf:∀b∈fp,zcb X aa H b)(ho:∀b∈fp,∃o,s.heap.get? b=some o/\∀v,o.data ≠ .cell v):Inv X (aa++z6m fp s.heap) σ H s :=
 I.pins_of λp hp=>(y1y.mp hp).elim (λz=>I.pin p (y05 _ z)) λz=>by
  obtain⟨hb,e⟩:=zc6 z;obtain⟨f0,f1,f2,_⟩:=hf p.1 hb;obtain⟨o,e',d⟩:=ho p.1 hb;rw[e] at e';cases e';exact⟨e,f0,f1,f2,d⟩
theorem Inv.unpinned {aa pl:List (Addr×Obj)}{σ:St}{H:Hp}{s:Shared}(I:Inv X (aa++pl) σ H s):Inv X aa σ H s:=I.pins_of λp hp=>I.pin p (y05 _ (y03 _ hp))
theorem zp2 {iter:Expr}{body:List Stmt}{wi:TI}{g:TG}{tb:TS}{pos:Pos}(hp:PassesOwn (model X.prog X.w) X.A X.env X.xe)(hc:X.calm=true)(hi:PI X tg iter wi)(hg:PG X tg g)(hb:PSs X body tb)
  (hs:∀x,foldedSetIterable iter X.env x=pure x:=by intro _;rfl):PS X (.For tg iter body [] pos) (zxp wi g tb):=by
 intro aa s σ H D I h;refine wpAny_For (thn (hi aa s σ H _ I h) λv s1 h1=>thn h1 λitv s2 h2=>?_) hs;obtain⟨it,fp,tn,J,H2,e,I2,T,st2,f2,W,⟨m0,w0⟩,turn⟩:=h2;subst e;have stat:∀{H':Hp},(∀b∈fp,H' b=none)->∀b∈fp,zcb X aa H' b:=λhn b hb=>⟨hn b hb,(f2 b hb).2⟩;refine codeAny_forLoop_any (λn s'=>∃i σ' H',Inv X aa σ' H' s'/\tn i s'.heap/\(∀b∈fp,H' b=none)/\W i n σ' H') ?_ m0 ⟨0,σ,H2,I2,st2,λb hb=>(f2 b hb).1,w0⟩;rintro n s3 ⟨i,σ3,H3,I3,st3,fr3,w3⟩;rcases turn i n σ3 H3 w3 with ⟨stop,qn⟩ | ⟨go,N,hN,step⟩
 ·refine wpAny_passesOwn hp (thn (T.done X rfl rfl rfl hc i aa s3 σ3 H3 X.xe I3 (stat fr3) st3 stop) λr s4 ⟨hr,I4⟩=>?_);subst hr;exact wpAny_execs_nil ⟨σ3,H3,I4,qn⟩
 ·refine wpAny_passesOwn hp (thn (T.item X rfl rfl rfl hc i aa s3 σ3 H3 X.xe I3 (stat fr3) st3 go) λr s4 ⟨u,hr,h4⟩=>?_);subst hr;refine wpAny_passesOwn hp (thn h4 λ_ s5 ⟨x,H5,I5,r5,y5,st5,fr5⟩=>?_);have I5':=I5.pinned (stat fr5) (T.obj _ _ st5);refine wpAny_passesOwn hp (thn (hg _ s5 σ3 H5 x u _ I5' r5 (step x H5 y5)) λ_ s6 ⟨σ6,H6,I6,q6⟩=>?_);refine wpAny_passesOwn hp (thn (hb _ s6 σ6 H6 _ I6 q6) λf s7 q7=>?_);have again:∀{σ7:St} {H7:Hp},Inv X (aa++z6m fp s5.heap) σ7 H7 s7->N σ7 H7->∃m,m<n/\∃i σ' H',Inv X aa σ' H' s7/\tn i s7.heap/\(∀b∈fp,H' b=none)/\W i m σ' H':=λ{σ7 H7} I7 n7=>by
   obtain⟨m',hm,w7⟩:=hN σ7 H7 n7;refine⟨m',hm,i+1,σ7,H7,I7.unpinned,T.keep _ _ _ st5 λb hb o e=>(I7.pin (b,o) (y05 _ (y05 _ (z32 hb e)))).1,λb hb=>?_,w7⟩;obtain⟨o,e,d⟩:=T.obj _ _ st5 b hb;exact(I7.pin (b,o) (y05 _ (y05 _ (z32 hb e)))).2.1
  cases f with
  | next=>obtain⟨σ7,H7,I7,n7⟩:=q7;exact again I7 n7
  | cont=>obtain⟨σ7,H7,I7,n7⟩:=q7;exact again I7 n7
  | brk=>obtain⟨σ7,H7,I7,q7⟩:=q7;exact⟨σ7,H7,I7.unpinned,q7⟩
  | ret v=>obtain⟨x7,σ7,H7,I7,r7,q7⟩:=q7;exact⟨x7,σ7,H7,I7.unpinned,r7,q7⟩
end
end L2
namespace L2
open PySem PySem.Spec PyProof.Rows
abbrev R2:=V->V->Hp->VK->Prop
def OpR (X:Cx)(f:Value->Value->Sem Value)(r:R2):Prop :=
 ∀(aa:List (Addr×Obj)) (s:Shared) (σ:St) (H:Hp) (x y:V) (v u:Value) (Q:VK),Inv X aa σ H s->RelV x v->RelV y u->r x y H Q ->
  wpAny (model X.prog X.w) X.A (f v u) (EP X aa σ Q) X.xe s
def UnR (X:Cx)(f:Value->Sem Value)(r:V->Hp->VK->Prop):Prop :=
 ∀(aa:List (Addr×Obj)) (s:Shared) (σ:St) (H:Hp) (x:V) (v:Value) (Q:VK),Inv X aa σ H s->RelV x v->r x H Q ->
  wpAny (model X.prog X.w) X.A (f v) (EP X aa σ Q) X.xe s
def CallR (X:Cx)(f:Value)(r:List V->Hp->VK->Prop):Prop :=
 ∀(aa:List (Addr×Obj)) (s:Shared) (σ:St) (H:Hp) (xs:List V) (us:List Value) (Q:VK),Inv X aa σ H s->Vals xs us->r xs H Q ->
  wpAny (model X.prog X.w) X.A (call f us) (EP X aa σ Q) X.xe s
def tOp (r:R2)(ta tb:TE):TE:=fun σ H Q=>ta σ H λx H1=>tb σ H1 λy H2=>r x y H2 Q
def tUn (r:V->Hp->VK->Prop)(ta:TE):TE:=fun σ H Q=>ta σ H λx H1=>r x H1 Q
def rI (C:Int->Int->Prop)(g:Int->Int->V):R2:=λx y H Q=>∃i j,x = .int i/\y = .int j/\C i j/\Q (g i j) H
def rI0 (g:Int->Int->V):R2:=λx y H Q=>∃i j,x = .int i/\y = .int j/\Q (g i j) H
def rU (g:Int->V):V->Hp->VK->Prop:=λx H Q=>∃i,x = .int i/\Q (g i) H
section
variable {X:Cx}{a b c:Expr}{ta tb tc:TE}{pos:Pos}
theorem zuk (ha:PE X a ta)(hb:PE X b tb){aa:List (Addr×Obj)}{s:Shared}{σ:St}{H:Hp}{R:V->V->Hp->Prop}(I:Inv X aa σ H s)
  (h:ta σ H λx H1=>tb σ H1 λy H2=>R x y H2) {Q:Value->Shared->Prop} {f:Value->Value->Sem Value}
  (hf:∀v u s2 x y H2,Inv X aa σ H2 s2->RelV x v->RelV y u->R x y H2->wpAny (model X.prog X.w) X.A (f v u) Q X.xe s2) :
  wpAny (model X.prog X.w) X.A (eval a X.env) (λv s₁=>wpAny (model X.prog X.w) X.A (eval b X.env) (λu s₂=>wpAny (model X.prog X.w) X.A (f v u) Q X.xe s₂) X.xe s₁) X.xe s:=by
 refine thn (ha aa s σ H _ I h) λv s1 ⟨x,H1,I1,r1,q1⟩=>?_;refine thn (hb aa s1 σ H1 _ I1 q1) λu s2 ⟨y,H2,I2,r2,q2⟩=>?_;exact hf v u s2 x y H2 I2 r1 r2 q2
theorem zus {op:Operator}{r:R2}(ho:OpR X (binaryOp op) r)(ha:PE X a ta)(hb:PE X b tb):PE X (.BinOp a op b pos) (tOp r ta tb):=by
 intro aa s σ H Q I h;exact wpAny_BinOp (zuk ha hb I h λv u s2 x y H2 I2 rx ry q=>ho aa s2 σ H2 x y v u Q I2 rx ry q)
theorem zvb {op:UnaryOp}{r:V->Hp->VK->Prop}(ho:UnR X (unaryOp op) r)(ha:PE X a ta):PE X (.UnaryOp op a pos) (tUn r ta):=by
 intro aa s σ H Q I h;exact UnaryOp_ (thn (ha aa s σ H _ I h) λv s1 ⟨x,H1,I1,r1,q1⟩=>ho aa s1 σ H1 x v Q I1 r1 q1)
theorem opI {f:Value->Value->Sem Value}{C:Int->Int->Prop}{g:Int->Int->Int}
  (rule:∀(i j:Int) (t u:Tok) (s:Shared) (Q:Value->Shared->Prop) (E:Value->Shared->Prop),C i j->Q (.int (g i j) s.toks) { s with toks:=s.toks+1 }->wpAny (model X.prog X.w) X.A (f (.int i t) (.int j u)) Q E s) :
  OpR X f (rI C λi j=>.int (g i j)):=by
 intro aa s σ H x y v u Q I rx ry h;obtain⟨i,j,rfl,rfl,hc,q⟩:=h;obtain⟨t,rfl⟩:=rx;obtain⟨t',rfl⟩:=ry;exact rule i j t t' s _ _ hc ⟨.int (g i j),H,I.tok _,⟨_,rfl⟩,q⟩
theorem zx1 {f:Value->Value->Sem Value}{g:Int->Int->Int}
  (rule:∀(i j:Int) (t u:Tok) (s:Shared) (Q:Value->Shared->Prop) (E:Value->Shared->Prop),Q (.int (g i j) s.toks) { s with toks:=s.toks+1 }->wpAny (model X.prog X.w) X.A (f (.int i t) (.int j u)) Q E s) :
  OpR X f (rI0 λi j=>.int (g i j)):=by
 intro aa s σ H x y v u Q I rx ry h;obtain⟨i,j,rfl,rfl,q⟩:=h;obtain⟨t,rfl⟩:=rx;obtain⟨t',rfl⟩:=ry;exact rule i j t t' s _ _ ⟨.int (g i j),H,I.tok _,⟨_,rfl⟩,q⟩
theorem zrq {f:Value->Value->Sem Value}{g:Int->Int->Bool}
  (rule:∀(i j:Int) (t u:Tok) (s:Shared) (Q:Value->Shared->Prop) (E:Value->Shared->Prop),Q (.bool (g i j)) s->wpAny (model X.prog X.w) X.A (f (.int i t) (.int j u)) Q E s) :
  OpR X f (rI0 λi j=>.bl (g i j)):=by
 intro aa s σ H x y v u Q I rx ry h;obtain⟨i,j,rfl,rfl,q⟩:=h;obtain⟨t,rfl⟩:=rx;obtain⟨t',rfl⟩:=ry;exact rule i j t t' s _ _ ⟨.bl (g i j),H,I,rfl,q⟩
theorem zqf:OpR X (binaryOp .Add) (rI0 λi j=>.int (i+j)):=zx1 λ_ _ _ _ _ _ _ q=>add_int q
theorem zom:OpR X (binaryOp .Sub) (rI0 λi j=>.int (i - j)):=zx1 λ_ _ _ _ _ _ _ q=>sub_int q
theorem zpi:OpR X (binaryOp .Mod) (rI (λ_ j=>0<j) λi j=>.int (i % j)):=opI λi j _ _ _ _ _ hc q=>by
 have h1:(0:Int)<j:=hc;exact mod_int' (by omega) (by rw[Int.fmod_eq_emod_of_nonneg i (by omega)];exact q)
theorem unI {f:Value->Sem Value}{g:Int->Int}
  (rule:∀(i:Int) (t:Tok) (s:Shared) (Q:Value->Shared->Prop) (E:Value->Shared->Prop),Q (.int (g i) s.toks) { s with toks:=s.toks+1 }->wpAny (model X.prog X.w) X.A (f (.int i t)) Q E s) :
  UnR X f (rU λi=>.int (g i)):=by
 intro aa s σ H x v Q I rx h;obtain⟨i,rfl,q⟩:=h;obtain⟨t,rfl⟩:=rx;exact rule i t s _ _ ⟨.int (g i),H,I.tok _,⟨_,rfl⟩,q⟩
theorem zls:UnR X (unaryOp .USub) (rU λi=>.int (-i)):=unI λ_ _ _ _ _ q=>neg_int q
end
def zlj:V->V->Bool
 | .non,.non=>true | .non,.int _=>true | .int _,.non=>true | .non,.bl _=>true | .bl _,.non=>true | .non,.str _=>true | .str _,.non=>true
 | .int _,.int _=>true | .bl _,.bl _=>true | .str _,.str _=>true | .byt _,.byt _=>true
 | .int _,.str _=>true | .str _,.int _=>true | .bl _,.str _=>true | .str _,.bl _=>true
 | _,_=>false
section
variable {X:Cx}{a b c:Expr}{ta tb tc:TE}{pos:Pos}
theorem zbh {aa:List (Addr×Obj)}{σ:St}{H:Hp}{s:Shared}{Q:VK}{k k':Bool}(I:Inv X aa σ H s)(q:Q (.bl k) H)(e:k=k'):EP X aa σ Q (.bool k') s:=by
 subst e;exact⟨.bl k,H,I,rfl,q⟩
theorem zuo:OpR X (compareOp .Lt) (rI0 λi j=>.bl (decide (i<j))):=zrq λ_ _ _ _ _ _ _ q=>lt_int q
theorem zt4:OpR X (compareOp .LtE) (rI0 λi j=>.bl (decide (i≤j))):=zrq λ_ _ _ _ _ _ _ q=>le_int q
theorem zuu:OpR X (compareOp .Gt) (rI0 λi j=>.bl (decide (j<i))):=zrq λ_ _ _ _ _ _ _ q=>gt_int q
theorem zsr:OpR X (compareOp .GtE) (rI0 λi j=>.bl (decide (j≤i))):=zrq λ_ _ _ _ _ _ _ q=>ge_int q
theorem zog:OpR X (compareOp .Is) (λx y H Q=>y = .non/\Q (.bl (decide (x = .non))) H):=by
 intro aa s σ H x y v u Q I rx ry h;obtain⟨rfl,q⟩:=h;cases ry;refine is_none_gen (zbh I q ?_);cases x<;>first
  | (cases rx;rfl)
  | (obtain⟨t,rfl⟩:=rx;rfl)
theorem ziw:OpR X (compareOp .IsNot) (λx y H Q=>y = .non/\Q (.bl (!decide (x = .non))) H):=by
 intro aa s σ H x y v u Q I rx ry h;obtain⟨rfl,q⟩:=h;cases ry;refine isnot_none_gen (zbh I q ?_);cases x<;>first
  | (cases rx;rfl)
  | (obtain⟨t,rfl⟩:=rx;rfl)
theorem OpR.or {f:Value->Value->Sem Value}{r r':R2}(h:OpR X f r)(h':OpR X f r'):OpR X f (λx y H Q=>r x y H Q∨r' x y H Q):=by
 intro aa s σ H x y v u Q I rx ry q;rcases q with q | q
 ·exact h aa s σ H x y v u Q I rx ry q
 ·exact h' aa s σ H x y v u Q I rx ry q
theorem zk0 {op:CmpOp}{r:R2}(ho:OpR X (compareOp op) r)(ha:PE X a ta)(hb:PE X b tb)(hm:behindInMarks op b=false):PE X (.Compare a [op] [b] pos) (tOp r ta tb):=by
 intro aa s σ H Q I h;exact wpAny_Compare1 (zuk ha hb I h λv u s2 x y H2 I2 rx ry q=>ho aa s2 σ H2 x y v u Q I2 rx ry q) hm
def zmz (r r':R2)(ta tb tc:TE):TE:=fun σ H Q=>ta σ H λx H1=>tb σ H1 λy H2=>r x y H2 λz H3=>∃k,z = .bl k /\
 (if k=true then tc σ H3 λw' H4=>r' y w' H4 Q else Q (.bl false) H3)
theorem zek {op op':CmpOp}{r r':R2}(ho:OpR X (compareOp op) r)(ho':OpR X (compareOp op') r')(ha:PE X a ta)(hb:PE X b tb)(hc:PE X c tc)
  (hm:lastMarks [op,op'] [b,c]=false:=by with_unfolding_all rfl):PE X (.Compare a [op,op'] [b,c] pos) (zmz r r' ta tb tc):=by
 intro aa s σ H Q I h;refine Compare_chain (thn (ha aa s σ H _ I h) λv s1 ⟨x,H1,I1,r1,q1⟩=>chain_link (thn (hb aa s1 σ H1 _ I1 q1) λu s2 ⟨y,H2,I2,r2,q2⟩ =>
  thn (ho aa s2 σ H2 x y v u _ I2 r1 r2 q2) λd s3 ⟨z,H3,I3,r3,k,e,q3⟩=>?_)) hm
 subst e;cases r3;refine wpAny_truthy_bool ?_;cases k with
 | false=>exact ite_ff ⟨.bl false,H3,I3,rfl,q3⟩
 | true=>exact ite_tt (chain_last (thn (hc aa s3 σ H3 _ I3 q3) λw' s4 ⟨z',H4,I4,r4,q4⟩=>ho' aa s4 σ H4 y z' u w' Q I4 r2 r4 q4))
theorem z58:(sizeLine:Nat)<2^63:=by rw[sizeLine_eq];decide
theorem za6:OpR X (binaryOp .Add) (λx y H Q=>∃i j,x = .str i/\y = .str j/\i.length+j.length≤sizeLine/\Q (.str (i++j)) H):=by
 intro aa s σ H x y v u Q I rx ry h;obtain⟨i,j,rfl,rfl,hz,q⟩:=h;obtain⟨t,rfl⟩:=rx;obtain⟨t',rfl⟩:=ry;exact add_str (λt' tk=>⟨.str (i++j),H,I.tok _,⟨_,rfl⟩,q⟩) hz
theorem z29 {x:V}{us:List Value}(r:Vals [x] us):∃u,us = [u]/\RelV x u:=by
 cases r with
 | cons r1 r2=>cases r2;exact⟨_,rfl,r1⟩
theorem z62 {x y:V}{us:List Value}(r:Vals [x,y] us):∃u w',us = [u,w']/\RelV x u/\RelV y w':=by
 cases r with
 | cons r1 r2 =>
  cases r2 with
  | cons r3 r4=>cases r4;exact⟨_,_,rfl,r1,r3⟩
theorem zee:CallR X (.builtin "abs") (λxs H Q=>∃i,xs = [.int i]/\Q (.int (if i<0 then -i else i)) H):=by
 intro aa s σ H xs us Q I r h;obtain⟨i,rfl,q⟩:=h;obtain⟨u,rfl,t,rfl⟩:=z29 r;exact call_abs_int λu tk=>⟨.int (if i<0 then -i else i),H,I.tok _,⟨_,rfl⟩,q⟩
theorem zb2 (hc:X.calm=true):CallR X (.builtin "max") (λxs H Q=>∃i j,xs = [.int i,.int j]/\Q (.int (if j>i then j else i)) H):=by
 intro aa s σ H xs us Q I r h;obtain⟨i,j,rfl,q⟩:=h;obtain⟨u,w',rfl,⟨t,rfl⟩,⟨t',rfl⟩⟩:=z62 r;refine max_two_ints (I.ok.hd hc) λh' tk k=>⟨_,H,I.kept k,?_,q⟩
 by_cases hj:j>i
 ·rw[if_pos hj,if_pos hj];exact⟨_,rfl⟩
 ·rw[if_neg hj,if_neg hj];exact⟨_,rfl⟩
theorem zdu (hc:X.calm=true):CallR X (.builtin "min") (λxs H Q=>∃i j,xs = [.int i,.int j]/\Q (.int (if j<i then j else i)) H):=by
 intro aa s σ H xs us Q I r h;obtain⟨i,j,rfl,q⟩:=h;obtain⟨u,w',rfl,⟨t,rfl⟩,⟨t',rfl⟩⟩:=z62 r;refine min_two_ints (I.ok.hd hc) λh' tk k=>⟨_,H,I.kept k,?_,q⟩
 by_cases hj:j<i
 ·rw[if_pos hj,if_pos hj];exact⟨_,rfl⟩
 ·rw[if_neg hj,if_neg hj];exact⟨_,rfl⟩
def zxa (K:y00)(x:V)(H:Hp)(n:Nat):Prop :=
 match x with
 | .str y=>y.length≤sizeLine/\n=y.length
 | .byt y=>y.size≤sizeLine/\n=y.size
 | .ref p=>(∃xs,SqL K H p xs/\n=xs.length)∨∃xs,SqT K H p xs/\n=xs.length
 | _=>False
theorem zeg:CallR X (.builtin "len") (λxs H Q=>∃x n,xs = [x]/\zxa X.K x H n/\Q (.int n) H):=by
 intro aa s σ H xs us Q I r h;obtain⟨x,n,rfl,e,q⟩:=h;obtain⟨u,rfl,rx⟩:=z29 r;have hl:=z58;have hs:sizeLine=16777216:=sizeLine_eq
 cases x with
 | str y =>
  obtain⟨t,rfl⟩:=rx;obtain⟨hy,e'⟩:y.length≤sizeLine/\n=y.length:=e;subst e';exact len_str (by omega) ⟨.int _,H,I.tok _,⟨_,rfl⟩,q⟩
 | byt y =>
  obtain⟨t,rfl⟩:=rx;obtain⟨hy,e'⟩:y.size≤sizeLine/\n=y.size:=e;subst e';exact PySem.W.len_bytes (by omega) ⟨.int _,H,I.tok _,⟨_,rfl⟩,q⟩
 | ref p =>
  cases rx;have e':(∃xs,SqL X.K H p xs/\n=xs.length)∨∃xs,SqT X.K H p xs/\n=xs.length:=e;rcases e' with ⟨xs,hx,e'⟩ | ⟨xs,hx,e'⟩
  ·subst e';obtain⟨its,r',pl,hz⟩:=I.list hx;have ap:=r'.length;exact Calls.call_len_list pl.isList (by simp only[y07];omega) ⟨.int xs.length,H,I.tok _,⟨_,by simp only[y07];rw[ap]⟩,q⟩
  ·subst e';obtain⟨its,r',pl,hz⟩:=I.tuple hx;have ap:=r'.length;exact len_tuple pl (by simp only[y07];omega) ⟨.int xs.length,H,I.tok _,⟨_,by simp only[y07];rw[ap]⟩,q⟩
 | _=>exact(show False from e).elim
end
end L2
namespace L2
open PySem PySem.Spec PyProof.Rows
structure ObjM (h:Heap)(x dx C:Addr)(mA:Str->Option Value):Prop where
 obj:h.get? x=some (y1x C dx)
 ns:h.Ns1 dx mA
 ne:dx≠x
theorem zbc {h:Heap}{dx:Addr}{mA:Str->Option Value}(n:h.Ns1 dx mA):∃od,h.get? dx=some od/\∀name,y3q name od=some (mA name):=by
 obtain⟨o,es,ep,ho,hd,hk,_,hm⟩:=n;refine⟨o,ho,λname=>?_⟩;have e:=hm name;unfold nsFind findBy at e;rw[←Array.find?_toList] at e;unfold y3q;rw[hd];dsimp only
 split
 ·rename_i y q;rw[q] at e;exact congrArg some e
 ·rename_i q;rw[q] at e;have a:es.toList.any (·.refKey)=false:=by
   rw[List.any_eq_false];intro y hy;obtain⟨z,t,hkey⟩:=hk y (Array.mem_toList_iff.mp hy);simp[DictEntry.refKey,hkey]
  have a':¬es.toList.any (·.refKey)=true:=by rw[a];exact y0t
  rw[if_neg a'];exact congrArg some e
theorem ObjM.look {h:Heap}{x dx C:Addr}{mA:Str->Option Value}(I:ObjM h x dx C mA):∃od,PySem.W.InstAt h x (y1x C dx) C (some od)/\∀name,y3q name od=some (mA name) :=
 let ⟨od,ho,hl⟩:=zbc I.ns
 ⟨od,⟨I.obj,rfl,rfl,ho⟩,hl⟩
section
variable {prog:Program}{w:World}{A:Around}{E:Value->Shared->Prop}{s:Shared}{K:y00}{x dx C f:Addr}{mA:Str->Option Value}{name:Str}{v:Value}
theorem zjm {expr:Bool}{Q:Value->Shared->Prop}(X:K.In s.heap)(I:ObjM s.heap x dx C mA)(hg:y2p K C name=true)(hh:y2z K C=true)
  (ha:y0i K (.ref C) name=some none) (hv:mA name=some v) (hv':y5j v=true) (h:Q v { s with toks:=s.toks+1 }) :
  wpAny (model prog w) A (getAttr (.ref x) name expr) Q E s:=by
 obtain⟨od,J,hl⟩:=I.look;exact PySem.W.get_value X J (y39 hg).1 (PySem.W.findObj_own hh ha rfl (by rw[hl,hv])) hv' h
theorem zft {pl:Sem Bool}{Q:Value×List Value->Shared->Prop}(X:K.In s.heap)(I:ObjM s.heap x dx C mA)(hg:y2p K C name=true)
  (hf:y0i K (.ref C) name=some (some (.ref f))) (ht:y2u K (.ref f)=true) (hv:mA name=none) (h:Q (.ref f,[.ref x]) s) :
  wpAny (model prog w) A (getMethod (.ref x) name pl) Q E s:=by
 obtain⟨od,J,hl⟩:=I.look;exact PySem.W.method_fn X J (y39 hg).1 (y39 hg).2 hf (beq_iff_eq.mp ht) (by show(y3q name od).map (·.isSome)=some false;rw[hl,hv];rfl) h
theorem zk1 {ns:List Str}{Q:Unit->Shared->Prop}(X:K.In s.heap)(I:ObjM s.heap x dx C mA)
  (hs:y0i K (.ref C) "__setattr__"=some (some (.builtin "object.__setattr__"))) (hp:y3t K C=true) (ht:y4g K C name=some none) (hh:y2z K C=true)
  (hw:y5h mA ns) (hsz:ns.length≤sizeLine)
  (h:∀h',ObjM h' x dx C (λy=>if y=name then some v else mA y)->Heap.SameBut dx s.heap h'->Q () { s with heap:=h',toks:=s.toks+2 }) :
  wpAny (model prog w) A (setAttr (.ref x) name v) Q E s:=by
 obtain⟨od,J,hl⟩:=I.look;refine PySem.W.set_plain X J hs (PySem.W.osa_open (s:={ s with toks:=s.toks+1 }) (r:=none) X J hp ht λb=>?_)
 obtain⟨cd,hc,hd'⟩:=PySem.W.any_some hh;have hx:s.heap.get? x=some ⟨.ref C,some dx,.plain,#[]⟩:=I.obj;refine wpAny_bind (wpAny_pure (wpAny_bind (wpAny_bind (wpAny_loadPart hx (wpAny_bind (PySem.W.Looks.here (s:={ s with toks:=s.toks+1 }) (PySem.W.looks_clsIn X hc) ?_))))))
 rw[hd'];refine wpAny_pure (a:=some dx) (wpAny_bind (wpAny_pure (wpAny_bind ?_)));refine wpAny_nsSet1 (s:={ s with toks:=s.toks+1 }) I.ns λh' hn2 hs2=>?_
 obtain⟨oD,esD,epD,hoD,hdD,hcD⟩:=hn2.count (PySem.Within.cons name v hw);refine wpAny_bind (wpAny_lookBehind hoD (by rw[hdD];exact pastItsLine_dict (y0j hcD (by rw[y0u];omega))) ?_)
 exact wpAny_pure (h _ ⟨(hs2.2 _ (Ne.symm I.ne)).trans I.obj,hn2,I.ne⟩ hs2)
theorem zfw {R:Result->Shared->Prop}{vs:List Value}{kw:List (Str×Value)}(X:K.In s.heap)(hm:y2v K C=true)
  (hi:y0i K (.ref C) "__init__"=some (some (.ref f))) (hf:y4t K (.ref f)=some (.type "function"))
  (h:codeAny (model prog w) (A.under (.builtin "type.__call__" ⟨.ref C::vs,kw⟩)) (.call (.ref f) ⟨.ref (s.heap.objs.size+1)::vs,kw⟩) (PySem.W.InitBack (s.heap.objs.size+1) R)
   { s with heap:=(s.heap.push y1e).push (y1x C s.heap.objs.size) }) :
  codeAny (model prog w) A (.call (.ref C) ⟨vs,kw⟩) R s:=by
 obtain⟨hh,g,d,t,os⟩:=s;exact PySem.W.make_core (PySem.W.makes_of X hm) (y2n X hi) (λself=>PySem.W.bind_fn X self hf) (.inl rfl) h
end
def z4l (f:Str)(v:V):List (Str×V)->List (Str×V)
 | []=>[(f,v)]
 | (g,x)::r=>if g=f then (g,v)::r else (g,x)::z4l f v r
theorem z4d (f g:Str)(v:V):∀fs:List (Str×V),(z4l f v fs).lookup g=if g=f then some v else fs.lookup g
 | []=>by
  show y30 g [(f,v)]=_
  by_cases h:g=f
  ·have hb:(g==f)=true:=beq_iff_eq.mpr h;simp only[y30,hb,if_pos h]
  ·have hb:(g==f)=false:=beq_eq_false_iff_ne.mpr h;simp only[y30,hb,if_neg h]
 | (k,x)::r=>by
  have ih:=z4d f g v r;rw[show z4l f v ((k,x)::r)=(if k=f then (k,v)::r else (k,x)::z4l f v r) from rfl]
  by_cases hk:k=f
  ·rw[if_pos hk]
   by_cases h:g=k
   ·have hb:(g==k)=true:=beq_iff_eq.mpr h;simp only[y30,hb,if_pos (h.trans hk)]
   ·have hb:(g==k)=false:=beq_eq_false_iff_ne.mpr h;simp only[y30,hb,if_neg (λe:g=f=>h (e.trans hk.symm))]
  ·rw[if_neg hk]
   by_cases h:g=k
   ·have hb:(g==k)=true:=beq_iff_eq.mpr h;simp only[y30,hb,if_neg (λe:g=f=>hk (h.symm.trans e))]
   ·have hb:(g==k)=false:=beq_eq_false_iff_ne.mpr h;simp only[y30,hb];exact ih
theorem z4k (f:Str)(v:V):∀fs:List (Str×V),f∈(z4l f v fs).map (·.1)/\∀g,g∈fs.map (·.1)->g∈(z4l f v fs).map (·.1)
 | []=>⟨by simp[z4l],λg h=>by simp at h⟩
 | (k,x)::r=>by
  obtain⟨i1,i2⟩:=z4k f v r;rw[show z4l f v ((k,x)::r)=(if k=f then (k,v)::r else (k,x)::z4l f v r) from rfl]
  by_cases hk:k=f
  ·rw[if_pos hk];subst hk;exact⟨by simp,λg h=>by simpa using h⟩
  ·rw[if_neg hk];refine⟨?_,λg h=>?_⟩
   ·rw[y10];exact y0c _ i1
   ·rw[y10] at h ⊢
    rcases y0a.mp h with e | e
    ·exact y0a.mpr (.inl e)
    ·exact y0c _ (i2 g e)
theorem z4i (f:Str)(v:V):∀fs:List (Str×V),(z4l f v fs).length≤fs.length+1
 | []=>by simp[z4l]
 | (k,x)::r=>by
  have ih:=z4i f v r;rw[show z4l f v ((k,x)::r)=(if k=f then (k,v)::r else (k,x)::z4l f v r) from rfl]
  by_cases hk:k=f
  ·rw[if_pos hk,y0u,y0u];omega
  ·rw[if_neg hk,y0u,y0u];omega
theorem RelO.some_of {v:V}{o:Option Value}(r:RelO (some v) o):∃u,o=some u/\RelV v u:=by
 cases o with
 | none=>exact(show False from r).elim
 | some u=>exact⟨u,rfl,r⟩
theorem RelO.none_of {o:Option Value}(r:RelO none o):o=none:=by
 cases o with
 | none=>rfl
 | some u=>exact(show False from r).elim
theorem zbk {v:V}{u:Value}(r:RelV v u):y5j u=true:=by
 cases v with
 | non=>cases (show u=Value.none from r);rfl
 | bl b=>cases (show u=Value.bool b from r);rfl
 | int i=>obtain⟨t,e⟩:=(show ∃t,u=Value.int i t from r);cases e;rfl
 | str x=>obtain⟨t,e⟩:=(show ∃t,u=Value.str x t from r);cases e;rfl
 | byt b=>obtain⟨t,e⟩:=(show ∃t,u=Value.bytes b t from r);cases e;rfl
 | flt b=>obtain⟨t,e⟩:=(show ∃t,u=Value.float b t from r);cases e;rfl
 | ref a=>cases (show u=Value.ref a from r);rfl
 | ty n=>cases (show u=Value.type n from r);rfl
section
variable {P:Program}{w:World}{H H':Hp}{h h':Heap}{a C dx:Addr}{fs fs':List (Str×V)}
theorem z5z (hok:HOk P w H h)(e:H a=some (.ins C dx fs)):∃mA,ObjM h a dx C mA/\(∀f,RelO (fs.lookup f) (mA f))/\y5h mA (fs.map (·.1))/\fs.length≤1000/\H dx=some (.own a):=by
 obtain⟨d,z,ne,ob,mA,n,r,q⟩:=(show ObjOk P w H h a (.ins C dx fs) from hok a _ e)
 exact⟨mA,⟨ob,n,ne⟩,r,q,z,d⟩
end
structure Cls (K:y00)(C:Addr):Prop where
 pg:y2p K C Str.empty=true
 hd:y2z K C=true
 po:y3t K C=true
 sa:y0i K (.ref C) "__setattr__"=some (some (.builtin "object.__setattr__"))
theorem Cls.get {K:y00}{C:Addr}(c:Cls K C)(f:Str):y2p K C f=true:=c.pg
def NoAttr (K:y00)(C:Addr)(f:Str):Prop:=y0i K (.ref C) f=some none
theorem NoAttr.taker {K:y00}{C:Addr}{f:Str}(n:NoAttr K C f):y4g K C f=some none:=by
 unfold y4g;rw[show y0i K (.ref C) f=some none from n]
 rfl
structure Con (K:y00)(C:Addr)(f:Str)(v:V)(u:Value):Prop where
 at_:y0i K (.ref C) f=some (some u)
 rel:RelV v u
 get:y31 K u "__get__"=some none
 cp:PySem.W.copiedNames.contains f=false
structure Meth (K:y00)(C:Addr)(m:Str)(f:Addr):Prop where
 at_:y0i K (.ref C) m=some (some (.ref f))
 fn:y2u K (.ref f)=true
 kp:y0w K (.ref f)=true
section
variable {X:Cx}{aa:List (Addr×Obj)}{σ:St}{H:Hp}{s:Shared}{a C dx:Addr}{fs:List (Str×V)}{f:Str}{v:V}{A:Around}{E:Value->Shared->Prop}
theorem za8 {b:Bool}{Q:Value->Shared->Prop}(I:Inv X aa σ H s)(e:H a=some (.ins C dx fs))(c:Cls X.K C)(n:NoAttr X.K C f)(l:fs.lookup f=some v)
  (h:∀u s',Inv X aa σ H s'->RelV v u->Q u s'):wpAny (model X.prog X.w) A (getAttr (.ref a) f b) Q E s:=by
 obtain⟨mA,O,r,_,_,_⟩:=z5z I.hok e;obtain⟨u,hu,ru⟩:=RelO.some_of (v:=v) (o:=mA f) (by rw[←l];exact r f)
 exact zjm I.kIn O (c.get f) c.hd n hu (zbk ru) (h u _ (I.tok _) ru)
theorem z57 {m:Str}{g:Addr}{pl:Sem Bool}{Q:Value×List Value->Shared->Prop}(I:Inv X aa σ H s)(e:H a=some (.ins C dx fs))(c:Cls X.K C)(k:Meth X.K C m g)(l:fs.lookup m=none)
  (h:Q (.ref g,[.ref a]) s):wpAny (model X.prog X.w) A (getMethod (.ref a) m pl) Q E s:=by
 obtain⟨mA,O,r,_,_,_⟩:=z5z I.hok e;have hn:mA m=none:=RelO.none_of (by rw[←l];exact r m)
 exact zft I.kIn O (c.get m) k.at_ k.fn hn h
theorem za2 {y:V}{u:Value}{Q:Unit->Shared->Prop}(I:Inv X aa σ H s)(e:H a=some (.ins C dx fs))(c:Cls X.K C)(n:NoAttr X.K C f)(hl:fs.length<1000)(ry:RelV y u)
  (h:∀s',Inv X aa σ (upd H a (.ins C dx (z4l f y fs))) s'->Q () s'):wpAny (model X.prog X.w) A (setAttr (.ref a) f u) Q E s:=by
 obtain⟨mA,O,r,wi,_,ho⟩:=z5z I.hok e;have hz:(fs.map (·.1)).length≤sizeLine:=by rw[y0e,sizeLine_eq];omega
 refine zk1 I.kIn O c.sa c.po n.taker c.hd wi hz λh' O' sb=>h _ ?_;have hd:∃o,h'.get? dx=some o:=let ⟨o,_,_,e',_⟩:=O'.ns;⟨o,e'⟩
 refine I.write (x:=a) (e:=dx) (by rw[e];exact True.intro) (.inr ho) (λb q hb z=>(sb.2 b hb).trans z) hd ?_
 refine⟨by rw[z04 O.ne];exact ho,?_,O.ne,O'.obj,_,O'.ns,λg=>?_,λg hg=>?_⟩
 ·have:=z4i f y fs;omega
 ·show RelO ((z4l f y fs).lookup g) (if g=f then some u else mA g)
  rw[z4d]
  by_cases q:g=f
  ·rw[if_pos q,if_pos q];exact ry
  ·rw[if_neg q,if_neg q];exact r g
 ·by_cases q:g=f
  ·rw[q];exact(z4k f y fs).1
  ·refine(z4k f y fs).2 g (wi g λz=>hg ?_);show(if g=f then some u else mA g)=none
   rw[if_neg q];exact z
theorem Inv.made (I:Inv X aa σ H s):Inv X aa σ (upd (upd H s.heap.objs.size (.own (s.heap.objs.size+1))) (s.heap.objs.size+1) (.ins C s.heap.objs.size []))
  { s with heap:=(s.heap.push y1e).push (y1x C s.heap.objs.size) }:=by
 have e1:(s.heap.push y1e).get? s.heap.objs.size=some y1e:=Heap.get?_push_size s.heap rfl;have e2:((s.heap.push y1e).push (y1x C s.heap.objs.size)).get? (s.heap.objs.size+1)=some (y1x C s.heap.objs.size):=by
  have:=Heap.get?_push_size (s.heap.push y1e) (o:=y1x C s.heap.objs.size) rfl
  rwa [Heap.size_push] at this
 have e3:(s.heap.push y1e).Ns s.heap.objs.size (λ_=>none):=⟨y1e,#[],_,e1,rfl,(λe he=>absurd he (by simp)),λ_=>rfl⟩
 have I1:=I.laid (a:=s.heap.objs.size) (o:=.own (s.heap.objs.size+1)) (h':=s.heap.push y1e) (t':=s.toks) (λb u q=>Heap.get?_push_of_some _ q) (y08 _) ⟨_,e1⟩;refine I1.laid (a:=s.heap.objs.size+1) (o:=.ins C s.heap.objs.size []) (t':=s.toks) (λb u q=>Heap.get?_push_of_some _ q) (y3j (Heap.size_push _ _)) ?_;have ne:s.heap.objs.size≠s.heap.objs.size+1:=y06 (y1a _)
 refine⟨by rw[z04 ne,z08],y2s _,ne,e2,λ_=>none,(Heap.Ns1.of_empty e3).at λo q=>Heap.get?_push_of_some _ q,λ_=>True.intro,λy hy=>absurd rfl hy⟩
theorem ziu {prog:Program}{w:World}{env:Env}{e:Expr}{f:Str}{pos:Pos}{s:Shared}{Q:Value->Shared->Prop}(hb:attributeBase e f env (eval e env)=eval e env)
  (h:wpAny (model prog w) A (eval e env) (λo s₁=>wpAny (model prog w) A (getAttr o f true) Q E s₁) E s):wpAny (model prog w) A (eval (.Attribute e f pos) env) Q E s :=
 Attribute_any_ h (by rw[arm_eval_Attribute,hb])
end
def zxm (K:y00)(ta:TE)(f:Str):TE:=fun σ H Q=>ta σ H λx H1=>∃a C dx fs v,x = .ref a/\H1 a=some (.ins C dx fs)/\Cls K C/\NoAttr K C f/\fs.lookup f=some v/\Q v H1
def zxr (K:y00)(ta tv:TE)(f:Str):TS:=λD σ H=>tv σ H λy H1=>ta σ H1 λx H2=>∃a C dx fs,x = .ref a/\H2 a=some (.ins C dx fs)/\Cls K C/\NoAttr K C f/\fs.length<1000 /\
 D.nx σ (upd H2 a (.ins C dx (z4l f y fs)))
section
variable {X:Cx}{o e value:Expr}{f:Str}{pos au tpos:Pos}{ta tv:TE}
theorem zqb (he:PE X e ta)(hb:attributeBase e f X.env (eval e X.env)=eval e X.env):PE X (.Attribute e f pos) (zxm X.K ta f):=by
 intro aa s σ H Q I h;refine ziu hb (thn (he aa s σ H _ I h) λu s1 ⟨x,H1,I1,rx,a,C,dx,fs,v,ex,ea,c,n,l,q⟩=>?_);subst ex;obtain rfl:u=Value.ref a:=rx;exact za8 I1 ea c n l λu' s2 I2 ru=>⟨v,H1,I2,ru,q⟩
theorem zny (ha:PE X o ta)(hv:PE X value tv)(hs:swapsWith value (some (.Attribute o f au)) pos.line X.env=pure false):PS X (.Assign [.Attribute o f au] value pos) (zxr X.K ta tv f):=by
 intro aa s σ H D I h;refine plainObj_wpAny_Assign_Attribute (thn (hv aa s σ H _ I h) λu s1 ⟨y,H1,I1,ry,q⟩=>thn (ha aa s1 σ H1 _ I1 q) λov s2 ⟨x,H2,I2,rx,a,C,dx,fs,ex,ea,c,n,l,q2⟩=>?_) hs;subst ex;obtain rfl:ov=Value.ref a:=rx;exact za2 I2 ea c n l ry λs3 I3=>⟨σ,_,I3,q2⟩
end
section
variable {X:Cx}{aa:List (Addr×Obj)}{σ:St}{H:Hp}{s:Shared}{A:Around}{E:Value->Shared->Prop}{Q:Value->Shared->Prop}{c:Value}{b:Bool}
inductive TyOf (K:y00) (H:Hp):V->Value->Prop where
 | non:TyOf K H .non (.type "NoneType")
 | bl (x:Bool):TyOf K H (.bl x) (.type "bool")
 | int (i:Int):TyOf K H (.int i) (.type "int")
 | str (x:Str):TyOf K H (.str x) (.type "str")
 | flt (x:UInt64):TyOf K H (.flt x) (.type "float")
 | lst {a:Addr} {xs:List V} (e:H a=some (.lst xs)):TyOf K H (.ref a) (.type "list")
 | frz {a:Addr} {o:Obj} {xs:List V} (e:H a=some (.frz o (.lst xs))):TyOf K H (.ref a) (.type "list")
 | tup {a:Addr} {xs:List V} (e:H a=some (.tup xs)):TyOf K H (.ref a) (.type "tuple")
 | dK {a:Addr} {kvs:List (Key×V)} (e:H a=some (.dK kvs)):TyOf K H (.ref a) (.type "dict")
 | dT {a:Addr} {kvs:List (List Key×V)} (e:H a=some (.dT kvs)):TyOf K H (.ref a) (.type "dict")
 | ins {a C dx:Addr} {fs:List (Str×V)} (e:H a=some (.ins C dx fs)) (cl:Cls K C) (ha:y0i K (.ref C) "__class__"=some (some (.builtin "object.__class__")))
   (hn:y31 K (.builtin "object.__class__") "__get__"=some (some (.builtin "getset_descriptor.__get__"))) (htk:y4h K (.builtin "object.__class__")=some true)
   (hm:y1v K C (.type "object")=some true):TyOf K H (.ref a) (.ref C)
theorem zam {x:V}{u t:Value}(I:Inv X aa σ H s)(rx:RelV x u)(ty:TyOf X.K H x t)(e:y1b X.K t c=some b)(h:∀tk,Q (.bool b) { s with toks:=tk }) :
  wpAny (model X.prog X.w) A (call (.builtin "isinstance") [u,c]) Q E s:=by
 cases ty with
 | non=>cases (show u=Value.none from rx);exact y11 PySem.W.kitx_none I.kIn True.intro e (λz=>nomatch z) h
 | bl y=>cases (show u=Value.bool y from rx);exact y11 PySem.W.kitx_bool I.kIn True.intro e (λz=>nomatch z) h
 | int i=>obtain⟨t,q⟩:=(show ∃t,u=Value.int i t from rx);cases q;exact y11 PySem.W.kitx_int I.kIn True.intro e (λz=>nomatch z) h
 | str y=>obtain⟨t,q⟩:=(show ∃t,u=Value.str y t from rx);cases q;exact y11 PySem.W.kitx_str I.kIn True.intro e (λz=>nomatch z) h
 | flt y=>obtain⟨t,q⟩:=(show ∃t,u=Value.float y t from rx);cases q;exact y11 PySem.W.kitx_float I.kIn True.intro e (λz=>nomatch z) h
 | @lst a xs ea =>
  cases (show u=Value.ref a from rx)
  obtain⟨_,_,n,_,h1⟩:=(show ObjOk X.prog X.w H s.heap a (.lst xs) from I.hok a _ ea)
  exact y11 y59 I.kIn ⟨_,h1,rfl⟩ e (λz=>nomatch z) h
 | @frz a ob xs ea =>
  cases (show u=Value.ref a from rx)
  obtain⟨_,_,_,n,_,h1⟩:=(show ObjOk X.prog X.w H s.heap a (.frz ob (.lst xs)) from I.hok a _ ea)
  exact y11 y59 I.kIn ⟨_,h1,rfl⟩ e (λz=>nomatch z) h
 | @tup a xs ea =>
  cases (show u=Value.ref a from rx)
  obtain⟨_,_,_,p⟩:=(show ObjOk X.prog X.w H s.heap a (.tup xs) from I.hok a _ ea)
  obtain⟨o,h1,h2,_⟩:=p;exact y11 y53 I.kIn ⟨o,h1,h2⟩ e (λz=>nomatch z) h
 | @dK a kvs ea =>
  cases (show u=Value.ref a from rx)
  obtain⟨_,_,vs,_,p⟩:=(show ObjOk X.prog X.w H s.heap a (.dK kvs) from I.hok a _ ea)
  obtain⟨o,es,ep,h1,h2,_⟩:=p;exact y11 y5a I.kIn ⟨o,h1,h2.1⟩ e (λz=>nomatch z) h
 | @dT a kvs ea =>
  cases (show u=Value.ref a from rx)
  obtain⟨_,_,xs,_,o,es,ep,h1,h2,_⟩:=(show ObjOk X.prog X.w H s.heap a (.dT kvs) from I.hok a _ ea)
  exact y11 y5a I.kIn ⟨o,h1,h2.1⟩ e (λz=>nomatch z) h
 | @ins a C dx fs ea cl ha hn htk hm =>
  cases (show u=Value.ref a from rx)
  obtain⟨mA,O,_⟩:=z5z I.hok ea;obtain⟨od,J,_⟩:=O.look;exact y11 (PySem.W.kitx_own (cl.get _) cl.hd ha hn htk hm) I.kIn J e (λz=>nomatch z) h
end
end L2
namespace L2
open PySem PySem.Spec PyProof.Rows
structure Room (k:Nat)(A:Around):Prop where
 hd:A.handled=none
 dp:A.depth+3*k+5<recursionLimit
 un:A.units+16*k+200<cLine
theorem Room.mono {j k:Nat}{A:Around}(r:Room k A)(h:j≤k):Room j A:=⟨r.hd,by have:=r.dp;omega,by have:=r.un;omega⟩
theorem Room.deeper {k:Nat}{A:Around}(r:Room (k+1) A)(env:Env):Room k (A.deeper env) :=
 ⟨r.hd,by have:=r.dp;show A.depth+1+3*k+5<_;omega,by have:=r.un;show A.units+3+16*k+200<_;omega⟩
theorem z9y {A:Around}{C:Addr}{us:List Value}{kw:List (Str×Value)}:(A.under (.builtin "type.__call__" ⟨.ref C::us,kw⟩)).depth=A.depth+1:=by
 first | rfl | simp[Around.under,Code.weight,Code.isCreation,Code.isGuard,Code.isCaller,Code.frames,Code.isFrame,guardIds]
theorem zaa {A:Around}{C:Addr}{us:List Value}{kw:List (Str×Value)}:(A.under (.builtin "type.__call__" ⟨.ref C::us,kw⟩)).units=A.units+1:=by
 first | rfl | simp[Around.under,Code.cUnits,Code.frames,Code.isFrame]
theorem Room.make {k:Nat}{A:Around}(r:Room (k+1) A)(C:Addr)(us:List Value)(kw:List (Str×Value)):Room k (A.under (.builtin "type.__call__" ⟨.ref C::us,kw⟩)) :=
 ⟨r.hd,by have:=r.dp;rw[z9y];omega,by have:=r.un;rw[zaa];omega⟩
theorem Room.depth {k:Nat}{A:Around}(r:Room k A):A.depth<recursionLimit:=by have:=r.dp;omega
def zw1:TA:=λ_ H Q=>Q [] H
def zpg (ta:TE)(tr:TA):TA:=fun σ H Q=>ta σ H λx H1=>tr σ H1 λxs H2=>Q (x::xs) H2
section
variable {X:Cx}{e:Expr}{es:List Expr}{te:TE}{t:TA}{pos:Pos}
theorem z1w:PA X [] zw1:=λ_ _ _ _ H Q I h=>Calls.spliced_nil ⟨[],H,I,.nil,h⟩
theorem z0l (ha:PE X e te)(hr:PA X es t)(hs:starEach (e::es) X.env=(false,eval e X.env)::starEach es X.env:=by rfl):PA X (e::es) (zpg te t):=by
 intro pos aa s σ H Q I h;rw[hs];show wpAny _ _ (spliced ((false,eval e X.env)::backTo pos (starEach es X.env))) _ _ s;refine Calls.spliced_cons (thn (ha aa s σ H _ I h) λu s1 ⟨x,H1,I1,r1,q1⟩=>?_);exact thn (hr pos aa s1 σ H1 _ I1 q1) λus s2 ⟨xs,H2,I2,r2,q2⟩=>⟨x::xs,H2,I2,.cons r1 r2,q2⟩
def zvz (t:TA):TE:=fun σ H Q=>t σ H λxs H1=>xs.length≤sizeLine/\∀p,H1 p=none->Q (.ref p) (upd H1 p (.tup xs))
def zwb (t:TA):TE:=fun σ H Q=>t σ H λxs H1=>xs.length≤sizeLine/\∀p,H1 p=none->Q (.ref p) (upd H1 p (.lst xs))
theorem zmc {x1}(h:PA X es t):PE X (.Tuple es x1 pos) (zvz t):=by
 intro aa s σ H Q I hq;refine wpAny_Tuple_spliced (thn (h pos aa s σ H _ I hq) λus s1 ⟨xs,H1,I1,r,z,q⟩=>⟨by rw[←r.length];exact z,?_⟩)
 have hf:H1 s1.heap.objs.size=none:=I1.hok.fresh (y08 _);refine⟨.ref s1.heap.objs.size,upd H1 s1.heap.objs.size (.tup xs),I1.laid (t':=s1.toks) (λb u e=>Heap.get?_push_of_some _ e) (y08 _) ?_,rfl,q _ hf⟩;exact⟨z,us,r,⟨_,Heap.get?_push_size _ rfl,rfl,_,rfl⟩⟩
theorem zlp (h:PA X es t):PE X (.List es pos) (zwb t):=by
 intro aa s σ H Q I hq;refine wpAny_List_spliced (thn (h pos aa s σ H _ I hq) λus s1 ⟨xs,H1,I1,r,z,q⟩=>⟨by rw[←r.length];exact z,?_⟩)
 have hf:H1 s1.heap.objs.size=none:=I1.hok.fresh (y08 _);refine⟨.ref s1.heap.objs.size,upd H1 s1.heap.objs.size (.lst xs),I1.laid (t':=s1.toks) (λb u e=>Heap.get?_push_of_some _ e) (y08 _) ?_,rfl,q _ hf⟩;exact⟨z,us,0,r,Heap.get?_push_size _ rfl⟩
end
abbrev Sp:=List V->Hp->VK->XK->Prop
abbrev CXT:=List Env->Hp->Shared->XK->Value->Shared->Prop
structure Env0 (P:Program)(w:World)(K:y00)(mg:Str->Option Value)(base:Heap)(A:Around)(outer:List Env)(s:Shared)(H:Hp):Prop where
 frames:A.frames=some outer
 mod:Mod K mg base
 bs:∀b o,base.get? b=some o->s.heap.get? b=some o/\H b=none
 bsz:base.objs.size≤s.heap.objs.size
 funs:s.heap.FunFrames base outer
 frf:∀b∈frs outer,H b=none
 hok:HOk P w H s.heap
 bare:AllBare s.gens
def CE (outer:List Env)(P:Program)(w:World)(H:Hp)(s:Shared)(Q:VK)(u:Value)(s':Shared):Prop :=
 ∃v H',s'.os=s.os/\AllBare s'.gens/\Un (frs outer) [] H H' s.heap s'.heap/\HOk P w H' s'.heap/\RelV v u/\Q v H'
def CR (CX:CXT)(outer:List Env)(P:Program)(w:World)(H:Hp)(s:Shared)(Q:VK)(E:XK)(r:Result)(s':Shared):Prop :=
 match r with
 | .ok (.ret u)=>CE outer P w H s Q u s'
 | .ok _=>False
 | .error e=>CX outer H s E e s'
structure FnOk (P:Program)(w:World)(K:y00)(mg:Str->Option Value)(base:Heap)(CX:CXT)(k:Nat)(f:Addr)(fd:FuncData)(ps:List Str)(sp:Sp):Prop where
 len:∀vs H Q E,sp vs H Q E->vs.length=ps.length
 run:∀(A:Around) (outer:List Env) (s:Shared) (H:Hp) (args:Args) (us:List Value) (vs:List V) (Q:VK) (E:XK),Room k A->Env0 P w K mg base A outer s H->BindsTo s fd args (ps.zip us)->Vals vs us->sp vs H Q E ->
  codeAny (model P w) A (.call (.ref f) args) (CR CX outer P w H s Q E) s
theorem Env0.make {P:Program}{w:World}{K:y00}{mg:Str->Option Value}{base:Heap}{A:Around}{outer:List Env}{s:Shared}{H:Hp}(e:Env0 P w K mg base A outer s H)(C:Addr)(us:List Value)(kw:List (Str×Value)) :
  Env0 P w K mg base (A.under (.builtin "type.__call__" ⟨.ref C::us,kw⟩)) outer s H:=⟨by first | exact e.frames | (simpa [Around.under,Code.envs,Code.isFrame,pushEnvs] using e.frames),e.mod,e.bs,e.bsz,e.funs,e.frf,e.hok,e.bare⟩
section
variable {X:Cx}{aa:List (Addr×Obj)}{σ:St}{H:Hp}{s s':Shared}
theorem Inv.env0 (I:Inv X aa σ H s):Env0 X.prog X.w X.K X.mg X.base X.A X.stack s H :=
 ⟨I.ok.frames,I.ok.mod,I.bs,y0j I.ok.bsz I.sz,I.stack,I.stkFree,I.hok,I.bare⟩
theorem Inv.after {Q:VK}{u:Value}(I:Inv X aa σ H s)(h:CE X.stack X.prog X.w H s Q u s'):EP X aa σ Q u s':=by
 obtain⟨v,H',os,bare,un,hok,r,q⟩:=h;obtain⟨hh,g,d,t,os'⟩:=s';obtain rfl:os'=s.os:=os;exact⟨v,H',I.call (h':=hh) (g':=g) (d':=d) (t':=t) (ch:=[]) un hok bare (λb z=>absurd z (by simp)),r,q⟩
end
def Binds (K:y00)(fd:FuncData)(ps:List Str)(ds:List Value):Prop :=
 ∀(s:Shared) (us:List Value),K.In s.heap->(us++ds).length=ps.length->BindsTo s fd ⟨us,[]⟩ (ps.zip (us++ds))
theorem Binds.all {K:y00}{fd:FuncData}{ps:List Str}(h:∀us:List Value,us.length=ps.length->bindArgs fd ⟨us,[]⟩=pure (ps.zip us)):Binds K fd ps []:=λs us _ hl=>by
 rw[y1z] at hl ⊢
 exact .of_eq (h us hl)
section
variable {X:Cx}{CX:CXT}{k:Nat}{f C:Addr}{fd:FuncData}{ps:List Str}{sp:Sp}{dvs:List V}{ds:List Value}{E:XK}{x m:Str}{p pos ah:Pos}{e o:Expr}{es:List Expr}{ta:TE}{t:TA}
structure Mk (K:y00)(C f:Addr):Prop where
 makes:y2v K C=true
 init:y0i K (.ref C) "__init__"=some (some (.ref f))
 fn:y2u K (.ref f)=true
 kp:y0w K (.ref C)=true
end
section
variable {X:Cx}{CX:CXT}{k:Nat}{f C:Addr}{fd:FuncData}{ps ks:List Str}{sp:Sp}{E:XK}{x m:Str}{p pos ah kpos:Pos}{e o:Expr}{es:List Expr}{kws:List Keyword}{te ta:TE}{t tk:TA}{nm:Option Str}
structure KBinds (K:y00)(fd:FuncData)(ps ks:List Str)(g:List Value->List Value->List Value)(gV:List V->List V->List V):Prop where
 to:∀(s:Shared) (us ws:List Value),K.In s.heap->(g us ws).length=ps.length->BindsTo s fd ⟨us,ks.zip ws⟩ (ps.zip (g us ws))
 rel:∀{vs:List V} {us:List Value} {zs:List V} {ws:List Value},Vals vs us->Vals zs ws->Vals (gV vs zs) (g us ws)
variable {g:List Value->List Value->List Value}{gV:List V->List V->List V}
end
structure FnScope (N P:List Str)(sc:Scope):Prop where
 kind:sc.kind = .function
 co:sc.isCoroutine=false
 gen:sc.isGenerator=false
 nd:N.Nodup
 pre:N.take P.length=P
 par:∀x∈P,sc.names.lookup x=some .local∨sc.names.lookup x=some .cell
 nofree:∀y∈sc.names,y.2 ≠ .free
theorem z6y {kindOf:Str->Option NameKind}{x:Str}:∀{binds:List (Str×Value)} {m:Str->Option Value},(∀v,(x,v) ∉ binds)->bindL kindOf binds m x=m x
 | [],_,_=>rfl
 | (n,v)::r,m,h=>by
  unfold bindL;rw[z6y λw hw=>h w (y0c _ hw)]
  split
  ·have:x≠n:=by rintro rfl;exact h v y0p
   simp[this]
  ·rfl
theorem z6v {kindOf:Str->Option NameKind}{x:Str}:∀{binds:List (Str×Value)} {m:Str->Option Value},(∀v,(x,v) ∉ binds)->bindC kindOf binds m x=m x
 | [],_,_=>rfl
 | (n,v)::r,m,h=>by
  unfold bindC;rw[z6v λw hw=>h w (y0c _ hw)]
  split
  ·rfl
  ·have:x≠n:=by rintro rfl;exact h v y0p
   simp[this]
theorem z72 {kindOf:Str->Option NameKind}{x:Str}{v:Value}:∀{P:List Str} {vs:List Value} {i:Nat} {m:Str->Option Value},P.Nodup->P[i]?=some x->vs[i]?=some v->kindOf x=some .local ->
  bindL kindOf (P.zip vs) m x=some v
 | [],_,_,_,_,h,_,_=>by simp at h
 | _::_,[],_,_,_,_,h,_=>by simp at h
 | p::P,w::vs,0,m,nd,h1,h2,hk=>by
  simp at h1 h2;subst h1;subst h2;show bindL kindOf ((p,w)::P.zip vs) m p=_;unfold bindL;rw[z6y λv hv=>(y1g.mp nd).1 (y3a hv).1,if_pos hk];simp
 | p::P,w::vs,i+1,m,nd,h1,h2,hk=>by
  show bindL kindOf ((p,w)::P.zip vs) m x=_;unfold bindL;exact z72 (i:=i) (y1g.mp nd).2 (by simpa using h1) (by simpa using h2) hk
theorem z77 {kindOf:Str->Option NameKind}{x:Str}{v:Value}:∀{P:List Str} {vs:List Value} {i:Nat} {m:Str->Option Value},P.Nodup->P[i]?=some x->vs[i]?=some v->kindOf x≠some .local ->
  bindC kindOf (P.zip vs) m x=some v
 | [],_,_,_,_,h,_,_=>by simp at h
 | _::_,[],_,_,_,_,h,_=>by simp at h
 | p::P,w::vs,0,m,nd,h1,h2,hk=>by
  simp at h1 h2;subst h1;subst h2;show bindC kindOf ((p,w)::P.zip vs) m p=_;unfold bindC;rw[z6v λv hv=>(y1g.mp nd).1 (y3a hv).1,if_neg hk];simp
 | p::P,w::vs,i+1,m,nd,h1,h2,hk=>by
  show bindC kindOf ((p,w)::P.zip vs) m x=_;unfold bindC;exact z77 (i:=i) (y1g.mp nd).2 (by simpa using h1) (by simpa using h2) hk
def z48 (N:List Str)(vs:List V):St:=vs.map some++y0b (N.length - vs.length) none
def z38 (CX:CXT)(P:Program)(w:World)(K:y00)(mg:Str->Option Value)(base:Heap)(N:List Str)(qual:Str)(scope:Scope)(f:Addr)(cd:Value)(A:Around)(outer:List Env)(s:Shared)(H:Hp)(E:XK):Cx where
 prog:=P
 w:=w
 K:=K
 mg:=mg
 base:=base
 A:=A.deeper (envOfC qual scope s.heap.objs.size f cd)
 N:=N
 s₀:=s
 H₀:=H
 env:=envOfC qual scope s.heap.objs.size f cd
 outer:=outer
 stack:=envOfC qual scope s.heap.objs.size f cd::outer
 ex:=[]
 calm:=true
 fn:=λ_=>true
 pn:=[]
 xe:=λe s'=>wpAny (model P w) (A.deeper (envOfC qual scope s.heap.objs.size f cd)) (leaving (envOfC qual scope s.heap.objs.size f cd) e) (λ_ s''=>CX outer H s E e s'') (λe' s''=>CX outer H s E e' s'') s'
theorem z9d {sc:Scope}{n:Nat}{x:Str}(h:sc.names.lookup x=some .cell):∃c,(cellsFrom n sc.names []).lookup x=some c:=by
 have q:=y2y sc.names n [] (.inl h);exact Option.isSome_iff_exists.mp q
theorem z6l {CX:CXT}{P:Program}{w:World}{K:y00}{mg:Str->Option Value}{base:Heap}{N ps:List Str}{qual:Str}{scope:Scope}{f:Addr}{cd:Value}{A:Around}{outer:List Env}{s s1:Shared}{H:Hp}{E:XK}{us:List Value}{vs:List V}
  (S:FnScope N ps scope) (hd:A.handled=none) (e0:Env0 P w K mg base A outer s H) (hl:vs.length=ps.length) (r:Vals vs us)
  (x:InCallC s s.heap.objs.size (bindL (envOfC qual scope s.heap.objs.size f cd).kindOf (ps.zip us) λ_=>none) (cellsFrom (s.heap.objs.size+1) scope.names []) (bindC (envOfC qual scope s.heap.objs.size f cd).kindOf (ps.zip us) λ_=>none) s1) :
  Inv (z38 CX P w K mg base N qual scope f cd A outer s H E) [] (z48 N vs) H s1:=by
 have hpl:ps.length≤N.length:=by have:=congrArg List.length S.pre;rw[y2b] at this;omega
 obtain⟨h1,tk,rfl,hk⟩:=x.done;have noA:∀b:Addr,b ∉ (z38 CX P w K mg base N qual scope f cd A outer s H E).ex:=λb z=>absurd (show b∈([]:List Addr) from z) (by simp)
 refine⟨⟨e0.mod,S.kind,rfl,rfl,y08 _,λy z c h1 h2=>?_,λy hy=>?_,λy c _ h=>?_,λ_=>hd,Around.frames_deeper e0.frames,.inr ⟨rfl,rfl⟩,λb z=>absurd z (noA b),e0.bs,e0.bsz,λb _ _=>noA b,λb z=>absurd z (noA b),e0.funs,e0.frf⟩,
  rfl,e0.bare,Un.kept hk,⟨_,x.toInCall.ns,λi y v h1 h2 h3=>?_⟩,λy c h=>⟨_,x.cell y c h⟩,e0.hok.fresh (y08 _),λy c h=>?_,λp hp=>absurd (show p∈([]:List (Addr×Obj)) from hp) (by simp),e0.hok.kept hk,?_⟩
 ·exact name_of_addr x.apart (y18 h1) (y18 h2)
 ·have hy:scope.names.lookup y=some .cell∨scope.names.lookup y=some .free:=hy;rcases hy with hy | hy
  ·exact z9d hy
  ·exact absurd rfl (S.nofree _ (y18 hy))
 ·exact y22 (x.above y c (y18 h))
 ·have hi:i<vs.length:=by
   unfold z48 at h2
   by_cases hi:i<vs.length
   ·exact hi
   ·rw[y20 (by simpa using hi)] at h2
    rw[y27] at h2
    split at h2<;>cases h2
  have ha:vs[i]?=some v:=by
   unfold z48 at h2;rw[y0x (by simpa using hi),y0g] at h2
   cases e:vs[i]? with
   | none=>rw[e] at h2;cases h2
   | some a=>rw[e] at h2;cases h2;rfl
  obtain⟨u,hu,rv⟩:=r.get ha;have hp:ps[i]?=some y:=by
   rw[←S.pre,y3u (by omega)];exact h1
  have ndP:ps.Nodup:=by rw[←S.pre];exact S.nd.sublist (List.take_sublist _ _)
  refine⟨u,rv,?_⟩;rcases S.par y (y0o hp) with k | k
  ·exact .inl ⟨k,z72 ndP hp hu k⟩
  ·obtain⟨c,e⟩:=z9d (n:=s.heap.objs.size+1) k;refine .inr ⟨.inl k,c,e,?_⟩;have q:=x.cell y c e;rw[z77 ndP hp hu (by show scope.names.lookup y≠_;rw[k];decide)] at q
   exact q
 ·exact e0.hok.fresh (y22 (x.above y c (y18 h)))
 ·unfold z48;show _=N.length;rw[y0k,y0e,y2e];omega
theorem zrf {CX:CXT}{P:Program}{w:World}{K:y00}{mg:Str->Option Value}{base:Heap}{k:Nat}{f:Addr}{name qual:Str}{params:Arguments}{body:List Stmt}{scope:Scope}{dV kV doc pm cdv ct oc:Value}{an od:Option Addr}
  {osl:Array (Option Value)} {N ps:List Str} {sp:Sp} (lk:K.lookup f=some ⟨oc,od,.func (y19 name qual params body scope dV kV doc pm an cdv ct),osl⟩) (hcd:y1n K cdv qual=true) (S:FnScope N ps scope)
  (len:∀vs H Q E,sp vs H Q E->vs.length=ps.length)
  (hbody:∀(A:Around) (outer:List Env) (s:Shared) (H:Hp) (vs:List V) (Q:VK) (E:XK),Room k (A.deeper (envOfC qual scope s.heap.objs.size f cdv))->sp vs H Q E ->
   ∃t,PSs (z38 CX P w K mg base N qual scope f cdv A outer s H E) body t/\t { nx:=λ_ H'=>Q .non H',rt:=Q } (z48 N vs) H) :
  FnOk P w K mg base CX (k+1) f (y19 name qual params body scope dV kV doc pm an cdv ct) ps sp:=by
 refine⟨len,λA outer s H args us vs Q E hr e0 hb r hsp=>?_⟩;have hl:=len _ _ _ _ hsp;have KX:K.In s.heap:=e0.mod.kin.keeps λb o e=>(e0.bs b o e).1
 have lim:s.heap.NoLimit:=e0.mod.nolimit.keeps λb o e=>(e0.bs b o e).1;have ay:∀y∈ps.zip us,scope.names.lookup y.1=some .local∨(scope.names.lookup y.1=some .cell/\((cellsFrom (s.heap.objs.size+1) scope.names []).lookup y.1).isSome=true):=λ⟨n,v⟩ hy=>by
  rcases S.par n (y3a hy).1 with q | q
  ·exact .inl q
  ·exact .inr ⟨q,y2y _ _ _ (.inl q)⟩
 refine codeAny_call_function hr.depth (KX _ _ lk) rfl S.co S.gen rfl (PySem.W.codeRec_of KX hcd) (hb _ _ _ _ ?_);refine wpAny_newFunctionEnv_cells S.kind ay λenv he s1 x=>?_;subst he;refine⟨lim.keeps x.toInCall.keep,codeAny_func ?_⟩;obtain⟨t,ht,hq⟩:=hbody A outer s H vs Q E (hr.deeper _) hsp;have I:Inv (z38 CX P w K mg base N qual scope f cdv A outer s H E) [] (z48 N vs) H s1:=z6l S hr.hd e0 hl r x;refine wpAny_mono (ht [] s1 (z48 N vs) H _ I hq) (λfl s' hs=>?_) λe s' hs=>hs;have fin:∀{σ':St} {H':Hp} {v:V} {u:Value},Inv (z38 CX P w K mg base N qual scope f cdv A outer s H E) [] σ' H' s'->RelV v u->Q v H'->CE outer P w H s Q u s' :=
  λ{σ' H' v u} J rv q=>⟨v,H',J.os,J.bare,J.base,J.hok,rv,q⟩
 cases fl with
 | ret u =>
  obtain⟨v,σ',H',J,rv,q⟩:=hs;exact fin J rv q
 | next =>
  obtain⟨σ',H',J,q⟩:=hs;exact fin (v:=V.non) (u:=Value.none) J rfl q
 | brk =>
  obtain⟨_,_,_,q⟩:=hs;exact False.elim q
 | cont =>
  obtain⟨_,_,_,q⟩:=hs;exact False.elim q
end L2
namespace L2
open PySem PySem.Spec PyProof.Rows
section
variable {X:Cx}{x:Str}{p pos:Pos}{e:Expr}{es:List Expr}{t:TA}{id T:String}{r:List V->Hp->VK->Prop}
def tCB (r:List V->Hp->VK->Prop)(t:TA):TE:=fun σ H Q=>t σ H λvs H1=>r vs H1 Q
theorem zfx (hc:CallR X (.builtin id) r)(hg:Gl X x)(hm:X.mg x=none)(hv:bootBuiltins x=some (.builtin id))(ha:PA X (e::es) t)(hn:x ≠ "__name__":=by decide)(hdb:(x==("__debug__":Str))=false:=by decide)
  (he:starEach (e::es) X.env=(false,eval e X.env)::starEach es X.env:=by rfl) (hpl:(backTo pos (starEach es X.env)).any (·.1)=false:=by rfl):PE X (.Call (.Name x p) (e::es) [] pos) (tCB r t):=by
 intro aa s σ H Q I h;refine wpAny_Call_Name_kw (z16 I hg hm hv ?_ hn hdb);exact y33 (thn (ha pos aa s σ H _ I h) λus s1 ⟨vs,H1,I1,r1,q1⟩=>hc aa s1 σ H1 vs us Q I1 r1 q1) he hpl
theorem zbx (hc:CallR X (.type T) r)(hg:Gl X x)(hm:X.mg x=none)(hv:bootBuiltins x=some (.type T))(ha:PA X (e::es) t)(hn:x ≠ "__name__":=by decide)(hdb:(x==("__debug__":Str))=false:=by decide)
  (he:starEach (e::es) X.env=(false,eval e X.env)::starEach es X.env:=by rfl) (hpl:(backTo pos (starEach es X.env)).any (·.1)=false:=by rfl):PE X (.Call (.Name x p) (e::es) [] pos) (tCB r t):=by
 intro aa s σ H Q I h;refine wpAny_Call_Name_kw (z16 I hg hm hv ?_ hn hdb);exact y0f (thn (ha pos aa s σ H _ I h) λus s1 ⟨vs,H1,I1,r1,q1⟩=>hc aa s1 σ H1 vs us Q I1 r1 q1) he hpl
end
end L2
namespace HT
open PySem PyProof.Rows
section
open PySem.SeqAt
open PySem.AutoSeq1 (wpAny_loadPart')
open PySem.MeetsSeq PySem.MeetsSeq2 PySem.MeetsSeq3
end
section
variable {prog:Program}{w:World}{A:Around}{E:Value->Shared->Prop}{s:Shared}
def sIx (n d:Nat):Option Int->Nat
 | none=>d
 | some v=>if v<0 then (v+(n:Int)).toNat else min v.toNat n
theorem zpd (n d:Nat)(hd:d≤n)(o:Option Int):sIx n d o≤n:=by
 cases o with
 | none=>exact hd
 | some v =>
  show(if v<0 then (v+(n:Int)).toNat else min v.toNat n)≤n
  by_cases hv:v<0
  ·rw[if_pos hv];omega
  ·rw[if_neg hv];exact Nat.min_le_right _ _
theorem zaj (v:Int)(n d:Nat):(if v<0 then max (v+(n:Int)) 0 else min v (n:Int))=((sIx n d (some v):Nat):Int):=by
 show(if v<0 then max (v+(n:Int)) 0 else min v (n:Int))=(((if v<0 then (v+(n:Int)).toNat else min v.toNat n):Nat):Int)
 by_cases hv:v<0
 ·simp only[if_pos hv];omega
 ·simp only[if_neg hv];omega
theorem za1 (lo hi:Option Int)(n:Nat):Builtin.Slice.sliceAdjust lo hi 1 (n:Int)=(((sIx n 0 lo:Nat):Int),((sIx n n hi:Nat):Int)):=by
 have h1:¬((1:Int)<0):=by omega
 unfold Builtin.Slice.sliceAdjust;simp only[h1,if_false];refine Prod.ext ?_ ?_
 ·cases lo with
  | none=>rfl
  | some v=>exact zaj v n 0
 ·cases hi with
  | none=>rfl
  | some v=>exact zaj v n n
theorem za0 (i j:Nat):Builtin.Slice.slicePlaces (i:Int) (j:Int) 1=j - i:=by
 unfold Builtin.Slice.slicePlaces;have h1:(1:Int)>0:=by omega
 simp only[h1,if_true,Int.ediv_one]
 split<;>omega
theorem z50 {v:Value}{o:Option Int}{Q:Option Int->Shared->Prop}(p:IsPart v o)(h:Q o s):wpAny (model prog w) A (Builtin.Slice.slicePartIndex v) Q E s:=by
 cases p with
 | none=>exact slicePart_none h
 | int i t=>exact slicePart_int h
theorem z3h {sl:Addr}{vl vu:Value}{lo hi:Option Int}{n:Nat}{Q:Int×Int×Nat->Shared->Prop}(hs:s.heap.IsSliceOf sl vl vu .none)(pl:IsPart vl lo)(pu:IsPart vu hi)
  (h:Q (((sIx n 0 lo:Nat):Int),1,sIx n n hi - sIx n 0 lo) s):wpAny (model prog w) A (Builtin.Slice.sliceApplied (.ref sl) (pure (n:Int))) Q E s:=by
 obtain⟨os,hos,hcs,hds⟩:=id hs;unfold Builtin.Slice.sliceApplied Builtin.Slice.sliceFields;refine wpAny_bind (wpAny_bind (wpAny_field hos hds (x:=vl) rfl (wpAny_bind (wpAny_field hos hds (x:=vu) rfl (wpAny_bind (wpAny_field hos hds (x:=.none) rfl (wpAny_pure ?_)))))));refine wpAny_bind (slicePart_none ?_);show wpAny _ _ (if ((1:Int)==0)=true then _ else _) _ _ s
 rw[if_neg (by decide)]
 refine wpAny_bind (z50 pl (wpAny_bind (z50 pu (wpAny_bind (wpAny_pure ?_)))));show wpAny _ _ (match Builtin.Slice.sliceAdjust lo hi 1 (n:Int) with | (lo,hi)=>pure (lo,(1:Int),Builtin.Slice.slicePlaces lo hi 1)) _ _ s
 rw[za1 lo hi n];show wpAny _ _ (pure (((sIx n 0 lo:Nat):Int),(1:Int),Builtin.Slice.slicePlaces ((sIx n 0 lo:Nat):Int) ((sIx n n hi:Nat):Int) 1)) _ _ s;rw[za0];exact wpAny_pure h
theorem zf1 (xs:Array Value)(i k:Nat):((y0s k).filterMap λ(m:Nat)=>xs[((i:Int)+(m:Int)*1).toNat]?).toArray=((xs.toList.drop i).take k).toArray:=by
 have e:(λ(m:Nat)=>xs[((i:Int)+(m:Int)*1).toNat]?)=λm=>xs[i+m]?:=by
  funext m;have:((i:Int)+(m:Int)*1).toNat=i+m:=by omega
  rw[this]
 rw[e];have:=pick_run xs i k;rw[y3k] at this;have e2:((λx=>xs[x]?)∘λx=>i+x)=λm=>xs[i+m]?:=rfl
 rw[e2] at this;rw[this]
theorem getItem_tuple_cut {t sl:Addr}{items:Array Value}{vl vu:Value}{lo hi:Option Int}{Q:Value->Shared->Prop}(ht:IsTup s.heap t items)(hs:s.heap.IsSliceOf sl vl vu .none)(pl:IsPart vl lo)(pu:IsPart vu hi)
  (hw:¬(sIx items.size 0 lo=0/\sIx items.size items.size hi=items.size))
  (h:Q (.ref s.heap.objs.size) { s with heap:=s.heap.push { cls:=.type "tuple",data:=.seq ((items.toList.drop (sIx items.size 0 lo)).take (sIx items.size items.size hi - sIx items.size 0 lo)).toArray } })
  (hsz:items.size≤sizeLine):wpAny (model prog w) A (getItem (.ref t) (.ref sl)) Q E s:=by
 have htake:sizeOk (.seq ((items.toList.drop (sIx items.size 0 lo)).take (sIx items.size items.size hi - sIx items.size 0 lo)).toArray):=by
  show((items.toList.drop (sIx items.size 0 lo)).take (sIx items.size items.size hi - sIx items.size 0 lo)).toArray.size≤sizeLine;rw[y07,y2b,y44,y2r];omega
 have hj:sIx items.size items.size hi≤items.size:=zpd _ _ (y08 _) hi;obtain⟨os,hos,hcs,hds⟩:=id hs;have hTs:s.TypeIs (.ref sl) "slice":=⟨os,hos,hcs⟩
 unfold getItem
 try with_reducible refine wpAny_holding ?_
 first | refine wpAny_bind (wpAny_pure ?_) | skip
 refine wpAny_bind (wpAny_sequenceKey ht.typeIs (by decide) ?_)
 refine wpAny_bind (wpAny_callSpecial?_slot (name:=Str.ofString "__getitem__") ht.typeIs y25
  (wpAny_call_entry y25 ht.typeIs entry_tuple_getitem ?_ (args_tuple_getitem _ _)))
 show wpAny _ _ (Builtin.Tuple.tupleItemsOf (.ref t) >>= _) _ _ s;refine wpAny_bind (tupleItemsOf_ ht ?_);refine wpAny_bind (wpAny_typeOf hTs ?_);rw[if_pos (by decide)]
 refine wpAny_bind (z3h hs pl pu ?_);have hno:¬((((sIx items.size 0 lo:Nat):Int)==0&&(1:Int)==1&&(sIx items.size items.size hi - sIx items.size 0 lo)==items.size)=true):=by
  intro q;rw[y09,y09] at q;have q1:((sIx items.size 0 lo:Nat):Int)=0:=eq_of_beq q.1.1;have q2:sIx items.size items.size hi - sIx items.size 0 lo=items.size:=eq_of_beq q.2
  exact hw ⟨by omega,by omega⟩
 show wpAny _ _ (if (((sIx items.size 0 lo:Nat):Int)==0&&(1:Int)==1&&(sIx items.size items.size hi - sIx items.size 0 lo)==items.size)=true then _ else _) _ _ s
 rw[if_neg hno,zf1]
 first
  | exact wpAny_bind (m:=Builtin.Tuple.tupleExact _) (wpAny_newObj_type (wpAny_pure ⟨_,rfl,wpAny_pure h⟩) htake)
  | exact wpAny_bind (m:=Builtin.Tuple.tupleExact _) (wpAny_newObj_type (wpAny_bind (wpAny_pure (wpAny_pure ⟨_,rfl,wpAny_pure h⟩))) htake)
  | exact wpAny_bind (wpAny_bind (m:=Builtin.Tuple.tupleExact _) (wpAny_newObj_type (wpAny_pure (wpAny_pure ⟨_,rfl,wpAny_pure h⟩)) htake))
  | exact wpAny_bind (wpAny_bind (m:=Builtin.Tuple.tupleExact _) (wpAny_newObj_type (wpAny_pure ⟨_,rfl,wpAny_pure h⟩) htake))
end
end HT
namespace L2
open PySem PySem.Spec PyProof.Rows
abbrev TO:=St->Hp->(Option Int->Hp->Prop)->Prop
def PO (X:Cx)(e:Option Expr)(t:TO):Prop :=
 ∀(aa:List (Addr×Obj)) (s:Shared) (σ:St) (H:Hp) (Q:Option Int->Hp->Prop),Inv X aa σ H s->t σ H Q ->
  wpAny (model X.prog X.w) X.A (evalPart e X.env) (λu s'=>∃o H',Inv X aa σ H' s'/\IsPart u o/\Q o H') X.xe s
def z82:TO:=λ_ H Q=>Q none H
def zfg (t:TE):TO:=fun σ H Q=>t σ H λx H1=>∃i,x = .int i/\Q (some i) H1
section
variable {X:Cx}{e:Expr}{te:TE}{lo hi:Option Expr}{tl th:TO}{pos p2:Pos}
theorem ze5:PO X none z82:=by
 intro aa s σ H Q I h;rw[evalPart_none];exact wpAny_pure ⟨none,H,I,.none,h⟩
theorem z87 (h:PE X e te):PO X (some e) (zfg te):=by
 intro aa s σ H Q I hw;rw[evalPart_some];refine thn (h aa s σ H _ I hw) λu s1 ⟨x,H1,I1,r1,q1⟩=>?_;obtain⟨i,rfl,q⟩:=q1;obtain⟨t,rfl⟩:=r1;exact⟨some i,H1,I1,.int i t,q⟩
def SlR (X:Cx)(r:V->Option Int->Option Int->Hp->VK->Prop):Prop :=
 ∀(aa:List (Addr×Obj)) (s:Shared) (σ:St) (H:Hp) (x:V) (v vl vu:Value) (lo hi:Option Int) (sl:Addr) (Q:VK),Inv X aa σ H s->RelV x v->s.heap.IsSliceOf sl vl vu .none->IsPart vl lo->IsPart vu hi->r x lo hi H Q ->
  ∃T id,typeLookup (.type T) "__getitem__"=pure (some (.builtin id))/\s.TypeIs v T/\wpAny (model X.prog X.w) X.A (getItem v (.ref sl)) (EP X aa σ Q) X.xe s
theorem SlR.or {r r':V->Option Int->Option Int->Hp->VK->Prop}(h:SlR X r)(h':SlR X r'):SlR X (λx lo hi H Q=>r x lo hi H Q∨r' x lo hi H Q):=by
 intro aa s σ H x v vl vu lo hi sl Q I rx hs pl pu q;rcases q with q | q
 ·exact h aa s σ H x v vl vu lo hi sl Q I rx hs pl pu q
 ·exact h' aa s σ H x v vl vu lo hi sl Q I rx hs pl pu q
def tSl (r:V->Option Int->Option Int->Hp->VK->Prop)(te:TE)(tl th:TO):TE:=fun σ H Q=>te σ H λx H1=>tl σ H1 λl H2=>th σ H2 λu H3=>r x l u H3 Q
theorem zfc {r:V->Option Int->Option Int->Hp->VK->Prop}(hr:SlR X r)(he:PE X e te)(hl:PO X lo tl)(hu:PO X hi th):PE X (.Subscript e (.Slice lo hi none p2) pos) (tSl r te tl th):=by
 intro aa s σ H Q I h;refine Subscript_ (thn (he aa s σ H _ I h) λv s1 ⟨x,H1,I1,r1,q1⟩=>?_);refine wpAny_Slice (thn (hl aa s1 σ H1 _ I1 q1) λvl s2 ⟨l,H2,I2,pl,q2⟩=>thn (hu aa s2 σ H2 _ I2 q2) λvu s3 ⟨u,H3,I3,pu,q3⟩=>?_);rw[evalPart_none];refine wpAny_pure ?_;have I4:Inv X aa σ H3 { s3 with heap:=s3.heap.push { cls:=.type "slice",data:=.fields #[vl,vu,.none] } }:=I3.kept (t':=s3.toks) λb ob q=>Heap.get?_push_of_some _ q
 obtain⟨T,id,hT,ht,hg⟩:=hr aa { s3 with heap:=s3.heap.push { cls:=.type "slice",data:=.fields #[vl,vu,.none] } } σ H3 x v vl vu l u s3.heap.objs.size Q I4 r1 (Heap.IsSliceOf.new ..) pl pu q3
 show wpAny (model X.prog X.w) X.A (subscriptTail e (.Slice lo hi none p2) v (.ref s3.heap.objs.size)) (EP X aa σ Q) X.xe { s3 with heap:=s3.heap.push { cls:=.type "slice",data:=.fields #[vl,vu,.none] } }
 exact tail_any (ops:=[.ref s3.heap.objs.size,v]) ht hT hg (by with_unfolding_all rfl)
def zgl (xs:List V)(lo hi:Option Int):List V:=(xs.drop (HT.sIx xs.length 0 lo)).take (HT.sIx xs.length xs.length hi - HT.sIx xs.length 0 lo)
theorem z49 (xs:List V)(lo hi:Option Int):(zgl xs lo hi).length≤xs.length:=by
 unfold zgl;rw[y2b,y44];omega
def zvu (K:y00):V->Option Int->Option Int->Hp->VK->Prop:=λx lo hi H Q=>∃a xs,x = .ref a/\SqT K H a xs /\
 ¬(HT.sIx xs.length 0 lo=0/\HT.sIx xs.length xs.length hi=xs.length)/\∀p,H p=none->Q (.ref p) (upd H p (.tup (zgl xs lo hi)))
theorem sl_tup:SlR X (zvu X.K):=by
 intro aa s σ H x v vl vu lo hi sl Q I rx hs pl pu h;obtain⟨a,xs,rfl,hx,hw,q⟩:=h;cases rx;obtain⟨its,r,ht,hz⟩:=I.tuple hx;have ap:its.toArray.size=xs.length:=by rw[y07];exact r.length.symm
 refine⟨"tuple",_,y25.lookup,ht.typeIs,?_⟩;refine HT.getItem_tuple_cut ht hs pl pu (by rw[ap];exact hw) ?_ (by rw[ap];exact hz)
 rw[ap];refine⟨.ref s.heap.objs.size,_,I.laid (t':=s.toks) (o:=.tup (zgl xs lo hi)) (λb ob q=>Heap.get?_push_of_some _ q) (y08 _) ?_,rfl,q _ (I.hok.fresh (y08 _))⟩;exact⟨y0j (z49 xs lo hi) hz,_,(r.drop (HT.sIx xs.length 0 lo)).take (HT.sIx xs.length xs.length hi - HT.sIx xs.length 0 lo),IsTup.new _ _⟩
end
end L2
namespace L2
open PySem PySem.Spec PyProof.Rows
def ixN (n:Nat)(i:Int):Option Nat:=if 0≤i then (if i<n then some i.toNat else none) else if -(n:Int)≤i then some (i+n).toNat else none
def atI {α:Type}(xs:List α)(i:Int):Option α:=(ixN xs.length i).bind λj=>xs[j]?
theorem zdj {n:Nat}{i:Int}{j:Nat}(h:ixN n i=some j):seqIndex? i n=some j/\j<n/\-(n:Int)≤i/\i<n:=by
 unfold ixN at h
 by_cases h0:0≤i
 ·rw[if_pos h0] at h
  by_cases h1:i<n
  ·rw[if_pos h1] at h;have e:i.toNat=j:=y0q h;exact⟨by rw[seqIndex_of h0 h1,e],by omega,by omega,h1⟩
  ·rw[if_neg h1] at h;cases h
 ·rw[if_neg h0] at h
  by_cases h1:-(n:Int)≤i
  ·rw[if_pos h1] at h;have e:(i+n).toNat=j:=y0q h;exact⟨by rw[seqIndex_neg (by omega) h1,e],by omega,h1,by omega⟩
  ·rw[if_neg h1] at h;cases h
theorem z7n {α:Type}{xs:List α}{i:Int}{v:α}(h:atI xs i=some v):∃j,seqIndex? i xs.length=some j/\xs[j]?=some v/\j<xs.length/\-(xs.length:Int)≤i/\i<xs.length:=by
 unfold atI at h;cases e:ixN xs.length i with
 | none=>rw[e] at h;cases h
 | some j =>
  rw[e] at h;obtain⟨h1,h2,h3,h4⟩:=zdj e;exact⟨j,h1,h,h2,h3,h4⟩
def zd3 (b:Expr):Prop:=∀o i,subscripted b false o i=operate [o,i] (getItem o i)
def IxR (X:Cx)(r:R2):Prop :=
 ∀(value aK:Expr) (aa:List (Addr×Obj)) (s:Shared) (σ:St) (H:Hp) (x y:V) (v u:Value) (Q:VK),Inv X aa σ H s->RelV x v->RelV y u->r x y H Q ->
  subscripted aK false v u=operate [v,u] (getItem v u)->wpAny (model X.prog X.w) X.A (subscriptTail value aK v u) (EP X aa σ Q) X.xe s
def MtR (X:Cx)(id:String)(r:V->List V->Hp->VK->Prop):Prop :=
 ∀(aa:List (Addr×Obj)) (s:Shared) (σ:St) (H:Hp) (x:V) (xs:List V) (v:Value) (us:List Value) (Q:VK),Inv X aa σ H s->RelV x v->Vals xs us->r x xs H Q ->
  wpAny (model X.prog X.w) X.A (call (.builtin id) (v::us)) (EP X aa σ Q) X.xe s
section
variable {X:Cx}{a b:Expr}{ta tb:TE}{pos:Pos}
theorem IxR.or {r r':R2}(h:IxR X r)(h':IxR X r'):IxR X (λx y H Q=>r x y H Q∨r' x y H Q):=by
 intro value aK aa s σ H x y v u Q I rx ry q hs;rcases q with q | q
 ·exact h value aK aa s σ H x y v u Q I rx ry q hs
 ·exact h' value aK aa s σ H x y v u Q I rx ry q hs
theorem ztq {r:R2}(hr:IxR X r)(ha:PE X a ta)(hb:PE X b tb)(hs:zd3 b):PE X (.Subscript a b pos) (tOp r ta tb):=by
 intro aa s σ H Q I h;exact Subscript_ (zuk ha hb I h λv u s2 x y H2 I2 rx ry q=>hr a b aa s2 σ H2 x y v u Q I2 rx ry q (hs _ _))
def zwi (K:y00):R2:=λx y H Q=>∃p xs i v,x = .ref p/\y = .int i/\SqL K H p xs/\atI xs i=some v/\Q v H
def zwf (K:y00):R2:=λx y H Q=>∃p xs i v,x = .ref p/\y = .int i/\SqT K H p xs/\atI xs i=some v/\Q v H
def zwn:R2:=λx y H Q=>∃z i c,x = .str z/\y = .int i/\z.length≤sizeLine/\atI z.cps.toList i=some c/\Q (.str ⟨#[c]⟩) H
theorem ix_list:IxR X (zwi X.K):=by
 intro value aK aa s σ H x y v u Q I rx ry h hs;obtain⟨p,xs,i,z,rfl,rfl,hq,he,q⟩:=h;cases rx;obtain⟨t,rfl⟩:=ry;obtain⟨its,r,pl,hz⟩:=I.list hq;obtain⟨j,h1,h2,h3,h4,h5⟩:=z7n he;obtain⟨w,ew,rw'⟩:=r.get h2;have hl:=r.length;have hn:=z58
 have fin:EP X aa σ Q w s:=⟨z,H,I,rw',q⟩
 by_cases h0:0≤i
 ·have hj:i.toNat=j:=by
   rw[seqIndex_of h0 h5] at h1;exact y0q h1
  exact item_listR pl.isList h0 (by omega) (by rw[hj];simpa using ew) fin hs
 ·have hj:(i+(its.toArray.size:Int)).toNat=j:=by
   rw[seqIndex_neg (by omega) h4] at h1
   rw[y07,←hl];exact y0q h1
  exact subscriptTail_builtinR (x:=w) pl.isList.typeIs slot_list_getitem.lookup
   (wpAny_getItem_list_neg (Q:=λr s'=>r=w/\EP X aa σ Q r s') pl.isList (by omega) (by rw[y07]<;>omega) (by omega) (by rw[hj];simpa using ew) ⟨rfl,fin⟩) hs
theorem ix_tup:IxR X (zwf X.K):=by
 intro value aK aa s σ H x y v u Q I rx ry h hs;obtain⟨p,xs,i,z,rfl,rfl,hq,he,q⟩:=h;cases rx;obtain⟨t,rfl⟩:=ry;obtain⟨its,r,pl,hz⟩:=I.tuple hq;obtain⟨j,h1,h2,h3,h4,h5⟩:=z7n he;obtain⟨w,ew,rw'⟩:=r.get h2;have hl:=r.length;have hn:=z58
 have fin:EP X aa σ Q w s:=⟨z,H,I,rw',q⟩;exact subscriptTail_builtinR (x:=w) pl.typeIs slot_tuple_getitem.lookup
  (getItem_tuple (j:=j) (Q:=λr s'=>r=w/\EP X aa σ Q r s') pl (by omega) (by omega) (by rw[y07,←hl];exact h1) (by simpa using ew) ⟨rfl,fin⟩) hs
theorem zna:IxR X zwn:=by
 intro value aK aa s σ H x y v u Q I rx ry h hs;obtain⟨z,i,c,rfl,rfl,hz,he,q⟩:=h;obtain⟨t,rfl⟩:=rx;obtain⟨t',rfl⟩:=ry;obtain⟨j,h1,h2,h3,h4,h5⟩:=z7n he;have hl:z.cps.toList.length=z.length:=by simp[Str.length]
 rw[hl] at h1 h4 h5;have hn:=z58;exact tail_any (typeIs_str s z t) slot_str_getitem.lookup (getItem_str (c:=c) (by
  have e1:decide (i < -(2^63:Int))=false:=decide_eq_false (by omega)
  have e2:decide (i≥2^63)=false:=decide_eq_false (by omega)
  rw[e1,e2,Bool.or_false]) (by rw[h1];simpa using h2) ⟨.str ⟨#[c]⟩,H,I.tok _,⟨_,rfl⟩,q⟩) hs
def rIx (K:y00):R2:=λx y H Q=>zwi K x y H Q∨zwf K x y H Q∨zwn x y H Q
theorem zpy:IxR X (rIx X.K):=ix_list.or (ix_tup.or zna)
theorem z9w (its:List Value)(n j:Nat)(u:Value):Obj.mapSeq (·.setIfInBounds j u) { cls:=.type "list",data:=.seq its.toArray n } = { cls:=.type "list",data:=.seq (its.set j u).toArray n }:=by
 simp[Obj.mapSeq]
theorem Inv.lst {aa:List (Addr×Obj)}{σ:St}{H:Hp}{s:Shared}{p:Addr}{xs:List V}(I:Inv X aa σ H s)(h:H p=some (.lst xs)) :
  ∃(its:List Value) (n:Nat),Vals xs its/\s.heap.get? p=some { cls:=.type "list",data:=.seq its.toArray n }/\xs.length≤sizeLine:=by
 obtain⟨z,its,n,r,e⟩:=I.hok p _ h;exact⟨its,n,r,e,z⟩
theorem Inv.lstUpd {aa:List (Addr×Obj)}{σ:St}{H:Hp}{s:Shared}{p:Addr}{xs ys:List V}{its its':List Value}{n n':Nat}{f:Obj->Obj}(I:Inv X aa σ H s)(h:H p=some (.lst xs))
  (ho:s.heap.get? p=some { cls:=.type "list",data:=.seq its.toArray n }) (hf:f { cls:=.type "list",data:=.seq its.toArray n } = { cls:=.type "list",data:=.seq its'.toArray n' }) (r:Vals ys its') (hz:ys.length≤sizeLine) (t:Nat) :
  Inv X aa σ (upd H p (.lst ys)) { s with heap:=s.heap.update p f,toks:=t }:=by
 have e:(s.heap.update p f).get? p=some { cls:=.type "list",data:=.seq its'.toArray n' }:=by
  rw[Heap.get?_update_self f ho (by rw[hf]<;>rfl),hf]
 refine I.write (x:=p) (e:=p) (by rw[h];trivial) (.inl rfl) (λb u hb q=>(Heap.get?_update_other _ _ (Ne.symm hb)).trans q) ⟨_,e⟩ ?_
 exact⟨hz,its',n',r,e⟩
def zef:V->V->V->Hp->(Hp->Prop)->Prop:=λo i v H Q=>∃p xs k j,o = .ref p/\i = .int k/\H p=some (.lst xs)/\ixN xs.length k=some j/\Q (upd H p (.lst (xs.set j v)))
theorem zfv:zrp X zef:=by
 intro aa s σ H o i v ov iv u Q I ro ri rv h;obtain⟨p,xs,k,j,rfl,rfl,hp,hj,q⟩:=h;cases ro;obtain⟨t,rfl⟩:=ri;obtain⟨its,n,r,ho,hz⟩:=I.lst hp;obtain⟨h1,h2,h3,h4⟩:=zdj hj;have hl:=r.length;have hn:=z58
 have I':Inv X aa σ (upd H p (.lst (xs.set j v))) { s with heap:=s.heap.update p (Obj.mapSeq (·.setIfInBounds j u)) } :=
  I.lstUpd hp ho (z9w its n j u) (r.set rv j) (by rw[y5p];exact hz) s.toks
 by_cases h0:0≤k
 ·have hk:k.toNat=j:=by
   rw[seqIndex_of h0 h4] at h1;exact y0q h1
  exact PySem.W.ki_setAt ho h0 (by omega) (by rw[y07,←hl];exact h4) (by rw[hk];exact⟨_,I',q⟩)
 ·have hk:(k+(its.toArray.size:Int)).toNat=j:=by
   rw[seqIndex_neg (by omega) h3] at h1
   rw[y07,←hl];exact y0q h1
  exact PySem.W.ki_setBack ho (by omega) (by rw[y07,←hl];exact h3) (by omega) (by rw[hk];exact⟨_,I',q⟩)
theorem z6u (lo hi:Option Int)(n:Nat):(sliceBounds lo hi none n).1=((HT.sIx n 0 lo:Nat):Int)/\(sliceBounds lo hi none n).2.1=((HT.sIx n n hi:Nat):Int)/\(sliceBounds lo hi none n).2.2=1:=by
 refine⟨?_,?_,rfl⟩
 ·cases lo with
  | none=>simp[sliceBounds,HT.sIx]
  | some i =>
   simp only[sliceBounds,HT.sIx,y5k,show(1:Int)>0 by decide,if_true]
   by_cases h:i<0
   ·simp only[h,if_true]<;>omega
   ·simp only[h,if_false]<;>omega
 ·cases hi with
  | none=>simp[sliceBounds,HT.sIx]
  | some i =>
   simp only[sliceBounds,HT.sIx,y5k,show(1:Int)>0 by decide,if_true]
   by_cases h:i<0
   ·simp only[h,if_true]<;>omega
   ·simp only[h,if_false]<;>omega
theorem z5j (its:List Value)(lo hi:Option Int):slicePick its.toArray lo hi none=((its.drop (HT.sIx its.length 0 lo)).take (HT.sIx its.length its.length hi - HT.sIx its.length 0 lo)).toArray:=by
 obtain⟨h1,h2,h3⟩:=z6u lo hi its.toArray.size;unfold slicePick;rw[h1,h2,h3];simp only[sliceRange_one,pick_run,y07]<;>rfl
def zx4 (K:y00):V->Option Int->Option Int->Hp->VK->Prop:=λx lo hi H Q=>∃a xs,x = .ref a/\SqL K H a xs/\∀p,H p=none->Q (.ref p) (upd H p (.lst (zgl xs lo hi)))
theorem sl_list:SlR X (zx4 X.K):=by
 intro aa s σ H x v vl vu lo hi sl Q I rx hs pl pu h;obtain⟨a,xs,rfl,hx,q⟩:=h;cases rx;obtain⟨its,r,ht,hz⟩:=I.list hx;have ap:=r.length;refine⟨"list",_,slot_list_getitem.lookup,ht.isList.typeIs,?_⟩;refine wpAny_getItem_list_slice ht.isList hs pl pu .none (by simp) ?_ (by rw[y07]<;>omega)
 rw[z5j,←ap];refine⟨.ref s.heap.objs.size,_,I.laid (t':=s.toks) (o:=.lst (zgl xs lo hi)) (λb ob q=>Heap.get?_push_of_some _ q) (y08 _) ?_,rfl,q _ (I.hok.fresh (y08 _))⟩;exact⟨y0j (z49 xs lo hi) hz,_,0,(r.drop (HT.sIx xs.length 0 lo)).take (HT.sIx xs.length xs.length hi - HT.sIx xs.length 0 lo),Heap.get?_push_size _ rfl⟩
def z36:V->Bool
 | .non=>true
 | .bl _=>true
 | .int _=>true
 | .str _=>true
 | _=>false
def eqV:V->V->Bool
 | .non,.non=>true
 | .bl a,.bl b=>a==b
 | .bl a,.int b=>(if a then 1 else 0)==b
 | .int a,.bl b=>a==(if b then 1 else 0)
 | .int a,.int b=>a==b
 | .str a,.str b=>a==b
 | _,_=>false
theorem znj {A:Around}{s:Shared}{y x:V}{u v:Value}(ry:RelV y u)(rx:RelV x v)(fy:z36 y=true)(fx:z36 x=true):SeqAt.EqAt A s u v (eqV y x):=by
 cases y with
 | non =>
  cases ry;cases x with
  | non=>cases rx;exact SeqAt.EqAt.same _
  | bl b=>cases rx;exact SeqAt.EqAt.none_bool b
  | int b=>obtain⟨t,rfl⟩:=rx;exact SeqAt.EqAt.none_int b t
  | str b=>obtain⟨t,rfl⟩:=rx;exact SeqAt.EqAt.none_str b t
  | _=>exact absurd (show false=true from fx) y0t
 | bl a =>
  cases ry;cases x with
  | non=>cases rx;exact SeqAt.EqAt.bool_none a
  | bl b=>cases rx;exact SeqAt.EqAt.bool_bool a b
  | int b=>obtain⟨t,rfl⟩:=rx;exact SeqAt.EqAt.bool_int a b t
  | str b=>obtain⟨t,rfl⟩:=rx;exact SeqAt.EqAt.bool_str a b t
  | _=>exact absurd (show false=true from fx) y0t
 | int a =>
  obtain⟨t',rfl⟩:=ry;cases x with
  | non=>cases rx;exact SeqAt.EqAt.int_none a t'
  | bl b=>cases rx;exact SeqAt.EqAt.int_bool a t' b
  | int b=>obtain⟨t,rfl⟩:=rx;exact SeqAt.EqAt.int_int a t' b t
  | str b=>obtain⟨t,rfl⟩:=rx;exact SeqAt.EqAt.int_str a t' b t
  | _=>exact absurd (show false=true from fx) y0t
 | str a =>
  obtain⟨t',rfl⟩:=ry;cases x with
  | non=>cases rx;exact SeqAt.EqAt.str_none a t'
  | bl b=>cases rx;exact SeqAt.EqAt.str_bool a t' b
  | int b=>obtain⟨t,rfl⟩:=rx;exact SeqAt.EqAt.str_int a t' b t
  | str b=>obtain⟨t,rfl⟩:=rx;exact SeqAt.EqAt.str_str a t' b t
  | _=>exact absurd (show false=true from fx) y0t
 | _=>exact absurd (show false=true from fy) y0t
def eqU (x:V)(u:Value):Bool:=match u with
 | .none=>eqV .non x
 | .bool b=>eqV (.bl b) x
 | .int i _=>eqV (.int i) x
 | .str z _=>eqV (.str z) x
 | _=>false
theorem zi4 {x y:V}{u:Value}(r:RelV y u)(f:z36 y=true):eqU x u=eqV y x:=by
 cases y with
 | non=>cases r;rfl
 | bl b=>cases r;rfl
 | int i=>obtain⟨t,rfl⟩:=r;rfl
 | str z=>obtain⟨t,rfl⟩:=r;rfl
 | _=>exact absurd (show false=true from f) y0t
theorem z3y {x:V}:∀{xs:List V} {us:List Value},Vals xs us->xs.all z36=true->us.any (eqU x)=xs.any λy=>eqV y x
 | _,_,.nil,_=>rfl
 | y::xs,u::us,.cons r t,f=>by
  rw[y3z,y09] at f;rw[y1o,y1o,zi4 r f.1,z3y t f.2]
theorem z2p {A:Around}{s:Shared}{x:V}{v:Value}(rx:RelV x v)(fx:z36 x=true):∀{xs:List V} {us:List Value},Vals xs us->xs.all z36=true->∀u∈us,SeqAt.EqAt A s u v (eqU x u)
 | _,_,.nil,_=>λu hu=>by cases hu
 | y::xs,u::us,.cons r t,f=>λu' hu=>by
  rw[y3z,y09] at f;rcases y0a.mp hu with rfl | hu
  ·rw[zi4 r f.1];exact znj r rx f.1 fx
  ·exact z2p rx fx t f.2 u' hu
def inV (x:V)(xs:List V):Bool:=xs.any λy=>eqV y x
def rIn (K:y00)(neg:Bool):R2:=λx y H Q=>∃p xs,y = .ref p/\(SqL K H p xs∨SqT K H p xs)/\z36 x=true/\xs.all z36=true/\Q (.bl (if neg then !inV x xs else inV x xs)) H
theorem op_in_seq:OpR X (compareOp .In) (rIn X.K false):=by
 intro aa s σ H x y v u Q I rx ry h;obtain⟨p,xs,rfl,hq,fx,fs,q⟩:=h;cases ry;rcases hq with hq | hq
 ·obtain⟨its,r,pl,hz⟩:=I.list hq;refine SeqAt.in_listAt (eqU x) pl.isList (λw hw=>z2p rx fx r fs w (by simpa using hw)) ⟨.bl _,H,I,rfl,?_⟩
  rw[show its.toArray.any (eqU x)=its.any (eqU x) by simp,z3y r fs]
  exact q
 ·obtain⟨its,r,pl,hz⟩:=I.tuple hq;refine SeqAt.in_tupleAt (eqU x) pl (λw hw=>z2p rx fx r fs w (by simpa using hw)) ⟨.bl _,H,I,rfl,?_⟩
  rw[show its.toArray.any (eqU x)=its.any (eqU x) by simp,z3y r fs]
  exact q
theorem op_notIn_seq:OpR X (compareOp .NotIn) (rIn X.K true):=by
 intro aa s σ H x y v u Q I rx ry h;obtain⟨p,xs,rfl,hq,fx,fs,q⟩:=h;cases ry;rcases hq with hq | hq
 ·obtain⟨its,r,pl,hz⟩:=I.list hq;refine SeqAt.notIn_listAt (eqU x) pl.isList (λw hw=>z2p rx fx r fs w (by simpa using hw)) ⟨.bl _,H,I,rfl,?_⟩
  rw[show its.toArray.any (eqU x)=its.any (eqU x) by simp,z3y r fs]
  exact q
 ·obtain⟨its,r,pl,hz⟩:=I.tuple hq;refine SeqAt.notIn_tupleAt (eqU x) pl (λw hw=>z2p rx fx r fs w (by simpa using hw)) ⟨.bl _,H,I,rfl,?_⟩
  rw[show its.toArray.any (eqU x)=its.any (eqU x) by simp,z3y r fs]
  exact q
theorem CallR.or {f:Value}{r r':List V->Hp->VK->Prop}(h:CallR X f r)(h':CallR X f r'):CallR X f (λxs H Q=>r xs H Q∨r' xs H Q):=by
 intro aa s σ H xs us Q I rs q;rcases q with q | q
 ·exact h aa s σ H xs us Q I rs q
 ·exact h' aa s σ H xs us Q I rs q
theorem z7a:CallR X (.type "list") (λxs H Q=>∃p ys,xs = [.ref p]/\(SqL X.K H p ys∨SqT X.K H p ys)/\∀l,H l=none->Q (.ref l) (upd H l (.lst ys))):=by
 intro aa s σ H xs us Q I r h;obtain⟨p,ys,rfl,hq,q⟩:=h;obtain⟨u,rfl,rx⟩:=z29 r;cases rx;have fin:∀(its:List Value),Vals ys its->ys.length≤sizeLine->∀(h':Heap) (c':Nat),(∀b o',s.heap.get? b=some o'->h'.get? b=some o') ->
   h'.get? s.heap.objs.size=some { cls:=.type "list",dict:=none,data:=.seq its.toArray c',slots:=#[] }->EP X aa σ Q (.ref s.heap.objs.size) { s with heap:=h' }:=λits r' hz h' c' kp e =>
  ⟨.ref s.heap.objs.size,_,I.laid (t':=s.toks) kp (y08 _) (show ObjOk X.prog X.w _ h' _ (.lst ys) from ⟨hz,its,c',r',e⟩),rfl,q _ (I.hok.fresh (y08 _))⟩
 rcases hq with hq | hq
 ·obtain⟨its,r',pl,hz⟩:=I.list hq;have ap:=r'.length;obtain⟨o,ho,hc,n,hd⟩:=pl.isList;exact call_list_seq p (.inl rfl) ho hc hd (λh' c' kp e=>fin its r' hz h' c' kp e) (by simp only[y07]<;>omega)
 ·obtain⟨its,r',pl,hz⟩:=I.tuple hq;have ap:=r'.length;obtain⟨o,ho,hc,n,hd⟩:=pl;exact call_list_seq p (.inr rfl) ho hc hd (λh' c' kp e=>fin its r' hz h' c' kp e) (by simp only[y07]<;>omega)
def tyV (K:y00)(T:String)(x:V)(H:Hp):Prop:=match x with
 | .str _=>T = "str"
 | .int _=>T = "int"
 | .ref p=>(T = "list"/\∃xs,SqL K H p xs)∨(T = "tuple"/\∃o,K.lookup p=some o/\o.cls = .type "tuple"/\o.dict=none) ∨
   (T = "dict"/\((∃kvs,H p=some (.dK kvs))∨∃kvs,H p=some (.dT kvs)))∨(T = "set"/\∃S n,H p=some (.set S n))
 | _=>False
theorem zhd {aa:List (Addr×Obj)}{σ:St}{H:Hp}{s:Shared}{T:String}{x:V}{v:Value}(I:Inv X aa σ H s)(r:RelV x v)(ty:tyV X.K T x H) :
  s.TypeIs v T/\∀a,v = .ref a->∃ob,s.heap.get? a=some ob/\ob.dict=none:=by
 cases x with
 | str z =>
  obtain⟨t,rfl⟩:=r;cases (show T = "str" from ty)
  exact⟨typeIs_str s z t,λ_ e=>nomatch e⟩
 | int i =>
  obtain⟨t,rfl⟩:=r;cases (show T = "int" from ty)
  exact⟨typeIs_int s i t,λ_ e=>nomatch e⟩
 | ref p =>
  cases r;rcases ty with ⟨rfl,xs,hq⟩ | ⟨rfl,o,hk,hc,hd⟩ | ⟨rfl,hk⟩ | ⟨rfl,S,n,hk⟩
  ·obtain⟨its,_,pl,_⟩:=I.list hq;refine⟨pl.isList.typeIs,λa e=>?_⟩;cases e;obtain⟨o,n,e,c,hd,_⟩:=pl;exact⟨o,e,hd⟩
  ·refine⟨⟨o,I.kIn p o hk,hc⟩,λa e=>?_⟩;cases e;exact⟨o,I.kIn _ o hk,hd⟩
  ·have z:∃o,s.heap.get? p=some o/\o.ExactDict:=by
    rcases hk with ⟨kvs,hk⟩ | ⟨kvs,hk⟩
    ·obtain⟨_,_,_,_,o,_,_,e,ex,_⟩:=I.hok p _ hk;exact⟨o,e,ex⟩
    ·obtain⟨_,_,_,_,o,_,_,e,ex,_⟩:=I.hok p _ hk;exact⟨o,e,ex⟩
   obtain⟨o,e,ex⟩:=z;refine⟨⟨o,e,ex.1⟩,λa e2=>?_⟩;cases e2;exact⟨o,e,ex.2.1⟩
  ·obtain⟨o,_,_,_,e,ex,_⟩:=I.hok p _ hk;refine⟨⟨o,e,ex.1⟩,λa e2=>?_⟩;cases e2;exact⟨o,e,ex.2.1⟩
 | _=>exact False.elim ty
def zye (K:y00)(T:String)(r:V->List V->Hp->VK->Prop)(to:TE):TE:=fun σ H Q=>to σ H λx H1=>tyV K T x H1/\r x [] H1 Q
def tBM (K:y00)(T:String)(r:V->List V->Hp->VK->Prop)(to:TE)(t:TA):TE:=fun σ H Q=>to σ H λx H1=>tyV K T x H1/\t σ H1 λxs H2=>r x xs H2 Q
variable {o e:Expr}{es:List Expr}{to:TE}{t:TA}{name:Str}{ah ac:Pos}{T id:String}{r:V->List V->Hp->VK->Prop}
theorem zhx (pa:PlainAttrs T)(slot:Slot T name id)(hty:typeOf (.builtin id)=pure (.type "method_descriptor"))(hm:MtR X id r)(ho:PE X o to)
  (az:attributeBase o name X.env (eval o X.env)=eval o X.env:=by rfl) (ar:(ah.endLine==ac.line)=true:=by rfl):PE X (.Call (.Attribute o name ah) [] [] ac) (zye X.K T r to):=by
 intro aa s σ H Q I h;refine wpAny_Call_method0_late az ar (thn (ho aa s σ H _ I h) λv s1 ⟨x,H1,I1,r1,ty,q1⟩=>?_);obtain⟨h1,h2⟩:=zhd I1 r1 ty;exact⟨T,id,pa,slot,hty,h1,h2,Calls.callWith_builtin rfl (y4x (hm aa s1 σ H1 x [] v [] Q I1 r1 .nil q1))⟩
theorem ziv (pa:PlainAttrs T)(slot:Slot T name id)(hty:typeOf (.builtin id)=pure (.type "method_descriptor"))(hm:MtR X id r)(ho:PE X o to)(ha:PA X (e::es) t)
  (az:attributeBase o name X.env (eval o X.env)=eval o X.env:=by rfl)
  (hfew:((backTo ac (starEach (e::es) X.env)).all (λx=>!x.1)&&(backToKw ac (keywordEach [] X.env)).all (λx=>x.1.isSome)
  &&decide ((e::es).length+([]:List Keyword).length+(if ([]:List Keyword).isEmpty then 0 else 1)<30))=true:=by rfl)
  (ar:(ah.endLine==ac.line)=true:=by rfl) (hs:starEach (e::es) X.env=(false,eval e X.env)::starEach es X.env:=by rfl) (aO:(backTo ac (starEach es X.env)).any (·.1)=false:=by rfl) :
  PE X (.Call (.Attribute o name ah) (e::es) [] ac) (tBM X.K T r to t):=by
 intro aa s σ H Q I h;refine wpAny_Call_method_late az hfew ar rfl (thn (ho aa s σ H _ I h) λv s1 ⟨x,H1,I1,r1,ty,q1⟩=>?_);obtain⟨h1,h2⟩:=zhd I1 r1 ty;refine⟨T,id,pa,slot,hty,h1,h2,?_⟩;have hA:=ha ac aa s1 σ H1 _ I1 q1;rw[hs] at hA ⊢
 refine Calls.callWith_builtin (by show(false||(backTo ac (starEach es X.env)).any (·.1))=false;rw[aO]<;>rfl) (Calls.evalArgs_plain ?_)
 exact thn hA λus s2 ⟨vs,H2,I2,r2,q2⟩=>hm aa s2 σ H2 x vs v us Q I2 r1 r2 q2
end
end L2
namespace L2
open PySem PySem.Spec PyProof.Rows
def MtM (X:Cx)(id:String)(r:V->List V->Hp->VK->Prop):Prop :=
 ∀(aa:List (Addr×Obj)) (s:Shared) (σ:St) (H:Hp) (x:V) (xs:List V) (v:Value) (us:List Value) (Q:VK),Inv X aa σ H s->RelV x v->Vals xs us->r x xs H Q ->
  wpAny (model X.prog X.w) X.A (call (.builtin id) (v::us)) (EP X aa σ Q) X.xe s
theorem Vals.one:∀{x:V} {us:List Value},Vals [x] us->∃u,us = [u]/\RelV x u
 | _,_,.cons r .nil=>⟨_,rfl,r⟩
theorem Vals.two:∀{x y:V} {us:List Value},Vals [x,y] us->∃u v,us = [u,v]/\RelV x u/\RelV y v
 | _,_,_,.cons r (.cons q .nil)=>⟨_,_,rfl,r,q⟩
theorem Vals.zero:∀{us:List Value},Vals [] us->us = []
 | _,.nil=>rfl
theorem Vals.dropLast {xs:List V}{us:List Value}(h:Vals xs us):Vals xs.dropLast us.dropLast:=by
 induction h with
 | nil=>exact .nil
 | cons r t ih =>
  cases t with
  | nil=>exact .nil
  | cons q t'=>exact .cons r ih
theorem Vals.rep {xs:List V}{us:List Value}(h:Vals xs us):∀k:Nat,Vals (y0b k xs).flatten (y0b k us).flatten
 | 0=>.nil
 | k+1=>by
  rw[y1d,y1d,y2i,y2i];exact Vals.append h (Vals.rep h k)
theorem zae {α:Type}(l:List α):l.eraseIdx (l.length - 1)=l.dropLast:=by
 induction l with
 | nil=>rfl
 | cons a r ih =>
  cases r with
  | nil=>rfl
  | cons b r =>
   have e:(a::b::r).length - 1=((b::r).length - 1)+1:=by
    have h1:(a::b::r).length=r.length+2:=rfl;have h2:(b::r).length=r.length+1:=rfl
    omega
   rw[e,List.eraseIdx_cons_succ,ih]
   all_goals rfl
theorem z6p (its:List Value):∀(k:Nat) (acc:List Value),
  y5b (λx1 x2=>x1++x2) acc.toArray (y0b k its.toArray)=(acc++(y0b k its).flatten).toArray
 | 0,acc=>by simp
 | k+1,acc=>by
  have e:acc.toArray++its.toArray=(acc++its).toArray:=by simp
  have e2:(acc++its)++(y0b k its).flatten=acc++(y0b (k+1) its).flatten:=by
   rw[y1d,y2i,y32]
  rw[←e2,←z6p its k (acc++its),←e,y1d,y5q]
section
variable {X:Cx}{aa:List (Addr×Obj)}{σ:St}{H:Hp}{s:Shared}{l b:Addr}{xs ys zs:List V}
theorem Inv.lset {its its':List Value}{n:Nat}{f:Array Value->Array Value}{t':Nat}(I:Inv X aa σ H s)(hH:H l=some (.lst xs))
  (e:s.heap.get? l=some { cls:=.type "list",data:=.seq its.toArray n }) (hf:f its.toArray=its'.toArray) (hv:Vals ys its') (hz:ys.length≤sizeLine) :
  Inv X aa σ (upd H l (.lst ys)) { s with heap:=s.heap.update l (Obj.mapSeq f),toks:=t' }:=by
 have q:=PySem.IsL.update e f;rw[hf] at q;refine I.write (x:=l) (e:=l) (by rw[hH];exact trivial) (.inl rfl) (λb' u hb hu=>(Heap.get?_update_other s.heap (Obj.mapSeq f) (Ne.symm hb)).trans hu) ⟨_,q⟩ ?_
 exact⟨hz,its',_,hv,q⟩
theorem Inv.lnew {its:List Value}{t':Nat}(I:Inv X aa σ H s)(hv:Vals ys its)(hz:ys.length≤sizeLine) :
  Inv X aa σ (upd H s.heap.objs.size (.lst ys)) { s with heap:=s.heap.push { cls:=.type "list",data:=.seq its.toArray },toks:=t' } :=
 I.laid (λ_ _ q=>Heap.get?_push_of_some _ q) (y08 _) ⟨hz,its,0,hv,Heap.get?_push_size _ rfl⟩
theorem Inv.fresh (I:Inv X aa σ H s):H s.heap.objs.size=none:=I.hok.fresh (y08 _)
theorem Inv.lstM (I:Inv X aa σ H s)(hH:H l=some (.lst xs)):xs.length≤sizeLine/\∃(its:List Value) (n:Nat),Vals xs its/\xs.length=its.length/\s.heap.get? l=some { cls:=.type "list",data:=.seq its.toArray n }:=by
 obtain⟨z,its,n,r,e⟩:=I.hok l _ hH;exact⟨z,its,n,r,r.length,e⟩
theorem z9g {n:Nat}(h:n≤sizeLine):Builtin.List.listTooLong n=false:=by
 unfold Builtin.List.listTooLong;exact decide_eq_false (by omega)
end
section
variable {X:Cx}
def zj8:V->List V->Hp->VK->Prop:=λx vs H Q=>∃l xs y,x = .ref l/\vs = [y]/\H l=some (.lst xs)/\xs.length<sizeLine/\Q .non (upd H l (.lst (xs ++ [y])))
theorem zcw:MtM X "list.append" zj8:=by
 intro aa s σ H x vs v us Q I rx rv h;obtain⟨l,xs,y,rfl,rfl,hH,hz,q⟩:=h;cases rx;obtain⟨u,rfl,ru⟩:=rv.one;obtain⟨z,its,n,r,hl,e⟩:=I.lstM hH;refine call_meets F.slot_list_append ⟨_,e,rfl⟩ F.entry_list_append (F.args_list_append_2 _ _) (PySem.list_append l its.toArray n u (by rw[y07];omega)) ⟨e,?_⟩
 refine⟨.non,_,I.lset (its':=its ++ [u]) hH e (by simp) (r.append (.cons ru .nil)) ?_,rfl,q⟩
 rw[y0k,y1q];omega
def zj0:V->List V->Hp->VK->Prop:=λx vs H Q=>∃l b xs zs,x = .ref l/\vs = [.ref b]/\H l=some (.lst xs)/\H b=some (.lst zs)/\xs.length+zs.length≤sizeLine/\Q .non (upd H l (.lst (xs++zs)))
theorem zcp:MtM X "list.extend" zj0:=by
 intro aa s σ H x vs v us Q I rx rv h;obtain⟨l,b,xs,zs,rfl,rfl,hH,hB,hz,q⟩:=h;cases rx;obtain⟨u,rfl,ru⟩:=rv.one;cases ru;obtain⟨z,its,n,r,hl,e⟩:=I.lstM hH;obtain⟨z2,its2,n2,r2,hl2,e2⟩:=I.lstM hB;have hsz:its.toArray.size+its2.toArray.size≤sizeLine:=by rw[y07,y07];omega
 have hlong:¬(!its.toArray.isEmpty&&Builtin.List.listTooLong (its.toArray.size+its2.toArray.size))=true:=by
  rw[z9g hsz,Bool.and_false];exact y0t
 refine call_meets F.slot_list_extend ⟨_,e,rfl⟩ F.entry_list_extend (F.args_list_extend_2 _ _)
  (AutoSeq1.list_extend_list_list_0 l its.toArray n b its2.toArray n2 hlong (by rw[y07];omega) (by omega)) ⟨e,e2,?_⟩
 refine⟨.non,_,I.lset (its':=its++its2) hH e (by simp) (r.append r2) ?_,rfl,q⟩
 rw[y0k];omega
def zxh:V->List V->Hp->VK->Prop:=λx vs H Q=>∃l xs y,x = .ref l/\vs = []/\H l=some (.lst xs)/\xs[xs.length - 1]?=some y/\Q y (upd H l (.lst xs.dropLast))
theorem zne:MtM X "list.pop" zxh:=by
 intro aa s σ H x vs v us Q I rx rv h;obtain⟨l,xs,y,rfl,rfl,hH,hy,q⟩:=h;cases rx;have hus:=rv.zero;subst hus;obtain⟨z,its,n,r,hl,e⟩:=I.lstM hH;obtain⟨u,hu,ru⟩:=r.get hy;have hy':its.toArray[its.toArray.size - 1]?=some u:=by
  show its.toArray[its.length - 1]?=some u;rw[←y1r,←hl];exact hu
 refine call_meets F.slot_list_pop ⟨_,e,rfl⟩ F.entry_list_pop (F.args_list_pop_1 _) (MeetsSeq.list_pop_last l its.toArray n u hy' (by rw[y07];omega)) ⟨e,?_⟩
 refine⟨y,_,I.lset (its':=its.dropLast) hH e ?_ r.dropLast ?_,ru,q⟩
 ·show its.toArray.eraseIdxIfInBounds (its.toArray.size - 1)=its.dropLast.toArray;rw[y07,List.eraseIdxIfInBounds_toArray,zae]
 ·rw[y4q];omega
def zok:V->List V->Hp->VK->Prop:=λx vs H Q=>∃l xs,x = .ref l/\vs = []/\H l=some (.lst xs)/\Q .non (upd H l (.lst []))
theorem zeu:MtM X "list.clear" zok:=by
 intro aa s σ H x vs v us Q I rx rv h;obtain⟨l,xs,rfl,rfl,hH,q⟩:=h;cases rx;have hus:=rv.zero;subst hus;obtain⟨z,its,n,r,hl,e⟩:=I.lstM hH;refine call_meets F.slot_list_clear ⟨_,e,rfl⟩ F.entry_list_clear (F.args_list_clear_1 _) (AutoSeq1.list_clear_list_0 l its.toArray n (by rw[y07];omega)) ⟨e,?_⟩
 exact⟨.non,_,I.lset (its':=[]) (ys:=[]) hH e rfl .nil (y2s _),rfl,q⟩
def zyb:R2:=λx y H Q=>∃l b xs zs,x = .ref l/\y = .ref b/\H l=some (.lst xs)/\H b=some (.lst zs)/\xs.length+zs.length≤sizeLine/\∀p,H p=none->Q (.ref p) (upd H p (.lst (xs++zs)))
theorem zo0:OpR X (binaryOp .Add) zyb:=by
 intro aa s σ H x y v u Q I rx ry h;obtain⟨l,b,xs,zs,rfl,rfl,hH,hB,hz,q⟩:=h;cases rx;cases ry;obtain⟨z,its,n,r,hl,e⟩:=I.lstM hH;obtain⟨z2,its2,n2,r2,hl2,e2⟩:=I.lstM hB;refine PySem.P.add_list e e2 ?_ (by rw[y07,y07];omega)
 have ea:its.toArray++its2.toArray=(its++its2).toArray:=by simp
 rw[ea];exact⟨.ref _,_,I.lnew (t':=s.toks) (r.append r2) (by rw[y0k];omega),rfl,q _ I.fresh⟩
def zy6:R2:=λx y H Q=>∃l k xs,x = .ref l/\y = .int k/\H l=some (.lst xs)/\-(2^63)≤k/\k<2^63/\xs.length*k.toNat≤sizeLine /\
 ∀p,H p=none->Q (.ref p) (upd H p (.lst (y0b k.toNat xs).flatten))
theorem zku {α:Type}(xs:List α)(k:Nat):(y0b k xs).flatten.length=k*xs.length:=by
 induction k with
 | zero=>simp
 | succ k ih=>rw[y1d,y2i,y0k,ih,Nat.succ_mul,Nat.add_comm]
theorem zql:OpR X (binaryOp .Mult) zy6:=by
 intro aa s σ H x y v u Q I rx ry h;obtain⟨l,k,xs,rfl,rfl,hH,h1,h2,hz,q⟩:=h;cases rx;obtain⟨t,rfl⟩:=ry;obtain⟨z,its,n,r,hl,e⟩:=I.lstM hH;have ap:its.toArray.size*k.toNat≤sizeLine:=by rw[y07,←hl];exact hz
 have hcap:¬its.toArray.size*k.toNat>(2^63 - 1) / 8:=by
  have:(sizeLine:Nat)≤(2^63 - 1) / 8:=by decide
  omega
 have hfit:¬(!Builtin.List.listFitsIndex k)=true:=by
  rw[fitsIndex_both h1 h2];exact y0t
 have hlong:¬Builtin.List.listTooLong (its.toArray.size*k.toNat)=true:=by
  rw[z9g ap];exact y0t
 have aU:y5b (λx1 x2=>x1++x2) #[] (y0b (if its.toArray.isEmpty=true then 0 else k.toNat) its.toArray)=(y0b k.toNat its).flatten.toArray:=by
  have f0:∀m:Nat,y5b (λx1 x2=>x1++x2) #[] (y0b m its.toArray)=(y0b m its).flatten.toArray:=λm=>by
   have:=z6p its m [];rw[y3b] at this;exact this
  rw[f0];cases its with
  | nil=>simp
  | cons a r'=>rw[if_neg (by simp)]
 refine wpAny_binaryOp_repeat_ref (T:="list") (U:="int") (by decide) ⟨_,e,rfl⟩ (λs'=>typeIs_int s' k t) noFill_list_mul F.fills_int_mul F.slot_int_rmul repeat_list F.slot_int_index.lookup
  (call_meets F.slot_int_rmul (typeIs_int s k t) F.entry_int_rmul (F.args_int_rmul_2 _ _) (int___rmul___int_list k t l its.toArray n)
   ⟨e,rfl,⟨_,e,rfl⟩,call_meets F.slot_list_mul ⟨_,e,rfl⟩ F.entry_list_mul (F.args_list_mul_2 _ _) (AutoListH.list___mul___list_int_3 l its.toArray n k t hfit hcap hlong) ⟨e,?_⟩⟩)
 rw[aU];exact⟨.ref _,_,I.lnew (t':=s.toks) (r.rep k.toNat) (by rw[zku,Nat.mul_comm];exact hz),rfl,q _ I.fresh⟩
end
section
variable {prog:Program}{w:World}{A:Around}{E:Value->Shared->Prop}{s:Shared}
end
section
variable {X:Cx}
end
end L2
namespace Att
open PySem PySem.W PySem.Calls PyProof.Rows
theorem z47 {P:Params}{h:Heap}:∀(ns:List Int) (vs:List Value),WellAll P h vs (ns.map WData.int)->IntsAre vs ns:=by
 intro ns
 induction ns with
 | nil =>
  intro vs w;rw[List.map_nil] at w;cases w;exact .nil
 | cons n ns ih =>
  intro vs w;rw[y10] at w;cases w with
  | cons a b =>
   cases a;exact .cons _ _ (ih _ b)
theorem zbv {l:OpenLaw}{n:Nat}(hn:l.most=some n){P:Params}{h:Heap}{args:List WData}{aB:List Value}
  (hpre:l.row.toRowW.claim.pre args=true) (hwl:WellAll P h aB args) :
  ∃a vs ns,aB = [Value.ref a]/\args = [WData.list (ns.map WData.int)]/\h.get? a=some { cls:=.type "list",data:=.seq vs.toArray }/\IntsAre vs ns/\ns.length≤n:=by
 have hsh:WShape.hasAll [] args [.list .int]=true:=(pre_splitW hpre).1;have hc:l.pre.holds [] { args:=args }=true:=(pre_splitW hpre).2
 obtain⟨d,r,rfl,h1,h2⟩:=hasAllW_cons hsh;obtain rfl:=hasAllW_nil h2;obtain⟨xs,rfl,h3⟩:=hasW_list h1;obtain⟨ns,rfl⟩:=items_int h3;have ap:ns.length≤n:=by
  unfold OpenLaw.pre at hc;have h4:(WTm.not (.lt (.lit (.int (n:Int))) (.len (.arg 0)))).holds [] { args:=[.list (ns.map .int)] }=true:=by
   have h4:=(holds_andW hc).1;rw[hn] at h4;exact h4
  have h5:=condW_of h4 (w_not (w_lt w_lit (w_len_list (w_arg rfl))));rw[y0e] at h5;refine Nat.le_of_not_lt λq=>?_;have q':(n:Int)<((ns.length:Nat):Int):=by omega
  first
   | (rw[decide_eq_true q'] at h5;exact absurd h5 (by decide))
   | (simp at h5;omega)
 cases hwl with
 | cons w1 w2 =>
  cases w2;cases w1 with
  | list ho hall=>exact⟨_,_,ns,rfl,rfl,ho,z47 ns _ hall,ap⟩
theorem zdp (l:OpenLaw)(args:List WData):l.row.toRowW.claim.post args (.bool true) args=true :=
 postW_of (r:=l.row.toRowW) (X:=(true==true))
  (show WShape.has [] (.bool true) .bool=true by first | rfl | decide | simp[WShape.has,WShape.arms,WShape.armsAll])
  (show(WTm.eq .res (.lit (.bool true))).value [] { args:=args,res:=some (.bool true),after:=args }=some (.bool (true==true)) from w_eq_bool (w_res rfl) w_lit) rfl
theorem attach_call {l:OpenLaw}{n:Nat}{q:Program}{aW:List Str}{XP:(Str->Option Value)->Heap->Prop}{YP:World->Heap->Prop}{d:DefRec}
  (hn:l.most=some n) (hdf:d.params.defaults = [])
  (call:∀(w:World) (s₀ s₁:Shared) (mg mb:Str->Option Value) (fa:Addr) (o:Obj) (pm cd doc:Value) (a:Addr) (vs:List Value) (ns:List Int),
   Ground q aW [] XP w s₀ mg mb s₁.heap->YP w s₁.heap ->
   s₁.heap.get? fa=some o->o.data = .func (docDef d.name d.params d.body d.scope pm cd doc)->s₁.heap.CodeRec cd d.name->mg d.name=some (.ref fa) ->
   s₁.heap.get? a=some { cls:=.type "list",data:=.seq vs.toArray }->IntsAre vs ns->ns.length≤n->s₁.gens = #[] ->
   codeAny (model l.prog w) callerA (.call (.ref fa) ⟨[.ref a],[]⟩) (λr s'=>r = .ok (.ret (.bool true))/\OldK s₁.heap s'.heap/\s'.os=s₁.os/\AllBare s'.gens) s₁) :
  WalkO q aW XP YP l.row.toRowW d [] (λf vs=>y5c f vs):=by
 intro w s₀ s₁ mg mb G Y fa o pm cd doc dV kV ho hd hcd hD hmg hg args aB as hpre hlay hrd hwl hlo;obtain rfl:dV = .none:=Dflts.none hD hdf;obtain rfl:kV = .none:=Dflts.noKw hD;obtain⟨a,vs,ns,rfl,rfl,hobj,hints,ap⟩:=zbv hn hpre hwl;refine enter_call (codeAny_mono (call w s₀ s₁ mg mb fa o pm cd doc a vs ns G Y ho (fd_plain hd) hcd hmg hobj hints ap hg) λr s' hq=>?_);obtain⟨rfl,h2,h3,h4⟩:=hq;exact⟨.inl ⟨.bool true,.bool true,[],rfl,λ_=>rfl,.bool true,zdp l _,λ_=>⟨List.Pairwise.nil,λ_ hm=>(nomatch hm)⟩⟩,h2,h3,h4⟩
section
variable {prog:Program}{w:World}{A:Around}{E:Value->Shared->Prop}{s:Shared}{K:Frag}
def zx7 (h:Heap)(L d:Addr):List (Addr×Obj):=(y0s h.objs.size).filterMap λa=>if a=L∨a=d then none else (h.get? a).map λo=>(a,o)
end
end Att
namespace L2
open PySem PySem.Spec PyProof.Rows
theorem z41:∀{vs:List Value} {ns:List Int},IntsAre vs ns->Vals (ns.map V.int) vs
 | _,_,.nil=>.nil
 | _,_,.cons n t h=>.cons ⟨t,rfl⟩ (z41 h)
def zve (H:Hp):Prop:=∀b,H b=none∨∃o xs,H b=some (.frz o (.lst xs))
theorem zfo {P:Program}{w:World}{K:y00}{mg mb:Str->Option Value}{CX:CXT}{k:Nat}{fa a:Addr}{fd:FuncData}{x:Str}{sp:Sp}{s₁:Shared}{vs:List Value}{ns:List Int}
  (KX:K.In s₁.heap) (hns:s₁.heap.Ns mainGlobals mg) (hb:s₁.heap.Ns builtinsNs mb) (hbb:∀x:Str,x ≠ "__name__"->mb x=bootBuiltins x) (hlim:s₁.heap.NoLimit) (hg:s₁.gens = #[])
  (ha:s₁.heap.get? a=some { cls:=.type "list",data:=.seq vs.toArray }) (hi:IntsAre vs ns) (hl:ns.length≤sizeLine) (hr:Room k callerA)
  (F:∀base:Heap,K.In base->base.Ns mainGlobals mg->FnOk P w K mg base CX k fa fd [x] sp) (hbind:∀(s:Shared) (u:Value),BindsTo s fd ⟨[u],[]⟩ [(x,u)])
  (hsp:∀H:Hp,zve H->SqL K H a (ns.map V.int)->sp [.ref a] H (λv _=>v = .bl true) λ_ _ _=>False)
  (hCX:∀H e s',CX [] H s₁ (λ_ _ _=>False) e s'->False) :
  codeAny (model P w) callerA (.call (.ref fa) ⟨[.ref a],[]⟩) (λr s'=>r = .ok (.ret (.bool true))/\OldK s₁.heap s'.heap/\s'.os=s₁.os/\AllBare s'.gens) s₁:=by
 have rv:=z41 hi;have lenV:=hi.length
 have core:∀H:Hp,zve H->SqL K H a (ns.map V.int)->HOk P w H s₁.heap->(∀b,H b≠none->b=a)->(H a≠none->K.lookup a=none) ->
   codeAny (model P w) callerA (.call (.ref fa) ⟨[.ref a],[]⟩) (λr s'=>r = .ok (.ret (.bool true))/\OldK s₁.heap s'.heap/\s'.os=s₁.os/\AllBare s'.gens) s₁:=by
  intro H hO hS hok hA hK;have base_of:∀{b:Addr} {o:Obj},s₁.heap.get? b=some o->H b=none->(z9m s₁.heap H).get? b=some o:=λe n=>z3i e n;have noA:∀{b:Addr} {o:Obj} {es:Array DictEntry} {ep:Nat},s₁.heap.get? b=some o->o.data = .dict es ep->H b=none:=λ{b o es ep} e d=>by
   cases q:H b with
   | none=>rfl
   | some u =>
    have e':b=a:=hA b (by rw[q];simp)
    subst e';rw[ha] at e;cases e;have d':Data.seq vs.toArray _=Data.dict es ep:=d;cases d'
  have nsK:∀{b:Addr} {m:Str->Option Value},s₁.heap.Ns b m->(z9m s₁.heap H).Ns b m:=λ{b m} ⟨o,es,ep,e,d,r⟩=>⟨o,es,ep,base_of e (noA e d),d,r⟩;have hKb:K.In (z9m s₁.heap H):=λb o e=>base_of (KX b o e) (by
   cases q:H b with
   | none=>rfl
   | some u =>
    have e':b=a:=hA b (by rw[q];simp)
    subst e';rw[hK (by rw[q];simp)] at e;cases e)
  have hM:Mod K mg (z9m s₁.heap H):=⟨hKb,nsK hns,⟨mb,nsK hb,hbb⟩,let ⟨mc,h1,h2⟩:=hlim;⟨mc,nsK h1,h2⟩⟩
  have e0:Env0 P w K mg (z9m s₁.heap H) callerA [] s₁ H:=⟨rfl,hM,λb o e=>zb8 e,y3j (z7b _ _),trivial,λb hb=>absurd (show b∈([]:List Addr) from hb) (by simp),hok,.of_eq hg⟩
  refine codeAny_mono ((F _ hKb (nsK hns)).run callerA [] s₁ H ⟨[.ref a],[]⟩ [.ref a] [.ref a] _ _ hr e0 (hbind s₁ (.ref a)) (.cons rfl .nil) (hsp H hO hS)) λr s' h=>?_;cases r with
  | error e=>exact(hCX H e s' h).elim
  | ok fl =>
   cases fl with
   | next=>exact False.elim h
   | brk=>exact False.elim h
   | cont=>exact False.elim h
   | ret u =>
    obtain⟨v,H',os,bare,un,hok',r',q⟩:=h;have q':v = .bl true:=q;subst q';obtain rfl:u=Value.bool true:=r';refine⟨rfl,OldK.of_keep λb o e=>?_,os,bare⟩;cases q:H b with
    | none=>exact un.keep b o e q (by intro z;exact absurd (show b∈([]:List Addr) from z) (by simp)) (by simp)
    | some u =>
     rcases hO b with z | ⟨ob,xs,z⟩
     ·rw[q] at z;cases z
     ·have z2:=un.frzs b ob _ z;obtain⟨e1,_⟩:=hok b _ z;obtain⟨e2,_⟩:=hok' b _ z2;rw[e] at e1;cases e1;exact e2
 cases hk:K.lookup a with
 | some o =>
  have e:=KX a o hk;rw[ha] at e;cases e;refine core (λ_=>none) (λ_=>.inl rfl) (.inr ⟨_,vs.toArray,_,hk,rfl,rfl,rfl,by rw[y07,lenV];exact hl,by simpa using rv⟩) (λb u z=>by have z':(none:Option HO)=some u:=z;cases z') (λb z=>absurd rfl z) λz=>absurd rfl z
 | none =>
  refine core (λb=>if b=a then some (.frz { cls:=.type "list",data:=.seq vs.toArray } (.lst (ns.map V.int))) else none) (λb=>?_) (.inl (.inr ⟨{ cls:=.type "list",data:=.seq vs.toArray },if_pos rfl⟩)) (λb u z=>?_) (λb z=>?_) λ_=>hk
  ·by_cases hb:b=a
   ·exact .inr ⟨_,_,if_pos hb⟩
   ·exact .inl (if_neg hb)
  ·by_cases hb:b=a
   ·have z':=(if_pos hb).symm.trans z;cases z';subst hb;exact⟨ha,by rw[y0e];exact hl,vs,_,rv,ha⟩
   ·have z':=(if_neg hb).symm.trans z;cases z'
  ·by_cases hb:b=a
   ·exact hb
   ·exact absurd (if_neg hb) z
end L2
namespace L2
open PySem PySem.Spec PyProof.Rows
theorem walk_of {l:y4i}{n k:Nat}{q:Program}{aW:List Str}{XP:(Str->Option Value)->Heap->Prop}{YP:World->Heap->Prop}{d:DefRec}{K:Params->y00}{CX:World->CXT}{sp:World->Sp}{x:Str}
  (hn:l.most=some n) (hn2:n≤sizeLine) (hdf:d.params.defaults = []) (hr:Room k callerA)
  (hY:∀(w:World) (h:Heap),YP w h->(K w.params).In h)
  (F:∀(w:World) (mg:Str->Option Value) (fa:Addr) (h:Heap),(K w.params).In h->h.Ns mainGlobals mg->mg d.name=some (.ref fa) ->
   ∃fd:FuncData,(∀(s:Shared) (u:Value),BindsTo s fd ⟨[u],[]⟩ [(x,u)]) /\
    ∀base:Heap,(K w.params).In base->base.Ns mainGlobals mg->FnOk l.prog w (K w.params) mg base (CX w) k fa fd [x] (sp w))
  (hsp:∀(w:World) (H:Hp) (a:Addr) (ns:List Int),ns.length≤n->zve H->SqL (K w.params) H a (ns.map V.int)->sp w [.ref a] H (λv _=>v = .bl true) λ_ _ _=>False)
  (hCX:∀(w:World) (H:Hp) (s:Shared) (e:Value) (s':Shared),CX w [] H s (λ_ _ _=>False) e s'->False) :
  y54 q aW XP YP l.row.toRowW d [] (λf vs=>y5c f vs):=by
 refine Att.attach_call hn hdf λw s₀ s₁ mg mb fa o pm cd doc a vs ns G Y ho hd hcd hmg hobj hints ap hg=>?_;have KX:=hY w _ Y;obtain⟨fd,hb,hF⟩:=F w mg fa _ KX G.T.g hmg;exact zfo KX G.T.g G.T.b G.T.builtins G.T.nolimit hg hobj hints (y0j ap hn2) hr hF hb (λH hO hS=>hsp w H a ns ap hO hS) λH e s'=>hCX w H s₁ e s'
end L2
namespace L2
open PySem PySem.Spec PyProof.Rows
def z02 (s:Stmt)(j:Nat):Stmt:=match s with
 | .ClassDef _ _ _ body _ _ _ _ _ _ _=>body.getD j (.Pass ⟨0,0,0,0⟩)
 | _=>.Pass ⟨0,0,0,0⟩
def z0y (s:Stmt):Arguments:=match s with
 | .FunctionDef _ a _ _ _ _ _ _ _ _=>a
 | _=>{ posonlyargs:=[],args:=[],vararg:=none,kwonlyargs:=[],kw_defaults:=[],kwarg:=none,defaults:=[] }
def z0o (s:Stmt):List Stmt:=match s with
 | .FunctionDef _ _ b _ _ _ _ _ _ _=>b
 | _=>[]
def z0a (s:Stmt):Scope:=match s with
 | .FunctionDef _ _ _ _ _ _ sc _ _ _=>sc
 | _=>{ kind:=.function,names:=[],isGenerator:=false,isCoroutine:=false }
abbrev CX0:CXT:=λ_ _ _ _ _ _=>False
abbrev E0:XK:=λ_ _ _=>False
structure Fun (K:y00)(x qual:Str)(st:Stmt)(f:Addr)(fd:FuncData):Prop where
 ex:∃(oc:Value) (od:Option Addr) (kV doc pm:Value) (an:Option Addr) (cdv ct:Value) (osl:Array (Option Value)),
  fd=y19 x qual (z0y st) (z0o st) (z0a st) .none kV doc pm an cdv ct/\K.lookup f=some ⟨oc,od,.func fd,osl⟩/\y1n K cdv qual=true
 kp:y0w K (.ref f)=true
section
variable {P:Program}{w:World}{K:y00}{mg:Str->Option Value}{base:Heap}
theorem Fun.binds {x qual:Str}{st:Stmt}{f:Addr}{fd:FuncData}{ps:List Str}(F:Fun K x qual st f fd)
  (h:∀(kV doc pm:Value) (an:Option Addr) (cdv ct:Value) (us:List Value),us.length=ps.length->bindArgs (y19 x qual (z0y st) (z0o st) (z0a st) .none kV doc pm an cdv ct) ⟨us,[]⟩=pure (ps.zip us)):Binds K fd ps []:=by
 obtain⟨oc,od,kV,doc,pm,an,cdv,ct,osl,rfl,lk,hcd⟩:=F.ex;exact .all (h kV doc pm an cdv ct)
theorem z3b {x qual:Str}{st:Stmt}{f:Addr}{oc:Value}{od an:Option Addr}{osl:Array (Option Value)}{kV doc pm cdv ct:Value}(l:K.lookup f=some ⟨oc,od,.func (y19 x qual (z0y st) (z0o st) (z0a st) .none kV doc pm an cdv ct),osl⟩)
  (c:y1n K cdv qual=true) (k:y0w K (.ref f)=true):Fun K x qual st f (y19 x qual (z0y st) (z0o st) (z0a st) .none kV doc pm an cdv ct):=⟨⟨oc,od,kV,doc,pm,an,cdv,ct,osl,rfl,l,c⟩,k⟩
end
theorem zdl {n:Nat}(h:n≤1000):n<sizeLine:=y23 h (by decide)
section
variable {X:Cx}
end
def Same (H H':Hp):Prop:=∀b o,H b=some o->H' b=some o
theorem Same.refl (H:Hp):Same H H:=λ_ _ h=>h
theorem Same.trans {H H1 H2:Hp}(a:Same H H1)(b:Same H1 H2):Same H H2:=λc o h=>b c o (a c o h)
end L2
namespace L2.EX
open PySem PySem.Spec PyProof.Rows
section
variable {X:Cx}
theorem z3c {e:Expr}{t u:TE}(h:PE X e t)(k:∀ σ H Q,u σ H Q->t σ H Q):PE X e u:=λaa s σ H Q I q=>h aa s σ H Q I (k σ H Q q)
theorem zqy {e:Expr}{t u:TT}(h:PT X e t)(k:∀ σ H Q,u σ H Q->t σ H Q):PT X e u:=λaa s σ H Q I q=>h aa s σ H Q I (k σ H Q q)
theorem zb4 {e:Stmt}{t u:TS}(h:PS X e t)(k:∀D σ H,u D σ H->t D σ H):PS X e u:=λaa s σ H D I q=>h aa s σ H D I (k D σ H q)
theorem znv {tg e:Expr}{t u:TI}(h:PI X tg e t)(k:∀ σ H R,u σ H R->t σ H R):PI X tg e u:=λaa s σ H R I q=>h aa s σ H R I (k σ H R q)
theorem zil {e:Expr}{t u:TG}(h:PG X e t)(k:∀v σ H Q,u v σ H Q->t v σ H Q):PG X e u:=λaa s σ H v w Q I r q=>h aa s σ H v w Q I r (k v σ H Q q)
theorem z3k {f:Value}{r u:List V->Hp->VK->Prop}(h:CallR X f r)(k:∀xs H Q,u xs H Q->r xs H Q):CallR X f u:=λaa s σ H xs us Q I r q=>h aa s σ H xs us Q I r (k xs H Q q)
def sg:St->Nat->Option V
 | [],_=>none
 | v::_,0=>v
 | _::r,n+1=>sg r n
theorem zkx:∀{σ:St} {i:Nat} {v:V},sg σ i=some v->σ[i]?=some (some v)
 | [],_,_,h=>nomatch h
 | w::_,0,v,h=>by
  have e:w=some v:=h;rw[e];rfl
 | _::r,n+1,v,h=>by
  have e:=zkx (σ:=r) (i:=n) (v:=v) h;simpa using e
def xV (i:Nat)(σ:St)(H:Hp)(Q:VK):Prop:=match sg σ i with
 | some v=>Q v H
 | none=>False
theorem cv (i:Nat){x:Str}{pos:Pos}(hN:X.N[i]?=some x:=by rfl)(hv:Vis X.env.scope x:=by first | exact y4u rfl | exact y45 (y4u rfl) | exact y45 (y45 rfl))(hd:(x==("__debug__":Str))=false:=by decide)
  (hcd:(x==("__classdict__":Str))=false:=by decide):PE X (.Name x pos) (xV i) :=
 z3c (znz hN hv hd hcd) fun σ H Q q=>by
  unfold xV at q
  split at q
  ·rename_i v e;exact⟨v,zkx e,q⟩
  ·exact q.elim
def Bd (n:Nat)(i:Int):Prop:=i.natAbs<2^n
def zs0 (x y:V)(H:Hp)(Q:VK):Prop:=match x,y with
 | .int i,.int j=>Q (.int (i+j)) H
 | .str i,.str j=>i.length+j.length≤sizeLine/\Q (.str (i++j)) H
 | .ref l,.ref b=>∃xs zs,H l=some (.lst xs)/\H b=some (.lst zs)/\xs.length+zs.length≤sizeLine/\∀p,H p=none->Q (.ref p) (upd H p (.lst (xs++zs)))
 | _,_=>False
def zv3 (x y:V)(H:Hp)(Q:VK):Prop:=match x,y with
 | .int i,.int j=>Q (.int (i - j)) H
 | _,_=>False
def ztr (x y:V)(H:Hp)(Q:VK):Prop:=match x,y with
 | .int i,.int j=>IntMulOk i j/\Q (.int (i*j)) H
 | .ref l,.int k=>∃xs,H l=some (.lst xs)/\-(2^63)≤k/\k<2^63/\xs.length*k.toNat≤sizeLine/\∀p,H p=none->Q (.ref p) (upd H p (.lst (y0b k.toNat xs).flatten))
 | _,_=>False
def zsc (x y:V)(H:Hp)(Q:VK):Prop:=match x,y with
 | .int i,.int j=>0<j/\Q (.int (i % j)) H
 | _,_=>False
def zuc (x y:V)(H:Hp)(Q:VK):Prop:=match x,y with
 | .int i,.int j=>j≠0/\j.natAbs.log2<9000/\Q (.int (i.fdiv j)) H
 | _,_=>False
def zu7 (x y:V)(H:Hp)(Q:VK):Prop:=match x,y with
 | .int i,.int j=>0≤j/\(Builtin.Int.intBits i:Int)*j≤2^27/\Q (.int (i^j.toNat)) H
 | _,_=>False
theorem znk:OpR X (binaryOp .Add) zs0:=by
 intro aa s σ H x y v u Q I rx ry h;unfold zs0 at h
 split at h
 ·exact zqf aa s σ H _ _ v u Q I rx ry ⟨_,_,rfl,rfl,h⟩
 ·exact za6 aa s σ H _ _ v u Q I rx ry ⟨_,_,rfl,rfl,h.1,h.2⟩
 ·obtain⟨xs,zs,h1,h2,h3,h4⟩:=h;exact zo0 aa s σ H _ _ v u Q I rx ry ⟨_,_,xs,zs,rfl,rfl,h1,h2,h3,h4⟩
 ·exact h.elim
theorem zmb:OpR X (binaryOp .Sub) zv3:=by
 intro aa s σ H x y v u Q I rx ry h;unfold zv3 at h
 split at h
 ·exact zom aa s σ H _ _ v u Q I rx ry ⟨_,_,rfl,rfl,h⟩
 ·exact h.elim
theorem zkw:OpR X (binaryOp .Mult) (rI IntMulOk λi j=>.int (i*j)):=opI λ_ _ _ _ _ _ _ hc q=>mul_int q hc
theorem zqo:OpR X (binaryOp .Mult) ztr:=by
 intro aa s σ H x y v u Q I rx ry h;unfold ztr at h
 split at h
 ·exact zkw aa s σ H _ _ v u Q I rx ry ⟨_,_,rfl,rfl,h.1,h.2⟩
 ·obtain⟨xs,h1,h2,h3,h4,h5⟩:=h;exact zql aa s σ H _ _ v u Q I rx ry ⟨_,_,xs,rfl,rfl,h1,h2,h3,h4,h5⟩
 ·exact h.elim
theorem zrj:OpR X (binaryOp .Mod) zsc:=by
 intro aa s σ H x y v u Q I rx ry h;unfold zsc at h
 split at h
 ·exact zpi aa s σ H _ _ v u Q I rx ry ⟨_,_,rfl,rfl,h.1,h.2⟩
 ·exact h.elim
theorem zjr:OpR X (binaryOp .FloorDiv) (rI (λ_ j=>j≠0/\j.natAbs.log2<9000) λi j=>.int (i.fdiv j)):=opI λ_ _ _ _ _ _ _ hc q=>floordiv_int hc.1 q (.inl (PyProof.noPylong_of_log2 hc.2))
theorem zoz:OpR X (binaryOp .FloorDiv) zuc:=by
 intro aa s σ H x y v u Q I rx ry h;unfold zuc at h
 split at h
 ·exact zjr aa s σ H _ _ v u Q I rx ry ⟨_,_,rfl,rfl,⟨h.1,h.2.1⟩,h.2.2⟩
 ·exact h.elim
theorem zis:OpR X (binaryOp .Pow) (rI (λi j=>0≤j/\(Builtin.Int.intBits i:Int)*j≤2^27) λi j=>.int (i^j.toNat)):=opI λ_ _ _ _ _ _ _ hc q=>pow_int hc.1 hc.2 q
theorem zqv:OpR X (binaryOp .Pow) zu7:=by
 intro aa s σ H x y v u Q I rx ry h;unfold zu7 at h
 split at h
 ·exact zis aa s σ H _ _ v u Q I rx ry ⟨_,_,rfl,rfl,⟨h.1,h.2.1⟩,h.2.2⟩
 ·exact h.elim
def zs5 (x:V)(H:Hp)(Q:VK):Prop:=match x with
 | .int i=>Q (.int (-i)) H
 | _=>False
theorem zn0:UnR X (unaryOp .USub) zs5:=by
 intro aa s σ H x v Q I rx h;unfold zs5 at h
 split at h
 ·exact zls aa s σ H _ v Q I rx ⟨_,rfl,h⟩
 ·exact h.elim
def uLt (x y:V)(H:Hp)(Q:VK):Prop:=match x,y with
 | .int i,.int j=>Q (.bl (decide (i<j))) H
 | _,_=>False
def uLe (x y:V)(H:Hp)(Q:VK):Prop:=match x,y with
 | .int i,.int j=>Q (.bl (decide (i≤j))) H
 | _,_=>False
def uGt (x y:V)(H:Hp)(Q:VK):Prop:=match x,y with
 | .int i,.int j=>Q (.bl (decide (j<i))) H
 | _,_=>False
def uGe (x y:V)(H:Hp)(Q:VK):Prop:=match x,y with
 | .int i,.int j=>Q (.bl (decide (j≤i))) H
 | _,_=>False
theorem zv5:OpR X (compareOp .Lt) uLt:=by
 intro aa s σ H x y v u Q I rx ry h;unfold uLt at h
 split at h
 ·exact zuo aa s σ H _ _ v u Q I rx ry ⟨_,_,rfl,rfl,h⟩
 ·exact h.elim
theorem uo_le:OpR X (compareOp .LtE) uLe:=by
 intro aa s σ H x y v u Q I rx ry h;unfold uLe at h
 split at h
 ·exact zt4 aa s σ H _ _ v u Q I rx ry ⟨_,_,rfl,rfl,h⟩
 ·exact h.elim
theorem zt5:OpR X (compareOp .Gt) uGt:=by
 intro aa s σ H x y v u Q I rx ry h;unfold uGt at h
 split at h
 ·exact zuu aa s σ H _ _ v u Q I rx ry ⟨_,_,rfl,rfl,h⟩
 ·exact h.elim
theorem zud:OpR X (compareOp .GtE) uGe:=by
 intro aa s σ H x y v u Q I rx ry h;unfold uGe at h
 split at h
 ·exact zsr aa s σ H _ _ v u Q I rx ry ⟨_,_,rfl,rfl,h⟩
 ·exact h.elim
def uIs (x y:V)(H:Hp)(Q:VK):Prop:=match y with
 | .non=>Q (.bl (decide (x = .non))) H
 | _=>False
theorem zts:OpR X (compareOp .Is) uIs:=by
 intro aa s σ H x y v u Q I rx ry h;unfold uIs at h
 split at h
 ·exact zog aa s σ H _ _ v u Q I rx ry ⟨rfl,h⟩
 ·exact h.elim
def onB (Q:Bool->Hp->Prop)(x:V)(H:Hp):Prop:=match x with
 | .bl k=>Q k H
 | _=>False
theorem z6c {Q:Bool->Hp->Prop}{x:V}{H:Hp}(h:onB Q x H):∃k,x = .bl k/\Q k H:=by
 unfold onB at h
 split at h
 ·exact⟨_,rfl,h⟩
 ·exact h.elim
def xT (t:TE)(σ:St)(H:Hp)(Q:Bool->Hp->Prop):Prop:=t σ H (onB Q)
theorem zof {e:Expr}{t:TE}(h:PE X e t)(he:∀aZ,isTrue e X.env aZ=(do let v ←aZ;standAt e.pos;holding [v] (truthy v)):=by intro _;rfl):PT X e (xT t):=by
 intro aa s σ H Q I hw;refine isTrue_plain (thn (h aa s σ H _ I hw) λv s1 hq=>?_) (he _);obtain⟨x,H1,I1,r1,q1⟩:=hq;obtain⟨d,rfl,q⟩:=z6c q1;cases r1;exact wpAny_truthy_bool ⟨H1,I1,q⟩
variable {a b:Expr}{ta tb:TE}{pos:Pos}{rest:List Expr}
theorem zr1 {op:CmpOp}{r:R2}(ho:OpR X (compareOp op) r)(ha:PE X a ta)(hb:PE X b tb)(hm:behindInMarks op b=false):PT X (.Compare a [op] [b] pos) (xT (tOp r ta tb)):=by
 intro aa s σ H Q I h;refine wpAny_isTrue_Compare1 (thn (ha aa s σ H _ I h) λv s1 h1=>?_) hm;obtain⟨x,H1,I1,r1,q1⟩:=h1;refine thn (hb aa s1 σ H1 _ I1 q1) λu s2 h2=>?_;obtain⟨y,H2,I2,r2,q2⟩:=h2;refine thn (ho aa s2 σ H2 x y v u _ I2 r1 r2 q2) λc s3 h3=>?_;obtain⟨z,H3,I3,r3,q3⟩:=h3;obtain⟨k,rfl,q⟩:=z6c q3;cases r3;exact wpAny_truthy_bool ⟨H3,I3,q⟩
def zvt (ta tb:TE)(σ:St)(H:Hp)(Q:VK):Prop:=ta σ H (onB λc H1=>if c=true then tb σ H1 Q else Q (.bl false) H1)
def xOr (ta tb:TE)(σ:St)(H:Hp)(Q:VK):Prop:=ta σ H (onB λc H1=>if c=true then Q (.bl true) H1 else tb σ H1 Q)
def zx6 (ta:TE)(σ:St)(H:Hp)(Q:VK):Prop:=ta σ H (onB λc H1=>Q (.bl (!c)) H1)
theorem zpc (ha:PE X a ta)(hb:PE X (.BoolOp .And (b::rest) pos) tb):PE X (.BoolOp .And (a::b::rest) pos) (zvt ta tb):=by
 intro aa s σ H Q I h;refine BoolOp_and (thn (ha aa s σ H _ I h) λv s1 h1=>?_);obtain⟨x,H1,I1,r1,q1⟩:=h1;obtain⟨c,rfl,q⟩:=z6c q1;cases r1;refine wpAny_truthy_bool ?_;cases c with
 | true=>exact hb aa s1 σ H1 Q I1 q
 | false=>exact⟨.bl false,H1,I1,rfl,q⟩
theorem zs4 (ha:PE X a ta)(hb:PE X (.BoolOp .Or (b::rest) pos) tb):PE X (.BoolOp .Or (a::b::rest) pos) (xOr ta tb):=by
 intro aa s σ H Q I h;refine BoolOp_or (thn (ha aa s σ H _ I h) λv s1 h1=>?_);obtain⟨x,H1,I1,r1,q1⟩:=h1;obtain⟨c,rfl,q⟩:=z6c q1;cases r1;refine wpAny_truthy_bool ?_;cases c with
 | false=>exact hb aa s1 σ H1 Q I1 q
 | true=>exact⟨.bl true,H1,I1,rfl,q⟩
theorem znt (ha:PE X a ta):PE X (.UnaryOp .Not a pos) (zx6 ta):=by
 intro aa s σ H Q I h;refine UnaryOp_ (thn (ha aa s σ H _ I h) λv s1 h1=>?_);obtain⟨x,H1,I1,r1,q1⟩:=h1;obtain⟨c,rfl,q⟩:=z6c q1;cases r1;exact not_of (wpAny_truthy_bool ⟨.bl (!c),H1,I1,rfl,q⟩)
def zui (xs:List V)(H:Hp)(Q:VK):Prop:=match xs with
 | [.int i]=>Q (.int (if i<0 then -i else i)) H
 | _=>False
theorem zos:CallR X (.builtin "abs") zui:=z3k zee λxs H Q h=>by
 unfold zui at h
 split at h
 ·exact⟨_,rfl,h⟩
 ·exact h.elim
def zjj (xs:List V)(H:Hp)(Q:VK):Prop:=match xs with
 | [.int i,.int j]=>Q (.int (if j<i then j else i)) H
 | _=>False
theorem zjc (hc:X.calm=true:=by rfl):CallR X (.builtin "min") zjj:=z3k (zdu hc) λxs H Q h=>by
 unfold zjj at h
 split at h
 ·exact⟨_,_,rfl,h⟩
 ·exact h.elim
def zkj (xs:List V)(H:Hp)(Q:VK):Prop:=match xs with
 | [.int i,.int j]=>Q (.int (if j>i then j else i)) H
 | _=>False
theorem zlf (hc:X.calm=true:=by rfl):CallR X (.builtin "max") zkj:=z3k (zb2 hc) λxs H Q h=>by
 unfold zkj at h
 split at h
 ·exact⟨_,_,rfl,h⟩
 ·exact h.elim
@[reducible] def zyo (K:y00)(xs:List V)(H:Hp)(Q:VK):Prop:=match xs with
 | [.ref p]=>∃ys,(SqL K H p ys∨SqT K H p ys)/\Q (.int ys.length) H
 | _=>False
@[reducible] def zk2 (K:y00)(xs:List V)(H:Hp)(Q:VK):Prop:=match xs with
 | [.ref p]=>∃ys,(SqL K H p ys∨SqT K H p ys)/\∀l,H l=none->Q (.ref l) (upd H l (.lst ys))
 | _=>False
theorem uc_list:CallR X (.type "list") (zk2 X.K):=z3k z7a λxs H Q h=>by
 unfold zk2 at h
 split at h
 ·obtain⟨ys,h1,h2⟩:=h;exact⟨_,ys,rfl,h1,h2⟩
 ·exact h.elim
def isB (t c:String):Bool:=t==c||(t == "bool"&&c == "int")
def okC (c:String):Bool:=["int","bool","str","list","tuple","dict"].contains c
theorem zks (K:y00){t c:String}(ht:t ∈ ["NoneType","bool","int","str","list","tuple","dict"])(hc:c ∈ ["int","bool","str","list","tuple","dict"]):y1b K (.type t) (.type c)=some (isB t c):=by
 simp only[y0a,y2c,or_false] at ht hc;rcases ht with rfl | rfl | rfl | rfl | rfl | rfl | rfl<;>rcases hc with rfl | rfl | rfl | rfl | rfl | rfl<;>with_unfolding_all rfl
@[reducible] def uIx (K:y00)(x y:V)(H:Hp)(Q:VK):Prop:=match x,y with
 | .ref p,.int i=>∃xs v,(SqL K H p xs∨SqT K H p xs)/\atI xs i=some v/\Q v H
 | _,_=>False
@[reducible] def uSl (K:y00)(x:V)(lo hi:Option Int)(H:Hp)(Q:VK):Prop:=match x with
 | .ref a=>∃xs,SqL K H a xs/\∀p,H p=none->Q (.ref p) (upd H p (.lst (zgl xs lo hi)))
 | _=>False
end
structure Def (P:Program)(w:World)(K:y00)(mg:Str->Option Value)(base:Heap)(x:Str)(k:Nat)(ps:List Str)(sp:Sp):Prop where
 is:∃(f:Addr) (fd:FuncData),FnOk P w K mg base CX0 k f fd ps sp/\Binds K fd ps []/\mg x=some (.ref f)/\y0w K (.ref f)=true
structure Top (K:y00)(mg:Str->Option Value)(x:Str)(st:Stmt)(ps:List Str):Prop where
 is:∃(f:Addr) (fd:FuncData),Fun K x x st f fd/\Binds K fd ps []/\mg x=some (.ref f)
section
variable {X:Cx}{x:Str}{k:Nat}{ps:List Str}{sp:Sp}{e:Expr}{es:List Expr}{t:TA}{p pos:Pos}
variable {P:Program}{w:World}{K:y00}{mg:Str->Option Value}{base:Heap}{N:List Str}{st:Stmt}
end
end L2.EX
namespace L2.EX
open PySem PySem.Spec PyProof.Rows
open Builtin Builtin.ObjectAttr
def ExcAt (a C:Addr)(h:Heap):Prop:=∃o vs,h.get? a=some o/\o.cls = .ref C/\o.data = .fields vs
structure ExcK (K:y00)(C:Addr):Prop where
 ga:y0i K (.ref C) "__getattribute__"=some (some (.builtin "BaseException.__getattribute__"))
 hook:y0i K (.ref C) "__getattr__"=some none
 cls:y0i K (.ref C) "__class__"=some (some (.builtin "object.__class__"))
 get:y31 K (.builtin "object.__class__") "__get__"=some (some (.builtin "getset_descriptor.__get__"))
 take:y4h K (.builtin "object.__class__")=some true
 obj:y1v K C (.type "object")=some true
 bas:y1v K C (.type "BaseException")=some true
 is:(y2j K C).isSome=true
section
variable {K:y00}{a C:Addr}{h:Heap}{M:Model}
theorem ExcAt.type (x:ExcAt a C h):y28 M h (typeOf (.ref a)) (.ref C):=by
 obtain⟨o,vs,e,c,_⟩:=x;exact c▸(PySem.W.Looks.ld e).andThen .now
theorem ExcK.look (Z:ExcK K C)(X:K.In h):y28 M h (find (.ref a) (.ref C) "__class__") (.bind (.builtin "getset_descriptor.__get__") (.builtin "object.__class__")):=by
 have l1:=y2n (M:=M) X Z.cls;have l2:y28 M h (getOf (some (.builtin "object.__class__"))) (some (.builtin "getset_descriptor.__get__")):=PySem.W.looks_specialIn X Z.get
 have l3:y28 M h (dataDescriptor? (some (.builtin "object.__class__")) (some (.builtin "getset_descriptor.__get__"))) (some (.builtin "getset_descriptor.__get__",.builtin "object.__class__")) :=
  (PySem.W.looks_takesIn X Z.take).andThen .now
 exact l1.andThen (l2.andThen (l3.andThen (PySem.W.Looks.tag .now)))
theorem ExcK.isT (Z:ExcK K C)(X:K.In h):y28 M h (isType (.ref C)) true:=by
 have z:=Z.is;unfold y2j at z
 split at z
 ·rename_i c1 d1 cd1 sl1 ho;intro A1 Q1 E1 s1 k q;unfold isType loadHead;exact wpAny_bind (wpAny_loadPart (k _ _ (X _ _ ho)) (wpAny_pure q))
 ·cases z
end
section
variable {prog:Program}{w:World}{A:Around}{E:Value->Shared->Prop}{s:Shared}{K:y00}{a C:Addr}
theorem zj9 {tp:Value}{R:Result->Shared->Prop}(Z:ExcK K C)(X:K.In s.heap)(x:ExcAt a C s.heap)(q:R (.ok (.ret (.ref C))) s) :
  codeAny (model prog w) A (.call (.builtin "getset_descriptor.__get__") ⟨[.builtin "object.__class__",.ref a,tp],[]⟩) R s:=by
 obtain⟨hh,g,dr,t,os⟩:=s;have L0:=x.type (M:=model prog w);have L1:=y2t (M:=model prog w) X Z.obj
 refine codeAny_call_builtin y55.plain PySem.W.KF.entry_gs (y55.check _ _ _ _ _ _ _ _ PySem.W.KF.type_class (PySem.W.KF.args_gs _ _ _) ?_);unfold Builtin.«getset_descriptor.__get__» Builtin.Getset_descriptor.descrGet;rw[PySem.W.dga_obj];refine wpAny_bind (wpAny_pure ?_);unfold Builtin.Getset_descriptor.descrGetter Builtin.Getset_descriptor.descrCheckInstance Builtin.Getset_descriptor.descrNameAndClass isInstance;simp only[PySem.W.KF.owner_class]
 repeat lk
 refine⟨Code.quiet_builtin _ (by decide +kernel),codeAny_builtin PySem.W.KF.entry_class ?_⟩
 unfold Builtin.«object.__class__» shownTypeOf
 repeat lk
 exact q
theorem zfq {tk:Tok}{Q:Fin->Shared->Prop}(Z:ExcK K C)(X:K.In s.heap)(x:ExcAt a C s.heap)(q:Q (.done (.ret (.ref C))) s) :
  wpAny (model prog w) A (Builtin.«object.__getattribute__» ⟨[.ref a,.str "__class__" tk],[]⟩) Q E s:=by
 obtain⟨hh,g,dr,t,os⟩:=s;have L0:=x.type (M:=model prog w);have L1:=Z.look (M:=model prog w) (a:=a) X
 unfold Builtin.«object.__getattribute__»
 repeat (fail_if_success (with_reducible show wpAny _ _ (call _ _) _ _ _));lk
 exact wpAny_call (zj9 Z X x (wpAny_pure q))
theorem zlc:builtinKind "BaseException.__getattribute__"=some .slot:=by decide +kernel
theorem zgh:splitId "BaseException.__getattribute__"=some ("BaseException","__getattribute__"):=by decide +kernel
theorem zb7 {v:Value}{Q:Unit->Shared->Prop}(Z:ExcK K C)(X:K.In s.heap)(x:ExcAt a C s.heap)(q:Q () s):wpAny (model prog w) A (checkBuiltinCall "BaseException.__getattribute__" ⟨[.ref a,v],[]⟩) Q E s:=by
 have L:y28 (model prog w) s.heap (isInstance (.ref a) (.type "BaseException")) true:=x.type.andThen (y2t X Z.bas);have ha:=PySem.F.args_bexc_ga (.ref a) v
 exact PySem.W.check_slot (M:=model prog w) (A:=A) (E:=E) (s:=s) (i:="BaseException.__getattribute__") (owner:="BaseException") (n:="__getattribute__") (self:=.ref a) (rest:=[v]) (kw:=[]) (Q:=Q) zlc zgh L ha q
theorem zei {tk:Tok}{R:Result->Shared->Prop}(Z:ExcK K C)(X:K.In s.heap)(x:ExcAt a C s.heap)(q:R (.ok (.ret (.ref C))) s) :
  codeAny (model prog w) A (.call (.builtin "BaseException.__getattribute__") ⟨[.ref a,.str "__class__" tk],[]⟩) R s :=
 codeAny_call_builtin y40.ga.plain PySem.F.entry_bexc_ga (zb7 Z X x (zfq Z X x q))
theorem zb5 {Q:Option Value->Shared->Prop}(Z:ExcK K C)(X:K.In s.heap)(x:ExcAt a C s.heap)(q:Q (some (.ref C)) { s with toks:=s.toks+1 }):wpAny (model prog w) A (getAttr? (.ref a) "__class__") Q E s:=by
 obtain⟨hh,g,dr,t,os⟩:=s;have L0:=x.type (M:=model prog w);have L1:=y2n (M:=model prog w) X Z.ga
 have L2:=y2n (M:=model prog w) X Z.hook;unfold getAttr? getAttrBy? getAttrBy;refine wpAny_bind (wpAny_mkText (wpAny_bind (wpAny_attempt (wpAny_holding (wpAny_bind (L0.at (wpAny_bind (L1.at ?_))))))));have e1:(Value.builtin "BaseException.__getattribute__"==Value.builtin "object.__getattribute__")=false:=by decide +kernel
 have e2:(onTheHeap (Value.ref C)&&Value.builtin "BaseException.__getattribute__"==Value.builtin "object.__getattribute__")=false:=by rw[e1];rfl
 dsimp only;rw[e2];simp only[y3l,if_false];unfold getAttrByItsOwn hookBefore;refine wpAny_bind ?_;show wpAny _ _ (typeLookup (.ref C) "__getattr__") _ _ _;refine L2.at ?_;refine wpAny_bind (wpAny_attempt (wpAny_holding ?_));show wpAny _ _ (boundAndCalled _ _ _) _ _ _;unfold boundAndCalled;refine wpAny_bind (wpAny_of_eq (y40.ga.bind (.ref a)) ?_);refine wpAny_call (zei Z X x ?_);show wpAny _ _ (handedOut (.ref C)) _ _ _;exact wpAny_pure (wpAny_pure q)
theorem z8s (Z:ExcK K C):PySem.W.KitX K (.ref a) (.ref C) (ExcAt a C) where
 ty:=λ_ _ _ x=>x.type
 it:=λ_ _ X _=>Z.isT X
 ne:=λh tp dd its n sl X htp=>by
  refine y2k.mpr λq=>?_;have e:C=tp:=Value.ref.inj (beq_iff_eq.mp q);subst e;have z:=Z.is
  unfold y2j at z
  split at z
  ·rename_i c1 d1 cd1 sl1 ho;have y:=(X _ _ ho).symm.trans htp;cases y
  ·cases z
 ca:=λX x k=>zb5 Z X x k
end
def z9x (a C:Addr):HO:=.ext (ExcAt a C)
theorem zmr {P:Program}{w:World}{H:Hp}{h:Heap}{a C:Addr}(x:ExcAt a C h):ObjOk P w H h a (z9x a C):=by
 refine⟨x,?_,λh1 h2 y k=>?_⟩
 ·obtain⟨o,vs,e,_⟩:=x;exact⟨o,e⟩
 ·obtain⟨o,vs,e,r⟩:=y;exact⟨o,vs,k _ e,r⟩
section
variable {X:Cx}
theorem Inv.exc {aa:List (Addr×Obj)}{σ:St}{H:Hp}{s:Shared}{a C:Addr}(I:Inv X aa σ H s)(e:H a=some (z9x a C)):ExcAt a C s.heap:=(I.hok a _ e).1
@[reducible] def zwo (K:y00)(xs:List V)(H:Hp)(Q:VK):Prop:=match xs with
 | [.ref a,.ref D]=>∃C b,H a=some (z9x a C)/\ExcK K C/\y1b K (.ref C) (.ref D)=some b/\Q (.bl b) H
 | [.ref a,.ty T]=>∃C b,H a=some (z9x a C)/\ExcK K C/\y1b K (.ref C) (.type T)=some b/\Q (.bl b) H
 | _=>False
theorem zqa:CallR X (.builtin "isinstance") (zwo X.K):=by
 intro aa s σ H xs us Q I r h;unfold zwo at h
 split at h
 ·obtain⟨C,b,h1,h2,h3,h4⟩:=h;obtain⟨u,v,rfl,rx,rc⟩:=z62 r;cases rx;cases rc;exact y11 (z8s h2) I.kIn (Inv.exc I h1) h3 (by intro q;cases q) λtk=>⟨.bl b,H,I.tok tk,rfl,h4⟩
 ·obtain⟨C,b,h1,h2,h3,h4⟩:=h;obtain⟨u,v,rfl,rx,rc⟩:=z62 r;cases rx;cases rc;exact y11 (z8s h2) I.kIn (Inv.exc I h1) h3 (by intro q;cases q) λtk=>⟨.bl b,H,I.tok tk,rfl,h4⟩
 ·exact h.elim
end
end L2.EX
namespace L2.EX
open PySem PySem.Spec PyProof.Rows
def bmV:List Value:=[.type "ValueError",.type "Exception",.type "BaseException",.type "object"]
structure ExcD (K:y00)(mg:Str->Option Value)(x:Str)(C:Addr):Prop where
 mg:mg x=some (.ref C)
 is:y41 K C bmV "ValueError.__new__"=true
 k:ExcK K C
def CXr (P:Program)(w:World)(C:Addr):CXT:=λouter H s _ e s'=>∃a t B,e = .ref a/\s'.os=s.os/\AllBare s'.gens/\Heap.FlyingW B outer a (.ref C) t s'.heap/\s.heap.get? a=none/\H a=none /\
 ∀h3:Heap,B.StaysIn h3->s'.heap.UpToSlots h3->Un (frs outer) [] H H s.heap h3/\HOk P w H h3
theorem ObjOk.some {P:Program}{w:World}{H:Hp}{h:Heap}{a:Addr}{o:HO}(x:ObjOk P w H h a o):∃ob,h.get? a = .some ob:=by
 cases o with
 | lst xs=>obtain⟨_,_,_,_,e⟩:=x;exact⟨_,e⟩
 | tup xs=>obtain⟨_,_,_,_,e,_⟩:=x;exact⟨_,e⟩
 | dK kvs=>obtain⟨_,_,_,_,o,_,_,e,_⟩:=x;exact⟨_,e⟩
 | dT kvs=>obtain⟨_,_,_,_,o,_,_,e,_⟩:=x;exact⟨_,e⟩
 | set S n=>obtain⟨o,_,_,_,e,_⟩:=x;exact⟨_,e⟩
 | ins C dx fs=>obtain⟨_,_,_,e,_⟩:=x;exact⟨_,e⟩
 | own y=>obtain⟨_,e⟩:=x;exact⟨_,e⟩
 | xd fs=>obtain⟨_,⟨_,_,_,e,_⟩,_⟩:=x;exact⟨_,e⟩
 | rng lo hi=>obtain⟨_,_,_,e⟩:=x;exact⟨_,e⟩
 | frz ob u=>obtain⟨e,_⟩:=x;exact⟨_,e⟩
 | tbl ps=>exact⟨_,x⟩
 | met f y=>exact⟨_,x⟩
 | ext φ=>obtain⟨_,⟨_,e⟩,_⟩:=x;exact⟨_,e⟩
section
variable {X:Cx}{x:Str}{C:Addr}{e:Expr}{es:List Expr}{t:TA}{np ac pos:Pos}
theorem zri {K:y00}{mg:Str->Option Value}{h:Heap}(D:ExcD K mg x C)(W:K.In h):OwnCls x C bmV "ValueError.__new__" mg h:=by
 refine⟨D.mg,?_⟩;have q:=D.is;unfold y41 at q
 split at q
 ·rename_i di cl st lk
  split at q
  ·rename_i C2 tl g0 g1 g2 g3 nw g5 em es';simp only[y09,beq_iff_eq,y3v] at q;obtain⟨⟨⟨⟨⟨rfl,rfl⟩,q3⟩,q4⟩,q5⟩,q6⟩:=q;obtain⟨c1,c2,c3,c4,c5,c6,c7,c8,c9,c10,c11⟩:=cl;dsimp only at em q3 q5 q6;subst em q3;have est:st = #[g0,g1,g2,g3,some (.builtin "ValueError.__new__"),g5]:=by
    obtain⟨l⟩:=st;exact congrArg Array.mk es'
   subst est;exact⟨tl,c4,c1,c5,c2,c6,c7,c8,c9,c10,di,g0,g1,g2,g3,g5,_,W _ _ lk,.of_isNs (PySem.W.isNs_of_in W q5),PySem.W.nsMap_none_of_in W q5 q6,PySem.W.tail_of_in W q4⟩
  ·cases q
 ·cases q
def zr3 (R:Hp->Prop)(t:TA)(D:Ends)(σ:St)(H:Hp):Prop:=t σ H λvs H1=>vs.length≤sizeLine/\R H1
theorem zeo (O:ExcD X.K X.mg x C)(R:Hp->Prop)(ha:PA X (e::es) t)
  (hxe:∀(aa:List (Addr×Obj)) (σ:St) (H1:Hp) (s:Shared) (h':Heap) (a:Addr) (us:List Value),Inv X aa σ H1 s->R H1->Heap.MadeExcOf s.heap h' a (.ref C) us->X.xe (.ref a) { s with heap:=h' })
  (hc:X.calm=true:=by rfl) (hg:Gl X x:=by rfl) (hdb:(x==("__debug__":Str))=false:=by decide)
  (he:starEach (e::es) X.env=(false,eval e X.env)::starEach es X.env:=by rfl) (hpl:(backTo ac (starEach es X.env)).any (·.1)=false:=by rfl) :
  PS X (.Raise (some (.Call (.Name x np) (e::es) [] ac)) none pos) (zr3 R t):=by
 intro aa s σ H D I hw;obtain⟨bm,N,nm,q,bs,hdct,sn,sub,ab,col,dd,k0,k1,k2,k3,k5,mN,hC,hN,hni,T⟩:=(zri O I.mod.kin).obj;refine wpAny_Raise_call_subT (C:=C) (nm:=nm) (q:=q) (N:=N) (bs:=bs) (bm:=bm) (hdct:=hdct) (sn:=sn) (sub:=sub) (ab:=ab) (col:=col) (dd:=dd) (k0:=k0) (k1:=k1) (k2:=k2) (k3:=k3) (k5:=k5) (mN:=mN)
  y3h (T.hasType y3h.hasBase) (I.ok.hd hc) ?_ hni (z2a I hg O.mg ⟨rfl,?_⟩ hdb)
 ·rw[he];show(false||(backTo ac (starEach es X.env)).any (·.1))=false
  rw[hpl];rfl
 ·have h2:=ha ac aa s σ H _ I hw;rw[he] at h2 ⊢
  refine Calls.evalArgs_plain (thn h2 λus s1 h1=>?_);obtain⟨vs,H1,I1,r,z,q⟩:=h1;exact⟨rfl,by rw[←r.length];exact z,I1.bk _ _ hC,hN.keeps I1.bk,T.keeps I1.bk,λh' a m=>hxe aa σ H1 s1 h' a us I1 q m⟩
end
section
variable {P:Program}{w:World}{K:y00}{mg:Str->Option Value}{base:Heap}{N:List Str}{qual:Str}{scope:Scope}{f C:Addr}{cdv:Value}{A:Around}{outer:List Env}{s:Shared}{H:Hp}{E:XK}
end
structure DefX (P:Program)(w:World)(K:y00)(mg:Str->Option Value)(base:Heap)(x:Str)(C:Addr)(k:Nat)(ps:List Str)(bad:List V->Prop):Prop where
 is:∃(f:Addr) (fd:FuncData),FnOk P w K mg base (CXr P w C) k f fd ps (λvs _ _ _=>bad vs/\vs.length=ps.length)/\Binds K fd ps []/\mg x=some (.ref f)/\y0w K (.ref f)=true
end L2.EX
namespace L2.EX
open PySem PySem.Spec PyProof.Rows
structure ExcY (K:y00)(mg:Str->Option Value)(y:Str)(D C:Addr):Prop where
 mg:mg y=some (.ref D)
 ty:y4t K (.ref D)=some (.type "type")
 is:(y2j K D).isSome=true
 bas:y1v K D (.type "BaseException")=some true
 up:y1v K C (.ref D)=some true
theorem zfy {K:y00}{mg:Str->Option Value}{y:Str}{D C a:Addr}{M:Model}{A:Around}{E:Value->Shared->Prop}{s:Shared}{Q:Bool->Shared->Prop}(Y:ExcY K mg y D C)(W:K.In s.heap)(x:ExcAt a C s.heap)(q:Q true s) :
  wpAny M A (excMatches (.ref a) (.ref D)) Q E s:=by
 obtain⟨hh,g,dr,t,os⟩:=s;have L0:y28 M hh (isInstance (.ref D) (.type "tuple")) false:=(PySem.W.looks_typeIn W Y.ty).andThen (PySem.W.Looks.of_pure tc_notTuple);have L1:y28 M hh (isType (.ref D)) true:=by
  have z:=Y.is;unfold y2j at z
  split at z
  ·rename_i c1 d1 cd1 sl1 ho;intro A1 Q1 E1 s1 k q;unfold isType loadHead;exact wpAny_bind (wpAny_loadPart (k _ _ (W _ _ ho)) (wpAny_pure q))
  ·cases z
 have L2:=y2t (M:=M) W Y.bas;have L3:=x.type (M:=M)
 have L4:=y2t (M:=M) W Y.up;unfold excMatches
 repeat lk
 exact q
abbrev Cx.held (X:Cx)(a:Addr):Cx:={ X with A:=X.A.mark (some (.ref a)),calm:=false,xe:=λ_ _=>False }
section
variable {X:Cx}{aa:List (Addr×Obj)}{σ:St}{H:Hp}{s:Shared}{a:Addr}
theorem Inv.held (I:Inv X aa σ H s)(a:Addr):Inv (Cx.held X a) aa σ H s :=
 ⟨⟨I.ok.mod,I.ok.kind,I.ok.glob,I.ok.blt,I.ok.above,I.ok.inj,I.ok.has,I.ok.cab,(λz=>nomatch z),I.ok.frames,I.ok.stk,I.ok.exf,I.ok.bs,I.ok.bsz,I.ok.noex,I.ok.exfs,I.ok.funs,I.ok.frf⟩,I.os,I.bare,I.base,I.loc,I.cell,I.free,I.freeC,I.pin,I.hok,I.len⟩
theorem Inv.unheld (I:Inv (Cx.held X a) aa σ H s)(ok:X.Ok):Inv X aa σ H s:=⟨ok,I.os,I.bare,I.base,I.loc,I.cell,I.free,I.freeC,I.pin,I.hok,I.len⟩
theorem Inv.gone {i:Nat}{n:Str}{m:Str->Option Value}{v:Option Value}{h':Heap}{tk:Nat}(I:Inv X aa σ H s)(nd:X.N.Nodup)(hi:X.N[i]?=some n)(hn:s.heap.Ns X.env.locals m)
  (hl:∀(j:Nat) (x:Str) (v:V),X.N[j]?=some x->σ[j]?=some (some v)->Vis X.env.scope x->∃u,RelV v u/\zvq X.env s.heap m x u)
  (hn':h'.Ns X.env.locals (λx=>if x=n then v else m x)) (same:Heap.SameBut X.env.locals s.heap h'):Inv X aa (σ.set i none) H { s with heap:=h',toks:=tk }:=by
 have lo:∀b o,X.s₀.heap.get? b=some o->b≠X.env.locals:=λb o e=>y06 (y04 (Heap.lt_size e) I.ok.above);refine⟨I.ok,I.os,I.bare,⟨λb o e n hb hx=>?_,λb o e n hb hx=>?_,I.base.free,λb o e hx=>?_,I.base.tups,I.base.frzs,I.base.tbls⟩,⟨_,hn',λj y u e1 e2 e3=>?_⟩,λy c e=>?_,I.free,I.freeC,λp hp=>?_,λb o e=>?_,by simpa using I.len⟩
 ·exact(same.2 b (lo b o e)).trans (I.base.keep b o e n hb hx)
 ·obtain⟨sl,e1⟩:=I.base.slot b o e n hb hx;exact⟨sl,(same.2 b (lo b o e)).trans e1⟩
 ·obtain⟨o',e1⟩:=I.base.there b o e hx;exact⟨o',(same.2 b (lo b o e)).trans e1⟩
 ·by_cases hj:j=i
  ·subst hj;rw[y5d] at e2
   split at e2
   ·split at e2
    ·cases e2
    ·cases e2
   ·exact absurd rfl ‹_›
  ·rw[y0h (Ne.symm hj)] at e2;obtain⟨u',r',q⟩:=hl j y u e1 e2 e3;refine⟨u',r',?_⟩;rcases q with ⟨k,e⟩ | ⟨k,c,e,z⟩
   ·refine .inl ⟨k,?_⟩;have ne:y≠n:=λe=>hj (z5y nd e1 (e▸hi));simp[ne,e]
   ·exact .inr ⟨k,c,e,z.sameBut same (I.cne y c e)⟩
 ·obtain⟨w',z⟩:=I.cell y c e;exact⟨w',z.sameBut same (I.cne y c e)⟩
 ·obtain⟨e,n,ne,nf,d⟩:=I.pin p hp;exact⟨(same.2 p.1 ne).trans e,n,ne,nf,d⟩
 ·refine(I.hok b o e).stay (λc w' hc q=>(same.2 c ?_).trans q) (λ_ q=>q) λ_ _ q=>q;rintro rfl;rcases hc with rfl | hc
  ·rw[I.free] at e;cases e
  ·rw[I.free] at hc;cases hc
end
section
variable {X:Cx}{fx y n:Str}{C D:Addr}{i k:Nat}{ps:List Str}{bad:List V->Prop}{e:Expr}{es:List Expr}{t:TA}{b₀:Stmt}{suite:List Stmt}{ts:TS}{fp ac xpos np hpos tpos:Pos}
end
end L2.EX
namespace L2.EX
open PySem PySem.Spec PyProof.Rows
def zua (J:It)(g:TG)(tb:TS)(D:Ends)(σ:St)(H:Hp):Prop:=∃W:Nat->Nat->St->Hp->Prop,(∃m,W 0 m σ H)/\∀i m σ H,W i m σ H ->
 (J.stop i H/\D.nx σ H)∨(J.go i H/\∃N:St->Hp->Prop,(∀ σ' H',N σ' H'->∃m',m'<m/\W (i+1) m' σ' H')/\∀x H',J.yld i H x H'->g x σ H' fun σ2 H2=>tb { D with nx:=N,ct:=N,bk:=D.nx } σ2 H2)
def zx0 (wi:TI)(g:TG)(tb:TS)(D:Ends)(σ:St)(H:Hp):Prop:=wi σ H λJ H1=>zua J g tb D σ H1
def zw0 (K:y00)(tl:TE)(σ:St)(H:Hp)(R:It->Hp->Prop):Prop:=tl σ H λx H1=>match x with
 | .ref a=>((∃xs,SqL K H1 a xs)/\R (Itl K a) H1)∨((∃xs,SqT K H1 a xs)/\R (Itt K a) H1)
 | _=>False
def xR1 (ta:TA)(σ:St)(H:Hp)(R:It->Hp->Prop):Prop:=ta σ H λvs H1=>match vs with
 | [.int j]=>(-(2^62)≤j/\j<2^62)/\R (Itr 0 j.toNat) H1
 | _=>False
section
variable {X:Cx}{tg:Expr}
theorem zp3 {iter:Expr}{body:List Stmt}{wi:TI}{g:TG}{tb:TS}{pos:Pos}(hi:PI X tg iter wi)(hg:PG X tg g)(hb:PSs X body tb)(hp:PassesOwn (model X.prog X.w) X.A X.env X.xe:=by exact PassesOwn.never)(hc:X.calm=true:=by rfl)
  (hs:∀x,foldedSetIterable iter X.env x=pure x:=by intro _;rfl):PS X (.For tg iter body [] pos) (zx0 wi g tb):=zp2 hp hc hi hg hb hs
theorem zo8 {l:Expr}{tl:TE}(hl:PE X l tl):PI X tg l (zw0 X.K tl):=by
 intro aa s σ H R I h;refine thn (hl aa s σ H _ I h) λv s1 h1=>?_;obtain⟨x,H1,I1,r1,q1⟩:=h1
 split at q1
 ·rename_i a;cases r1;rcases q1 with ⟨⟨xs,hq⟩,q⟩ | ⟨⟨xs,hq⟩,q⟩
  ·obtain⟨its,rv,p,hz⟩:=I1.list hq;refine wpAny_pyIter_list p.isList ?_;refine⟨s1.heap.objs.size,[s1.heap.objs.size],_,_,H1,rfl,I1.kept (t':=s1.toks) λb o e=>Heap.get?_push_of_some _ e,zdt a _,⟨_,Heap.get?_push_size _ rfl,rfl,rfl⟩,λb hb=>?_,q⟩;have e:b=s1.heap.objs.size:=by simpa using hb
   subst e;exact I1.fpOk (y08 _) (I1.hok.fresh (y08 _))
  ·obtain⟨its,rv,p,hz⟩:=I1.tuple hq;refine wpAny_pyIter_tuple (show s1.heap.IsTuple a its.toArray from p) ?_
   refine⟨s1.heap.objs.size,[s1.heap.objs.size],_,_,H1,rfl,I1.kept (t':=s1.toks) λb o e=>Heap.get?_push_of_some _ e,zaf a _,⟨_,Heap.get?_push_size _ rfl,rfl,rfl⟩,λb hb=>?_,q⟩;have e:b=s1.heap.objs.size:=by simpa using hb
   subst e;exact I1.fpOk (y08 _) (I1.hok.fresh (y08 _))
 ·exact q1.elim
theorem zs6 {a:Expr}{ta:TA}{p pos:Pos}(hm:X.mg "range"=none)(ha:PA X [a] ta)(hg:Gl X "range":=by rfl)(hs:starEach [a] X.env = [(false,eval a X.env)]:=by rfl):PI X tg (.Call (.Name "range" p) [a] [] pos) (xR1 ta):=by
 intro aa s σ H R I h;refine Call_ (z16 I hg hm boot_range (y0f (thn (ha pos aa s σ H _ I h) λus s1 h1=>?_) hs rfl));obtain⟨vs,H1,I1,r1,q1⟩:=h1
 split at q1
 ·obtain⟨u,rfl,t,rfl⟩:=z29 r1;obtain⟨⟨q1,q2⟩,q⟩:=q1;exact call_range_1 (zgb I1 (by omega) (by omega) q1 q2 (by simpa using q))
 ·exact q1.elim
theorem zgr {lo hi c:Int}(hc:0<c):0≤Builtin.Range.rangeSize lo hi c/\Builtin.Range.rangeSize lo hi c≤(hi - lo).toNat/\(∀i:Nat,(i:Int)<Builtin.Range.rangeSize lo hi c->lo+i*c<hi):=by
 unfold Builtin.Range.rangeSize;rw[if_pos hc]
 split
 ·rename_i h;have q0:0≤(hi - lo - 1) / c:=Int.ediv_nonneg (by omega) (by omega)
  have q1:(hi - lo - 1) / c≤hi - lo - 1:=Int.ediv_le_self _ (by omega)
  have q2:(hi - lo - 1) / c*c≤hi - lo - 1:=Int.ediv_mul_le _ (by omega)
  refine⟨by omega,by omega,λi hi'=>?_⟩
  have q3:(i:Int)*c≤(hi - lo - 1) / c*c:=Int.mul_le_mul_of_nonneg_right (by omega) (by omega)
  omega
 ·exact⟨by omega,by omega,λi hi'=>by omega⟩
theorem zg5 {a b c:Int}(ha:-(2^61)≤a)(ha':a<2^61)(hb:-(2^61)≤b)(hb':b<2^61)(hc:0<c)(hc':c<2^20):Builtin.Range.small a b c=true:=by
 obtain⟨h1,h2,_⟩:=zgr (lo:=a) (hi:=b) hc;unfold Builtin.Range.small;simp only[Builtin.Range.rangeFitsLong,y09,y3c,decide_eq_true_eq,beq_iff_eq,if_pos (show c>0 from hc)]
 refine⟨⟨⟨⟨by omega,by omega⟩,by omega,by omega⟩,by omega⟩,.inr ⟨by omega,by omega⟩⟩
end
section
variable {K:y00}{g:TG}{tb:TS}{D:Ends}{σ:St}{H:Hp}
end
section
variable {X:Cx}{pos:Pos}
def xT2 (K:y00)(i j:Nat)(v:V)(σ:St)(H:Hp)(Q:St->Hp->Prop):Prop:=match v with
 | .ref a=>∃x y,SqT K H a [x,y]/\Q ((σ.set i (some x)).set j (some y)) H
 | _=>False
def xT3 (K:y00)(i j k:Nat)(v:V)(σ:St)(H:Hp)(Q:St->Hp->Prop):Prop:=match v with
 | .ref a=>∃x y z,SqT K H a [x,y,z]/\Q (((σ.set i (some x)).set j (some y)).set k (some z)) H
 | _=>False
theorem zkb (i:Nat){x:Str}(hN:X.N.Nodup)(hi:X.N[i]?=some x:=by rfl)(hx:Loc X.env.scope x:=by first | exact y4u rfl | exact y45 rfl)(hf:X.fn x=true∨X.env.scope.names.lookup x=some .local:=by first | exact .inl rfl | exact .inr rfl):PG X (.Name x pos) (z1m i):=zl7 hN hi hx hf
theorem zux {x y:Str}{px py:Pos}{kt:Nat}{i j:Nat}(h1:PG X (.Name x px) (z1m i))(h2:PG X (.Name y py) (z1m j))(hc:X.calm=true:=by rfl):PG X (.Tuple [.Name x px,.Name y py] kt pos) (xT2 X.K i j) :=
 zil (zhj hc (z2e h1 (z2e h2 zc3))) λv σ H Q h=>by
  unfold xT2 at h
  split at h
  ·obtain⟨u,w,h1,h2⟩:=h;exact⟨_,_,rfl,h1,rfl,_,_,rfl,_,_,rfl,rfl,h2⟩
  ·exact h.elim
theorem ztf {x y z:Str}{px py pz:Pos}{kt:Nat}{i j k:Nat}(h1:PG X (.Name x px) (z1m i))(h2:PG X (.Name y py) (z1m j))(h3:PG X (.Name z pz) (z1m k))(hc:X.calm=true:=by rfl):PG X (.Tuple [.Name x px,.Name y py,.Name z pz] kt pos) (xT3 X.K i j k) :=
 zil (zhj hc (z2e h1 (z2e h2 (z2e h3 zc3)))) λv σ H Q h=>by
  unfold xT3 at h
  split at h
  ·obtain⟨u,w,r,h1,h2⟩:=h;exact⟨_,_,rfl,h1,rfl,_,_,rfl,_,_,rfl,_,_,rfl,rfl,h2⟩
  ·exact h.elim
end
end L2.EX
namespace L2.EX
open PySem PySem.Spec PyProof.Rows
theorem zp0:bootBuiltins "abs"=some (.builtin "abs"):=by decide +kernel
theorem znq:bootBuiltins "min"=some (.builtin "min"):=by decide +kernel
theorem zpv:bootBuiltins "max"=some (.builtin "max"):=by decide +kernel
theorem zod:bootBuiltins "sum"=some (.builtin "sum"):=by decide +kernel
theorem zpj:bootBuiltins "any"=some (.builtin "any"):=by decide +kernel
theorem z1n:bootBuiltins "isinstance"=some (.builtin "isinstance"):=by decide +kernel
theorem z88:bootBuiltins "list"=some (.type "list"):=by decide +kernel
theorem zdb:bootBuiltins "dict"=some (.type "dict"):=by decide +kernel
theorem z6t:bootBuiltins "enumerate"=some (.type "enumerate"):=by decide +kernel
theorem z9b:bootBuiltins "zip"=some (.type "zip"):=by decide +kernel
section
variable {X:Cx}{x:Str}{p pos:Pos}{e:Expr}{es:List Expr}{t:TA}{id T:String}{r:List V->Hp->VK->Prop}
theorem zrw (hc:CallR X (.builtin id) r)(hm:X.mg x=none)(hv:bootBuiltins x=some (.builtin id))(ha:PA X (e::es) t)(hg:Gl X x:=by rfl)(hn:x ≠ "__name__":=by decide)(hdb:(x==("__debug__":Str))=false:=by decide)
  (he:starEach (e::es) X.env=(false,eval e X.env)::starEach es X.env:=by rfl) (hpl:(backTo pos (starEach es X.env)).any (·.1)=false:=by rfl):PE X (.Call (.Name x p) (e::es) [] pos) (tCB r t):=zfx hc hg hm hv ha hn hdb he hpl
theorem zws (hc:CallR X (.type T) r)(hm:X.mg x=none)(hv:bootBuiltins x=some (.type T))(ha:PA X (e::es) t)(hg:Gl X x:=by rfl)(hn:x ≠ "__name__":=by decide)(hdb:(x==("__debug__":Str))=false:=by decide)
  (he:starEach (e::es) X.env=(false,eval e X.env)::starEach es X.env:=by rfl) (hpl:(backTo pos (starEach es X.env)).any (·.1)=false:=by rfl):PE X (.Call (.Name x p) (e::es) [] pos) (tCB r t):=zbx hc hg hm hv ha hn hdb he hpl
theorem zqq (hm:X.mg x=none)(hv:bootBuiltins x=some (.type T))(hg:Gl X x:=by rfl)(hn:x ≠ "__name__":=by decide)(hd:(x==("__debug__":Str))=false:=by decide):PE X (.Name x pos) (tC (.ty T)):=zk7 hg hm hv rfl hn hd
theorem z8h {es:List Expr}{t:TA}(h:PA X es t):PA X es (fun σ H Q=>∃R,t σ H R/\∀vs H1,R vs H1->Q vs H1):=by
 intro pos aa s σ H Q I hw;obtain⟨R,h1,h2⟩:=hw;refine thn (h pos aa s σ H R I h1) λus s1 hq=>?_;obtain⟨vs,H1,I1,r,q⟩:=hq;exact⟨vs,H1,I1,r,h2 _ _ q⟩
theorem z0f {e:Expr}{t:TE}(h:PE X e t):PE X e (fun σ H Q=>∃R,t σ H R/\∀v H1,R v H1->Q v H1):=by
 intro aa s σ H Q I hw;obtain⟨R,h1,h2⟩:=hw;refine thn (h aa s σ H R I h1) λus s1 hq=>?_;obtain⟨v,H1,I1,r,q⟩:=hq;exact⟨v,H1,I1,r,h2 _ _ q⟩
end
theorem zth {i j:Int}{m n:Nat}(hi:Bd m i)(hj:Bd n j)(h:m+n≤134217728):IntMulOk i j:=IntMulOk.of_le (intBits_le_iff.mpr hi) (intBits_le_iff.mpr hj) h
theorem sz {n:Nat}(h:n≤1000):n≤sizeLine:=y22 (zdl h)
def zlv (K:y00):Sp:=λvs H Q _=>∃(a:Addr) (ns:List Int),vs = [.ref a]/\SqL K H a (ns.map V.int)/\ns.length≤63/\∀H',Q (.bl true) H'
theorem zng {K:y00}{mg:Str->Option Value}{h:Heap}{x:Str}{st:Stmt}{ps:List Str}{f:Addr}{oc:Value}{od an:Option Addr}{osl:Array (Option Value)}{kV doc pm cdv ct:Value}(X:K.In h)(G:h.Ns mainGlobals mg)
  (a:y1s K mainGlobals x=some (some (.ref f))) (l:K.lookup f=some ⟨oc,od,.func (y19 x x (z0y st) (z0o st) (z0a st) .none kV doc pm an cdv ct),osl⟩)
  (c:y1n K cdv x=true) (k:y0w K (.ref f)=true)
  (b:∀(kV doc pm:Value) (an:Option Addr) (cdv ct:Value) (us:List Value),us.length=ps.length->bindArgs (y19 x x (z0y st) (z0o st) (z0a st) .none kV doc pm an cdv ct) ⟨us,[]⟩=pure (ps.zip us)):Top K mg x st ps :=
 ⟨f,_,z3b l c k,(z3b l c k).binds b,y29 X G a⟩
theorem zyp {l:y4i}{q:Program}{aW:List Str}{XP:(Str->Option Value)->Heap->Prop}{YP:World->Heap->Prop}{d:DefRec}{K:Params->y00}(k:Nat)(hn:l.most=some 63)(hdf:d.params.defaults = [])(hr:Room k callerA)
  (hY:∀(w:World) (h:Heap),YP w h->(K w.params).In h)
  (F:∀(w:World) (mg:Str->Option Value) (fa:Addr) (h:Heap),(K w.params).In h->h.Ns mainGlobals mg->mg d.name=some (.ref fa) ->
   ∃fd:FuncData,(∀(s:Shared) (u:Value),BindsTo s fd ⟨[u],[]⟩ [("_law_script",u)])/\∀base:Heap,(K w.params).In base->base.Ns mainGlobals mg->FnOk l.prog w (K w.params) mg base CX0 k fa fd ["_law_script"] (zlv (K w.params))) :
  y54 q aW XP YP l.row.toRowW d [] (λf vs=>y5c f vs) :=
 L2.walk_of (n:=63) (k:=k) (x:="_law_script") (CX:=λ_=>CX0) (sp:=λw=>zlv (K w.params)) hn (by decide) hdf hr hY F (λ_ _ a ns hl _ hS=>⟨a,ns,rfl,hS,hl,λ_=>rfl⟩) λ_ _ _ _ _ z=>z
end L2.EX
namespace L2.EX
open PySem PySem.Spec PyProof.Rows
theorem zcv {env:Env}:∀(ns:List (Str×NameKind)) (acc:List (Str×Addr)),(∀y∈ns,y.2 = .free->∃c,env.cells.lookup y.1=some c)->(∀x c,acc.lookup x=some c->env.cells.lookup x=some c) ->
  ∃cl:List (Str×Addr),(forIn ns acc (λ(x:Str×NameKind) (r:List (Str×Addr))=>match x with | (name,kind)=>if (kind==NameKind.free)=true then do let c ←cellOf env name;pure (ForInStep.yield ((name,c)::r)) else pure (ForInStep.yield r)):Sem (List (Str×Addr)))=pure cl /\
   (∀x c,cl.lookup x=some c->env.cells.lookup x=some c)/\(∀x c,acc.lookup x=some c->∃c',cl.lookup x=some c')/\∀y∈ns,y.2 = .free->∃c,cl.lookup y.1=some c
 | [],acc,_,h2=>⟨acc,rfl,h2,λx c e=>⟨c,e⟩,λy hy=>nomatch hy⟩
 | (n,k)::r,acc,h1,h2=>by
  have h1':∀y∈r,y.2 = .free->∃c,env.cells.lookup y.1=some c:=λy hy=>h1 y (y0c _ hy)
  by_cases hk:k = .free
  ·subst hk;obtain⟨c,hc⟩:=h1 (n,.free) y0p rfl;have hc':env.cells.lookup n=some c:=hc;have h2':∀x d,((n,c)::acc).lookup x=some d->env.cells.lookup x=some d:=λx d e=>by
    rw[y0m] at e;cases hx:x==n with
    | true =>
     rw[hx] at e;cases e;rw[beq_iff_eq.mp hx];exact hc'
    | false =>
     rw[hx] at e;exact h2 x d e
   obtain⟨cl,e,a,b,d⟩:=zcv r ((n,c)::acc) h1' h2';have kp:∀x c',acc.lookup x=some c'->∃c'',((n,c)::acc).lookup x=some c'':=λx c' q=>by
    rw[y0m];cases hx:x==n with
    | true=>exact⟨c,rfl⟩
    | false=>exact⟨c',q⟩
   refine⟨cl,?_,a,λx c' q=>let ⟨c'',q'⟩:=kp x c' q;b x c'' q',λy hy hf=>?_⟩
   ·rw[y26];have ec:cellOf env n=pure c:=by unfold cellOf;rw[hc']
    simp only[beq_self_eq_true,if_true,ec,pure_bind];exact e
   ·rcases y0a.mp hy with rfl | hy
    ·exact b n c (by rw[y0m];simp)
    ·exact d y hy hf
  ·have hb:(k==NameKind.free)=false:=by simpa using hk
   obtain⟨cl,e,a,b,d⟩:=zcv r acc h1' h2;refine⟨cl,?_,a,b,λy hy hf=>?_⟩
   ·rw[y26];simp only[hb,y3l,if_false,pure_bind];exact e
   ·rcases y0a.mp hy with rfl | hy
    ·exact absurd hf hk
    ·exact d y hy hf
theorem z9z {scope:Scope}{env:Env}(h:∀y∈scope.names,y.2 = .free->∃c,env.cells.lookup y.1=some c) :
  ∃cl,closureFor scope env=pure cl/\(∀x c,cl.lookup x=some c->env.cells.lookup x=some c)/\∀y∈scope.names,y.2 = .free->∃c,cl.lookup y.1=some c:=by
 obtain⟨cl,e,a,_,d⟩:=zcv scope.names [] h (λx c e=>by simp at e)
 refine⟨cl,?_,a,d⟩;unfold closureFor;exact(congrArg (· >>= pure) e).trans (pure_bind _ _)
section
variable {prog:Program}{w:World}{A:Around}{R:Result->Shared->Prop}{s:Shared}
abbrev NoE:Value->Shared->Prop:=λ_ _=>False
theorem zbg {elt aV iter:Expr}{ifs:List Expr}{scope:Scope}{pos:Pos}{it acc:Value}{env:Env}(J:Nat->Shared->Prop)
  (turn:∀n s,J n s->wpAny (model prog w) A (pyNext it) (λr s₁=>match r with
   | none=>R (.ok .next) s₁
   | some v=>wpAny (model prog w) A (letOwnedTupleGo aV it v) (λ_ s₂=>wpAny (model prog w) A (assign aV env v) (λ_ s₃ =>
     wpAny (model prog w) A (forIn ifs true λc r=>if r=true then do let ok ←isTrue c env (eval c env);pure (ForInStep.yield ok) else pure (ForInStep.yield r)) (λok s₄ =>
      if ok=true then wpAny (model prog w) A (eval elt env) (λx s₅=>wpAny (model prog w) A (call (.builtin "list.append") [acc,x]) (λ_ s₆=>∃m,m<n/\J m s₆) NoE s₅) NoE s₄
      else ∃m,m<n/\J m s₄) NoE s₃) NoE s₂) NoE s₁) NoE s)
  (n:Nat) (h:J n s):codeAny (model prog w) A (.compLoop (.ListComp elt [⟨aV,iter,ifs,0⟩] scope pos) 0 it acc env) R s:=by
 refine codeAny_loop rfl J (λn s hJ=>?_) n h;refine wpAny_noted (m:=compTurn (.ListComp elt [⟨aV,iter,ifs,0⟩] scope pos) 0 it acc env) ?_;rw[compTurn_list];refine wpAny_bind (wpAny_standAt (wpAny_bind (wpAny_mono (turn n s hJ) (λr s₁ h₁=>?_) λ_ _ z=>z.elim)));cases r with
 | none=>exact wpAny_pure h₁
 | some v =>
  refine wpAny_bind (wpAny_mono h₁ (λ_ s₂ h₂=>?_) λ_ _ z=>z.elim);refine wpAny_bind (wpAny_mono h₂ (λ_ s₃ h₃=>?_) λ_ _ z=>z.elim);refine wpAny_bind (wpAny_mono h₃ (λok s₄ h₄=>?_) λ_ _ z=>z.elim);cases ok with
  | false=>exact wpAny_pure ⟨rfl,h₄⟩
  | true =>
   refine wpAny_bind (wpAny_bind (wpAny_mono h₄ (λx s₅ h₅=>?_) λ_ _ z=>z.elim));exact wpAny_bind (wpAny_mono h₅ (λ_ s₆ h₆=>wpAny_pure (wpAny_pure ⟨rfl,h₆⟩)) λ_ _ z=>z.elim)
end
theorem z2w {env:Env}{x:Str}{k':NameKind}:∀{names:List (Str×NameKind)},(names.map λ(n,k)=>if (k==NameKind.free&&env.scope.kind == .function&&env.kindOf n==some .cell) then (n,NameKind.cell) else (n,k)).lookup x=some k' ->
  ∃k,names.lookup x=some k/\(k'=k∨(k = .free/\k' = .cell))
 | [],h=>nomatch h
 | (n,k)::r,h=>by
  have ih:=@z2w env x k' r;rw[y10] at h;cases hx:x==n with
  | true =>
   refine⟨k,by simp[y0m,hx],?_⟩
   by_cases hc:(k==NameKind.free&&env.scope.kind == .function&&env.kindOf n==some .cell)=true
   ·have h':some NameKind.cell=some k':=by simpa [hc,y0m,hx] using h
    rw[y09,y09] at hc;exact .inr ⟨beq_iff_eq.mp hc.1.1,(y0q h').symm⟩
   ·have h':some k=some k':=by simpa [hc,y0m,hx] using h
    exact .inl (y0q h').symm
  | false =>
   have h':(r.map λ(n,k)=>if (k==NameKind.free&&env.scope.kind == .function&&env.kindOf n==some .cell) then (n,NameKind.cell) else (n,k)).lookup x=some k':=by
    by_cases hc:(k==NameKind.free&&env.scope.kind == .function&&env.kindOf n==some .cell)=true
    ·simpa [hc,y0m,hx] using h
    ·simpa [hc,y0m,hx] using h
   obtain⟨k1,e1,e2⟩:=ih h';exact⟨k1,by simp[y0m,hx,e1],e2⟩
theorem z6w {env:Env}{x:Str}{names:List (Str×NameKind)}(h:names.lookup x=some .free) :
  (names.map λ(n,k)=>if (k==NameKind.free&&env.scope.kind == .function&&env.kindOf n==some .cell) then (n,NameKind.cell) else (n,k)).lookup x=some .cell ∨
  (names.map λ(n,k)=>if (k==NameKind.free&&env.scope.kind == .function&&env.kindOf n==some .cell) then (n,NameKind.cell) else (n,k)).lookup x=some .free:=by
 induction names with
 | nil=>exact nomatch h
 | cons p r ih =>
  obtain⟨n,k⟩:=p;rw[y10];cases hx:x==n with
  | true =>
   have hk:k = .free:=by simpa [y0m,hx] using h
   subst hk;have go:∀c:Bool,(((if c=true then (n,NameKind.cell) else (n,NameKind.free))::(r.map λ(n,k)=>if (k==NameKind.free&&env.scope.kind == .function&&env.kindOf n==some .cell) then (n,NameKind.cell) else (n,k))).lookup x=some .cell) ∨
     (((if c=true then (n,NameKind.cell) else (n,NameKind.free))::(r.map λ(n,k)=>if (k==NameKind.free&&env.scope.kind == .function&&env.kindOf n==some .cell) then (n,NameKind.cell) else (n,k))).lookup x=some .free):=λc=>by
    cases c
    ·right;simp[y0m,hx]
    ·left;simp[y0m,hx]
   exact go _
  | false =>
   have ih':=ih (by simpa [y0m,hx] using h)
   by_cases hc:(k==NameKind.free&&env.scope.kind == .function&&env.kindOf n==some .cell)=true
   ·simpa [hc,y0m,hx] using ih'
   ·simpa [hc,y0m,hx] using ih'
structure CC where
 cl:List (Str×Addr)
 C:Addr
 s:Shared
 H:Hp
 ex:List Addr
def z05 (X:Cx)(scope:Scope)(N:List Str)(c:CC):Cx where
 prog:=X.prog
 w:=X.w
 K:=X.K
 mg:=X.mg
 base:=X.base
 A:=X.A
 N:=N
 s₀:=c.s
 H₀:=c.H
 env:=compEnvC scope c.cl c.C X.env
 outer:=X.stack
 stack:=X.stack
 ex:=c.ex
 fn:=λ_=>false
 calm:=X.calm
 pn:=[]
 xe:=λ_ _=>False
def znl (J:It)(g:TG)(tt:TT)(te:TE)(σ0:St)(Q:VK)(H:Hp):Prop:=∃W:Nat->Nat->List V->Hp->Prop,(∃m,W 0 m [] H)/\∀i m ys H,W i m ys H ->
 (J.stop i H/\ys.length≤sizeLine/\∀l,H l=none->Q (.ref l) (upd H l (.lst ys))) ∨
 (J.go i H/\ys.length<sizeLine/\∀x H',J.yld i H x H'->g x σ0 H' fun σ2 H2=>tt σ2 H2 λb H3=>if b=true then te σ2 H3 λy H4=>∃m',m'<m/\W (i+1) m' (ys ++ [y]) H4 else ∃m',m'<m/\W (i+1) m' ys H3)
def z7g (wi:TI)(n:Nat)(fr:List Nat)(g:TG)(tt:TT)(te:TE)(σ:St)(H:Hp)(Q:VK):Prop:=wi σ H λJ H1=>znl J g tt te (y0b n none++fr.map (sg σ)) Q H1
def FreeIn (env:Env):List Str->Prop
 | []=>True
 | x::r=>(env.kindOf x=some .cell∨env.kindOf x=some .free)/\FreeIn env r
theorem FreeIn.mem {env:Env}{x:Str}:∀{l:List Str},FreeIn env l->x∈l->env.kindOf x=some .cell∨env.kindOf x=some .free
 | _::_,h,hx=>by
  rcases y0a.mp hx with rfl | hx
  ·exact h.1
  ·exact FreeIn.mem h.2 hx
theorem zex {X:Cx}{aa:List (Addr×Obj)}{σ:St}{H:Hp}{s:Shared}{l:Addr}{o:HO}(I:Inv X aa σ H s)(hn:H l=none)(h1:X.s₀.heap.objs.size≤l)(hL:l≠X.env.locals)(h2:∀x c,X.env.cells.lookup x=some c->c≠l)(h3:∀p∈X.pn++aa,p.1≠l)
  (new:ObjOk X.prog X.w (upd H l o) s.heap l o):Inv X aa σ (upd H l o) s:=by
 have old:∀b u,H b=some u->upd H l o b=some u:=λb u e=>by rw[z04 (z0i e hn)];exact e
 refine⟨I.ok,I.os,I.bare,⟨I.base.keep,I.base.slot,λb o' e n hx=>?_,I.base.there,λb xs e=>old b _ (I.base.tups b xs e),λb o' u e=>old b _ (I.base.frzs b o' u e),λb ps e=>?_⟩,I.loc,I.cell,?_,λx c e=>?_,λp hp=>?_,λb u e=>?_,I.len⟩
 ·rw[z04 (y06 (y04 (Heap.lt_size e) h1))];exact I.base.free b o' e n hx
 ·obtain⟨more,q⟩:=I.base.tbls b ps e;exact⟨more,old b _ q⟩
 ·rw[z04 (Ne.symm hL)];exact I.free
 ·rw[z04 (h2 x c e)];exact I.freeC x c e
 ·obtain⟨e,n,r⟩:=I.pin p hp;exact⟨e,by rw[z04 (h3 p hp)];exact n,r⟩
 ·by_cases hb:b=l
  ·subst hb;rw[z08] at e;cases e;exact new
  ·rw[z04 hb] at e;exact(I.hok b u e).stay (λ_ _ _ q=>q) (λc q=>old c _ q) λc xs q=>old c _ q
def GOk (n:Nat)(g:TG):Prop:=∀x σ H Q,g x σ H Q->g x σ H fun σ2 H2=>(∀i,n≤i->σ2[i]? = σ[i]?)/\Q σ2 H2
theorem z0u {n i:Nat}(h:i<n):GOk n (z1m i):=λx σ H Q q=>⟨λj hj=>y0h (by omega),q⟩
theorem z1r {n i j:Nat}{K:y00}(h1:i<n)(h2:j<n):GOk n (xT2 K i j):=λx σ H Q q=>by
 unfold xT2 at q ⊢
 split at q
 ·obtain⟨u,v,q1,q2⟩:=q;exact⟨u,v,q1,λk hk=>by rw[y0h (by omega),y0h (by omega)],q2⟩
 ·exact q.elim
theorem z53 {n i j k:Nat}{K:y00}(h1:i<n)(h2:j<n)(h3:k<n):GOk n (xT3 K i j k):=λx σ H Q q=>by
 unfold xT3 at q ⊢
 split at q
 ·obtain⟨u,v,z,q1,q2⟩:=q;exact⟨u,v,z,q1,λk hk=>by rw[y0h (by omega),y0h (by omega),y0h (by omega)],q2⟩
 ·exact q.elim
section
variable {X:Cx}
theorem zg1 {scope:Scope}{N:List Str}{fr:List Nat}{n:Nat}{cl:List (Str×Addr)}{aa:List (Addr×Obj)}{σ:St}{H:Hp}{s:Shared}{C:Addr}{h₁:Heap}{m:Str->Option Value}{fp:List Addr}{tk:Nat}
  (I:Inv X aa σ H s) (hf:∀b∈fp,zcb X aa H b) (hfl:∀b∈fp,b<s.heap.objs.size) (hC:s.heap.objs.size≤C) (old:∀b o,s.heap.get? b=some o->h₁.get? b=some o) (hns:h₁.Ns C m)
  (hn:N.length=n+fr.length) (hfr:fr.map (λi=>X.N[i]?)=(N.drop n).map some) (hsc:∀x∈N.drop n,scope.names.lookup x=some .free)
  (ay:scope.kind = .function) (aC:∀y∈scope.names,y.2 ≠ .cell) (hF:FreeIn X.env ((scope.names.filter λy=>y.2 == .free).map (·.1)))
  (cl1:∀x c,cl.lookup x=some c->X.env.cells.lookup x=some c) (cl2:∀y∈scope.names,y.2 = .free->∃c,cl.lookup y.1=some c) :
  Inv (z05 X scope N ⟨cl,C,s,H,fp⟩) (X.pn++aa) (y0b n none++fr.map (sg σ)) H { s with heap:=h₁,toks:=tk }:=by
 have freeAt:∀x,scope.names.lookup x=some .free->X.env.kindOf x=some .cell∨X.env.kindOf x=some .free:=λx e =>
  hF.mem (y15.mpr ⟨(x,.free),y38.mpr ⟨y18 e,rfl⟩,rfl⟩)
 have kinds:∀x,((relabel scope X.env).names.lookup x=some .cell∨(relabel scope X.env).names.lookup x=some .free)->scope.names.lookup x=some .free:=λx hx=>by
  rcases hx with hx | hx
  ·obtain⟨k,e,z⟩:=z2w (env:=X.env) hx;rcases z with z | ⟨z,_⟩
   ·subst z;exact absurd rfl (aC _ (y18 e))
   ·subst z;exact e
  ·obtain⟨k,e,z⟩:=z2w (env:=X.env) hx;rcases z with z | ⟨z,z'⟩
   ·subst z;exact e
   ·cases z'
 have fsX:∀b,b≠X.env.locals->b ∉ X.fs->b ∉ frs X.stack:=λb h1 h2 z=>(y0a.mp (I.stkSub b z)).elim h1 h2;refine⟨⟨I.ok.mod,ay,I.ok.glob,I.ok.blt,hC,λx y c h1 h2=>I.ok.inj x y c (cl1 x c h1) (cl1 y c h2),λx hx=>?_,λx c hx=>absurd hx (by simp[z05]),I.ok.hd,I.ok.frames,.inl rfl,λb hb=>⟨?_,λx c e=>(hf b hb).2.2.2.2.1 x c (cl1 x c e)⟩,I.bs,y0j I.ok.bsz I.sz,λb o e hb=>?_,λb hb=>fsX b (hf b hb).2.1 (hf b hb).2.2.1,I.stack,I.stkFree⟩,
  rfl,I.bare,Un.kept old,⟨m,hns,λi x v e1 e2 e3=>?_⟩,λx c e=>?_,I.hok.fresh hC,λx c e=>I.freeC x c (cl1 x c e),λp hp=>?_,I.hok.kept old,?_⟩
 ·obtain⟨c,e⟩:=cl2 (x,.free) (y18 (kinds x hx)) rfl;exact⟨c,e⟩
 ·exact y06 (y04 (hfl b hb) hC)
 ·rcases (hf b hb).2.2.2.1 with z | z
  ·exact I.ok.noex b o e z
  ·exact absurd (y04 (Heap.lt_size e) (y0j I.ok.bsz z)) (y1c _)
 ·-- a slot of the block's frame that is known: one of the free names
  have hi:n≤i:=by
   rcases y3m i n with z | z
   ·rw[y0x (by simpa using z),y27,if_pos z] at e2
    cases e2
   ·exact z
  rw[y20 (by simpa using hi),y2e,y0g] at e2
  obtain⟨j,ej,e2'⟩:=y1k.mp e2;have ex:X.N[j]?=some x:=by
   have q:=congrArg (λl=>l[i - n]?) hfr;simp only[y0g,ej,Option.map_some,y56] at q;have e1':N[n+(i - n)]?=some x:=by rw[show n+(i - n)=i by omega];exact e1
   rw[e1'] at q;simpa using q
  have hx:scope.names.lookup x=some .free:=hsc x (by
   have e1':N[n+(i - n)]?=some x:=by rw[show n+(i - n)=i by omega];exact e1
   rw[←y56] at e1';exact y0o e1')
  obtain⟨m',_,hl⟩:=I.loc;have hv:Vis X.env.scope x:=by
   rcases freeAt x hx with z | z
   ·exact .inr (.inl z)
   ·exact .inr (.inr z)
  obtain⟨u,r,lk⟩:=hl j x v ex (zkx e2') hv;refine⟨u,r,.inr ⟨?_,?_⟩⟩
  ·rcases z6w (env:=X.env) hx with z | z
   ·exact .inl z
   ·exact .inr z
  ·obtain⟨c,ec⟩:=cl2 (x,.free) (y18 hx) rfl;rcases lk with ⟨z,_⟩ | ⟨_,c',ec',o,ho,hd⟩
   ·rcases freeAt x hx with y | y
    ·rw[y] at z;cases z
    ·rw[y] at z;cases z
   ·have q:=cl1 x c ec;rw[ec'] at q;cases q;exact⟨c,ec,o,old _ _ ho,hd⟩
 ·obtain⟨v,o,ho,hd⟩:=I.cell x c (cl1 x c e);exact⟨v,o,old _ _ ho,hd⟩
 ·have hp':p∈X.pn++aa:=by simpa [z05] using hp
  obtain⟨e,z,ne,nf,d⟩:=I.pin p hp';exact⟨old _ _ e,z,y06 (y04 (Heap.lt_size e) hC),fsX _ ne nf,d⟩
 ·show _=N.length;rw[y0k,y2e,y0e,hn]
end
end L2.EX
namespace L2.EX
open PySem PySem.Spec PyProof.Rows
section
variable {X:Cx}
theorem z75 {elt tg iter:Expr}{ifs:List Expr}{scope:Scope}{pos pos1:Pos}{N:List Str}{fr:List Nat}{wi:TI}{g:TG}{tt:TT}{te:TE}{use:Option (Value->Sem Unit)}{QQ:Value->Shared->Prop}{aa:List (Addr×Obj)}{σ:St}{H:Hp}{s:Shared}{Q:VK}(n:Nat)
  (I:Inv X aa σ H s) (h:z7g wi n fr g tt te σ H Q)
  (hend:∀(s6:Shared) (H6:Hp) (l C:Addr) (oC:Obj) (mC:Str->Option Value),Inv X aa σ H6 s6->Q (.ref l) H6->s6.heap.get? C=some oC->LCg.NsObj oC mC->zcb X aa H6 C->compPost (model X.prog X.w) X.A X.xe use QQ (.ref l) C (.ok .next) s6)
  (hi:PI X tg iter wi) (hg:∀c:CC,PG (z05 X scope N c) tg g) (hgk:GOk n g)
  (ht:∀(c:CC) (aa:List (Addr×Obj)) (s:Shared) (σ:St) (H:Hp) (Q:Bool->Hp->Prop),Inv (z05 X scope N c) aa σ H s->tt σ H Q ->
   wpAny (model X.prog X.w) X.A (forIn ifs true λc' r=>if r=true then do let ok ←isTrue c' (compEnvC scope c.cl c.C X.env) (eval c' (compEnvC scope c.cl c.C X.env));pure (ForInStep.yield ok) else pure (ForInStep.yield r)) (TP (z05 X scope N c) aa σ Q) NoE s)
  (he:∀c:CC,PE (z05 X scope N c) elt te) (hn:N.length=n+fr.length)
  (hfr:fr.map (λi=>X.N[i]?)=(N.drop n).map some) (hsc:∀x∈N.drop n,scope.names.lookup x=some .free)
  (hF:FreeIn X.env ((scope.names.filter λy=>y.2 == .free).map (·.1)))
  (ay:scope.kind = .function) (aC:∀y∈scope.names,y.2 ≠ .cell) (aD:∀y∈scope.names,y.2 = .local->scope.names.lookup y.1=some .local) (aH:X.calm=true)
  (hs:∀x,foldedSetIterable iter X.env x=pure x):wpAny (model X.prog X.w) X.A (comprehension (.ListComp elt [⟨tg,iter,ifs,0⟩] scope pos) scope X.env pos1 (newList []) false (eval iter X.env) use) QQ X.xe s:=by
 have hcl0:∀y∈scope.names,y.2 = .free->∃c,X.env.cells.lookup y.1=some c:=λy hy hf=>I.ok.has y.1 (hF.mem (y15.mpr ⟨y,y38.mpr ⟨hy,by rw[hf];rfl⟩,rfl⟩))
 obtain⟨cl,ecl,cl1,cl2⟩:=z9z hcl0;refine wpAny_comprehension_free (use:=use) rfl hs ecl ay aD (thn (hi aa s σ H _ I h) λv s1 h1=>thn h1 λitv s2 h2=>?_);obtain⟨it,fp,tn,J,H2,rfl,I2,T,st2,f2,W,⟨m0,w0⟩,turn⟩:=h2;have hfl:∀b∈fp,b<s2.heap.objs.size:=λb hb=>let ⟨o,e,_⟩:=T.obj _ _ st2 b hb;Heap.lt_size e
 refine wpAny_newObj_type (wpAny_newFunctionEnv aC (by intro y hy;simp at hy) (λh₁ hns₁ hsb₁=>?_) ay)
 dsimp only at hns₁ hsb₁ ⊢
 generalize hH2:s2.heap.push { cls:=.type "list",dict:=none,data:=.seq ([]:List Value).toArray }=HA at hns₁ hsb₁ ⊢
 have hC:HA.objs.size=s2.heap.objs.size+1:=by rw[←hH2,Heap.size_push]
 have hlC:s2.heap.objs.size≠HA.objs.size:=by rw[hC];exact y06 (y1a _)
 have hCle:s2.heap.objs.size≤HA.objs.size:=by rw[hC];exact y3d _
 have old:∀b o,s2.heap.get? b=some o->h₁.get? b=some o:=λb o e =>
  hsb₁.extBut b o (by rw[hC];exact y06 (y2l (Heap.lt_size e))) (Heap.get?_push_of_some _ (hH2▸Heap.get?_push_of_some _ e))
 have hacc:h₁.PlainList s2.heap.objs.size #[]:=⟨_,hsb₁.extBut _ _ hlC (Heap.get?_push_of_some _ (hH2▸Heap.get?_push_size _ rfl))⟩;generalize hl:s2.heap.objs.size=l at hacc hlC;generalize hCe:HA.objs.size=C at hns₁ hsb₁ hlC hCle;have hCl:s2.heap.objs.size≤C:=hCle
 have hll:s2.heap.objs.size≤l:=y3j hl
 let cc:CC:=⟨cl,C,s2,H2,fp⟩
 let σ0:St:=y0b n none++fr.map (sg σ)
 have I3:Inv (z05 X scope N cc) (X.pn++aa) σ0 H2 { s2 with heap:=h₁,toks:=s2.toks+([]:List (Str×Value)).length }:=zg1 I2 f2 hfl hCl old hns₁ hn hfr hsc ay aC hF cl1 cl2
 have lfp:l ∉ fp:=λz=>absurd (hfl l z) (Nat.not_lt.mpr hll);have lpin:∀p∈X.pn++aa,p.1≠l:=λp hp=>by
  rw[←hl];exact y06 (Heap.lt_size (I2.pin p hp).1)
 have lcell:∀x c,cl.lookup x=some c->c≠l:=λx c e=>by
  obtain⟨v,q⟩:=I2.cell x c (cl1 x c e);rw[←hl];exact y06 q.lt
 have lfs:l ∉ frs X.stack:=λz=>by
  rcases y0a.mp (I2.stkSub l z) with z | z
  ·rw[z] at hll;exact absurd I2.lt (Nat.not_lt.mpr hll)
  ·exact I2.nofs hll z
 have fsX:∀b∈fp,b ∉ frs X.stack:=λb hb z=>(y0a.mp (I2.stkSub b z)).elim (f2 b hb).2.1 (f2 b hb).2.2.1;have stat:∀{H':Hp} {more:List (Addr×Obj)},(∀b∈fp,H' b=none)->(∀p∈more,p.1=l)->∀b∈fp,zcb (z05 X scope N cc) (X.pn++aa++more) H' b:=λ{H' more} hz hm b hb =>
  ⟨hz b hb,y06 (y04 (hfl b hb) hCl),fsX b hb,.inl hb,λx c e=>(f2 b hb).2.2.2.2.1 x c (cl1 x c e),λp hp=>by
   have hp':p∈X.pn++aa∨p∈more:=by simpa [z05,y32,or_assoc] using hp
   rcases hp' with z | z
   ·exact(f2 b hb).2.2.2.2.2 p z
   ·rw[hm p z];exact λq=>lfp (q▸hb)⟩
 have pinL:∀{H':Hp} {s':Shared} {σ':St} {o:Obj},Inv (z05 X scope N cc) (X.pn++aa) σ' H' s'->s'.heap.get? l=some o->(∀v,o.data ≠ .cell v)->H' l=none->Inv (z05 X scope N cc) (X.pn++aa ++ [(l,o)]) σ' H' s':=λ{H' s' σ' o} I' e d hz =>
  I'.pins_of λp hp=>(y1y.mp hp).elim (λz=>I'.pin p (y05 _ z)) λz=>by
   have q:p=(l,o):=y0v.mp z;subst q;exact⟨e,hz,hlC,lfs,d⟩
 have loop:∀s₃:Shared,s₃ = { s2 with heap:=h₁,toks:=s2.toks+([]:List (Str×Value)).length } ->
   codeAny (model X.prog X.w) X.A (.compLoop (.ListComp elt [⟨tg,iter,ifs,0⟩] scope pos) 0 (.ref it) (.ref l) (compEnvC scope cl C X.env)) (compPost (model X.prog X.w) X.A X.xe use QQ (.ref l) C) s₃:=by
  rintro s₃ rfl;refine zbg (λm s'=>∃i ys H',Inv (z05 X scope N cc) (X.pn++aa) σ0 H' s'/\tn i s'.heap/\(∀b∈fp,H' b=none)/\W i m ys H'/\(∃its:List Value,Vals ys its/\s'.heap.PlainList l its.toArray)/\H' l=none) ?_ m0
   ⟨0,[],H2,I3,T.keep _ _ _ st2 λb hb o e=>old b o e,λb hb=>(f2 b hb).1,w0,⟨[],.nil,hacc⟩,by rw[←hl];exact I2.hok.fresh (y08 _)⟩
  rintro m s5 ⟨i,ys,H5,I5,st5,fr5,w5,⟨its,rv,n5,hpl⟩,hl5⟩;have I5':=pinL I5 hpl (λv z=>by cases z) hl5
  have f5:=stat (more:=[(l,({ cls:=.type "list",data:=.seq its.toArray n5 }:Obj))]) fr5 (λp hp=>congrArg Prod.fst (y0v.mp hp));rcases turn i m ys H5 w5 with ⟨stop,hz,q⟩ | ⟨go,hz,step⟩
  ·refine thn (T.done (z05 X scope N cc) rfl rfl rfl aH i _ s5 σ0 H5 NoE I5' f5 st5 stop) λr s6 hq=>?_;obtain⟨rfl,I6⟩:=hq;have e6:s6.heap.get? l=some ({ cls:=.type "list",data:=.seq its.toArray n5 }:Obj):=(I6.pin (l,({ cls:=.type "list",data:=.seq its.toArray n5 }:Obj)) (y05 _ (y05 _ (y0v.mpr rfl)))).1;obtain⟨mC,hnC,_⟩:=I6.loc;have IA:Inv X aa σ H5 s6:=I2.call' (ch:=fp) I6.os I6.base I6.hok I6.bare λb hb=>⟨(f2 b hb).2.2.2.1,(f2 b hb).2.1,(f2 b hb).2.2.2.2.1,(f2 b hb).2.2.2.2.2⟩
   have cl':∀x c,X.env.cells.lookup x=some c->c≠l:=λx c e=>by
    obtain⟨v,z⟩:=I2.cell x c e;rw[←hl];exact y06 z.lt
   have IB:Inv X aa σ (upd H5 l (.lst ys)) s6:=zex IA hl5 (by rw[←hl];exact I2.sz) (by rw[←hl];exact y1j I2.lt) cl' lpin ⟨hz,its,n5,rv,e6⟩
   obtain⟨oC,eC,nC⟩:=LCg.ns_obj hnC;refine hend s6 _ l C oC mC IB (q l hl5) eC nC (I2.fpOk hCl ?_);rw[z04 (Ne.symm hlC)];exact I6.free
  ·refine thn (T.item (z05 X scope N cc) rfl rfl rfl aH i _ s5 σ0 H5 NoE I5' f5 st5 go) λr s6 hq=>?_;obtain⟨u,rfl,hq⟩:=hq;refine thn hq λ_ s7 hq7=>?_;obtain⟨x,H7,I7,r7,y7,st7,fr7⟩:=hq7;have I7':=I7.pinned (stat (more:=[(l,({ cls:=.type "list",data:=.seq its.toArray n5 }:Obj))]) fr7 (λp hp=>congrArg Prod.fst (y0v.mp hp))) (T.obj _ _ st7);refine thn (hg cc _ s7 σ0 H7 x u _ I7' r7 (hgk x σ0 H7 _ (step x H7 y7))) λ_ s8 hq8=>?_;obtain⟨σ8,H8,I8,k8,q8⟩:=hq8;have back:∀{H':Hp} {s':Shared},Inv (z05 X scope N cc) (X.pn++aa ++ [(l,({ cls:=.type "list",data:=.seq its.toArray n5 }:Obj))]++z6m fp s7.heap) σ8 H' s'->Inv (z05 X scope N cc) (X.pn++aa) σ0 H' s'/\tn (i+1) s'.heap/\(∀b∈fp,H' b=none)/\s'.heap.get? l=some ({ cls:=.type "list",data:=.seq its.toArray n5 }:Obj)/\H' l=none:=λ{H' s'} I'=>by
    have pf:∀b∈fp,∀o,s7.heap.get? b=some o->s'.heap.get? b=some o/\H' b=none:=λb hb o e =>
     let z:=I'.pin (b,o) (y05 _ (y05 _ (z32 hb e)))
     ⟨z.1,z.2.1⟩
    have pl:=I'.pin (l,({ cls:=.type "list",data:=.seq its.toArray n5 }:Obj)) (y05 _ (y03 _ (y05 _ (y0v.mpr rfl))));refine⟨(I'.unpinned.unpinned).weak ?_ ?_,T.keep _ _ _ st7 λb hb o e=>(pf b hb o e).1,λb hb=>?_,pl.1,pl.2.1⟩
    ·rw[I3.len,I'.len]
    ·intro j v ej;have hj:n≤j:=by
      rcases y3m j n with z | z
      ·have ej':(y0b n none++fr.map (sg σ))[j]?=some (some v):=ej;rw[y0x (by simpa using z),y27,if_pos z] at ej'
       cases ej'
      ·exact z
     rw[k8 j hj];exact ej
    ·obtain⟨o,e,_⟩:=T.obj _ _ st7 b hb;exact(pf b hb o e).2
   refine thn (ht cc _ s8 σ8 H8 _ I8 q8) λok s9 hq9=>?_;obtain⟨H9,I9,q9⟩:=hq9;cases ok with
   | false =>
    obtain⟨m',hm,w9⟩:=q9;obtain⟨b1,b2,b3,b4,b5⟩:=back I9;exact⟨m',hm,i+1,ys,H9,b1,b2,b3,w9,⟨its,rv,n5,b4⟩,b5⟩
   | true =>
    refine thn (he cc _ s9 σ8 H9 _ I9 q9) λy sA hqA=>?_;obtain⟨yv,HA',IA,rA,m',hm,wA⟩:=hqA;obtain⟨b1,b2,b3,b4,b5⟩:=back IA;refine wpAny_list_append_plain (items:=its.toArray) ⟨n5,b4⟩ (λh' hp' hsb=>?_) (by have:=rv.length;rw[y07];omega)
    refine⟨m',hm,i+1,ys ++ [yv],HA',b1.turned (t':=sA.toks) (it:=l) (λb o hb e=>hsb.extBut b o hb e) b5 hlC (.inr hll) lcell (λp hp=>lpin p (by simpa [z05] using hp)),?_,b3,wA,⟨its ++ [y],rv.append (.cons rA .nil),by simpa using hp'⟩,b5⟩
    exact T.keep _ _ _ b2 λb hb o e=>hsb.extBut b o (λz=>lfp (z▸hb)) e
 exact codeAny_compStart_list (loop _ rfl) (T.self _ 0 _ _ _ (T.keep _ _ _ st2 λb hb o e=>old b o e) (loop _ rfl))
theorem z9l {elt tg iter:Expr}{ifs:List Expr}{scope:Scope}{pos:Pos}{N:List Str}{fr:List Nat}{wi:TI}{g:TG}{tt:TT}{te:TE}(n:Nat)
  (hi:PI X tg iter wi) (hg:∀c:CC,PG (z05 X scope N c) tg g) (hgk:GOk n g)
  (ht:∀(c:CC) (aa:List (Addr×Obj)) (s:Shared) (σ:St) (H:Hp) (Q:Bool->Hp->Prop),Inv (z05 X scope N c) aa σ H s->tt σ H Q ->
   wpAny (model X.prog X.w) X.A (forIn ifs true λc' r=>if r=true then do let ok ←isTrue c' (compEnvC scope c.cl c.C X.env) (eval c' (compEnvC scope c.cl c.C X.env));pure (ForInStep.yield ok) else pure (ForInStep.yield r)) (TP (z05 X scope N c) aa σ Q) NoE s)
  (he:∀c:CC,PE (z05 X scope N c) elt te) (hn:N.length=n+fr.length)
  (hfr:fr.map (λi=>X.N[i]?)=(N.drop n).map some) (hsc:∀x∈N.drop n,scope.names.lookup x=some .free)
  (hF:FreeIn X.env ((scope.names.filter λy=>y.2 == .free).map (·.1)))
  (ay:scope.kind = .function) (aC:∀y∈scope.names,y.2 ≠ .cell) (aD:∀y∈scope.names,y.2 = .local->scope.names.lookup y.1=some .local) (aH:X.calm=true)
  (hs:∀x,foldedSetIterable iter X.env x=pure x):PE X (.ListComp elt [⟨tg,iter,ifs,0⟩] scope pos) (z7g wi n fr g tt te):=by
 intro aa s σ H Q I h;rw[eval_ListComp];refine z75 (use:=none) n I h (λs6 H6 l C oC mC I6 q eC nC fC=>?_) hi hg hgk ht he hn hfr hsc hF ay aC aD aH hs;refine⟨mC,nC.ns eC,λh' hsb=>⟨.ref l,H6,?_,rfl,q⟩⟩;exact I6.turned (t':=s6.toks) (it:=C) (λb o hb e=>hsb.extBut b o hb e) fC.1 fC.2.1 fC.2.2.2.1 fC.2.2.2.2.1 fC.2.2.2.2.2
theorem z95 {elt tg iter:Expr}{ifs:List Expr}{scope:Scope}{pos aR py:Pos}{y:Str}{i:Nat}{N:List Str}{fr:List Nat}{wi:TI}{g:TG}{tt:TT}{te:TE}(n:Nat)
  (hN:X.N.Nodup) (hy:X.N[i]?=some y) (hly:X.env.scope.names.lookup y=some .local) (hsw:swapsWith (.ListComp elt [⟨tg,iter,ifs,0⟩] scope pos) (some (.Name y py)) aR.line X.env=pure true)
  (hi:PI X tg iter wi) (hg:∀c:CC,PG (z05 X scope N c) tg g) (hgk:GOk n g)
  (ht:∀(c:CC) (aa:List (Addr×Obj)) (s:Shared) (σ:St) (H:Hp) (Q:Bool->Hp->Prop),Inv (z05 X scope N c) aa σ H s->tt σ H Q ->
   wpAny (model X.prog X.w) X.A (forIn ifs true λc' r=>if r=true then do let ok ←isTrue c' (compEnvC scope c.cl c.C X.env) (eval c' (compEnvC scope c.cl c.C X.env));pure (ForInStep.yield ok) else pure (ForInStep.yield r)) (TP (z05 X scope N c) aa σ Q) NoE s)
  (he:∀c:CC,PE (z05 X scope N c) elt te) (hn:N.length=n+fr.length)
  (hfr:fr.map (λi=>X.N[i]?)=(N.drop n).map some) (hsc:∀x∈N.drop n,scope.names.lookup x=some .free)
  (hF:FreeIn X.env ((scope.names.filter λy=>y.2 == .free).map (·.1)))
  (ay:scope.kind = .function) (aC:∀y∈scope.names,y.2 ≠ .cell) (aD:∀y∈scope.names,y.2 = .local->scope.names.lookup y.1=some .local) (aH:X.calm=true)
  (hs:∀x,foldedSetIterable iter X.env x=pure x):PS X (.Assign [.Name y py] (.ListComp elt [⟨tg,iter,ifs,0⟩] scope pos) aR) (zi7 (z7g wi n fr g tt te) (z1m i)):=by
 intro aa s σ H D I h;rw[exec_Assign_Name_used _ _ _ _ hsw];refine wpAny_bind (wpAny_standAt (wpAny_bind ?_));show wpAny _ X.A (do let _ ←comprehension (.ListComp elt [⟨tg,iter,ifs,0⟩] scope pos) scope X.env _ (newList []) false (eval iter X.env) (some (assign (.Name y py) X.env))) _ _ s
 refine wpAny_bind (thn (z75 (QQ:=λ_ s'=>SP X aa D .next s') (use:=some (assign (.Name y py) X.env)) n I h (λs6 H6 l C oC mC I6 q eC nC fC=>?_) hi hg hgk ht he hn hfr hsc hF ay aC aD aH hs) λ_ s' hq=>wpAny_pure (wpAny_pure hq))
 show wpAny _ X.A (assign (.Name y py) X.env (.ref l)) _ _ s6;have dC:∀v,oC.data ≠ .cell v:=λv z=>by
  obtain⟨es,ep,hd,_⟩:=nC;rw[hd] at z;cases z
 have I7:Inv X (aa ++ [(C,oC)]) σ H6 s6:=I6.pins_of λp hp=>(y1y.mp hp).elim (λz=>I6.pin p (y05 _ z)) λz=>by
  have e:p=(C,oC):=y0v.mp z;subst e;exact⟨eC,fC.1,fC.2.1,fC.2.2.1,dC⟩
 refine wpAny_assign_Name (z3j I7 hN hy (.inl hly) (v:=.ref l) rfl (λs7 I8=>?_) (.inr hly));have e8:s7.heap.get? C=some oC:=(I8.pin (C,oC) (y05 _ (y05 _ (y0v.mpr rfl)))).1;refine⟨mC,nC.ns e8,λh' hsb=>⟨_,H6,?_,q⟩⟩;exact I8.unpinned.turned (t':=s7.toks) (it:=C) (λb o hb e=>hsb.extBut b o hb e) fC.1 fC.2.1 fC.2.2.2.1 fC.2.2.2.2.1 fC.2.2.2.2.2
def zvc:TT:=λ_ H Q=>Q true H
theorem ziy {elt tg iter:Expr}{scope:Scope}{pos:Pos}{N:List Str}{fr:List Nat}{wi:TI}{g:TG}{te:TE}(n:Nat)
  (hi:PI X tg iter wi) (hg:∀c:CC,N.Nodup->PG (z05 X scope N c) tg g) (he:∀c:CC,N.Nodup->PE (z05 X scope N c) elt te)
  (hN:N.Nodup:=by decide +kernel) (hgk:GOk n g:=by first | exact z0u (by decide) | exact z1r (by decide) (by decide) | exact z53 (by decide) (by decide) (by decide)) (hn:N.length=n+fr.length:=by rfl)
  (hfr:fr.map (λi=>X.N[i]?)=(N.drop n).map some:=by rfl) (hsc:∀x∈N.drop n,scope.names.lookup x=some .free:=by decide +kernel)
  (hF:FreeIn X.env ((scope.names.filter λy=>y.2 == .free).map (·.1)):=by repeat (first | exact True.intro | refine y3e (y4u rfl) ?_ | refine y3e (y45 rfl) ?_))
  (ay:scope.kind = .function:=by rfl) (aC:∀y∈scope.names,y.2 ≠ .cell:=by decide +kernel) (aD:∀y∈scope.names,y.2 = .local->scope.names.lookup y.1=some .local:=by decide +kernel) (aH:X.calm=true:=by rfl)
  (hs:∀x,foldedSetIterable iter X.env x=pure x:=by intro _;rfl):PE X (.ListComp elt [⟨tg,iter,[],0⟩] scope pos) (z7g wi n fr g zvc te) :=
 z9l n hi (λc=>hg c hN) hgk (λc aa s σ H Q I q=>wpAny_tests_nil ⟨H,I,q⟩) (λc=>he c hN) hn hfr hsc hF ay aC aD aH hs
theorem zd4 {elt tg iter c:Expr}{scope:Scope}{pos:Pos}{N:List Str}{fr:List Nat}{wi:TI}{g:TG}{tt:TT}{te:TE}(n:Nat)
  (hi:PI X tg iter wi) (hg:∀c:CC,N.Nodup->PG (z05 X scope N c) tg g) (ht:∀cc:CC,N.Nodup->PT (z05 X scope N cc) c tt) (he:∀c:CC,N.Nodup->PE (z05 X scope N c) elt te)
  (hN:N.Nodup:=by decide +kernel) (hgk:GOk n g:=by first | exact z0u (by decide) | exact z1r (by decide) (by decide) | exact z53 (by decide) (by decide) (by decide)) (hn:N.length=n+fr.length:=by rfl)
  (hfr:fr.map (λi=>X.N[i]?)=(N.drop n).map some:=by rfl) (hsc:∀x∈N.drop n,scope.names.lookup x=some .free:=by decide +kernel)
  (hF:FreeIn X.env ((scope.names.filter λy=>y.2 == .free).map (·.1)):=by repeat (first | exact True.intro | refine y3e (y4u rfl) ?_ | refine y3e (y45 rfl) ?_))
  (ay:scope.kind = .function:=by rfl) (aC:∀y∈scope.names,y.2 ≠ .cell:=by decide +kernel) (aD:∀y∈scope.names,y.2 = .local->scope.names.lookup y.1=some .local:=by decide +kernel) (aH:X.calm=true:=by rfl)
  (hs:∀x,foldedSetIterable iter X.env x=pure x:=by intro _;rfl):PE X (.ListComp elt [⟨tg,iter,[c],0⟩] scope pos) (z7g wi n fr g tt te) :=
 z9l n hi (λc=>hg c hN) hgk (λcc aa s σ H Q I q=>wpAny_tests_one (ht cc hN aa s σ H Q I q)) (λc=>he c hN) hn hfr hsc hF ay aC aD aH hs
theorem zj5 (i:Nat){elt tg iter:Expr}{scope:Scope}{pos aR py:Pos}{y:Str}{N:List Str}{fr:List Nat}{wi:TI}{g:TG}{te:TE}(n:Nat)(hNX:X.N.Nodup)
  (hi:PI X tg iter wi) (hg:∀c:CC,N.Nodup->PG (z05 X scope N c) tg g) (he:∀c:CC,N.Nodup->PE (z05 X scope N c) elt te)
  (hN:N.Nodup:=by decide +kernel) (hgk:GOk n g:=by first | exact z0u (by decide) | exact z1r (by decide) (by decide) | exact z53 (by decide) (by decide) (by decide)) (hn:N.length=n+fr.length:=by rfl)
  (hfr:fr.map (λi=>X.N[i]?)=(N.drop n).map some:=by rfl) (hsc:∀x∈N.drop n,scope.names.lookup x=some .free:=by decide +kernel)
  (hF:FreeIn X.env ((scope.names.filter λy=>y.2 == .free).map (·.1)):=by repeat (first | exact True.intro | refine y3e (y4u rfl) ?_ | refine y3e (y45 rfl) ?_))
  (ay:scope.kind = .function:=by rfl) (aC:∀y∈scope.names,y.2 ≠ .cell:=by decide +kernel) (aD:∀y∈scope.names,y.2 = .local->scope.names.lookup y.1=some .local:=by decide +kernel) (aH:X.calm=true:=by rfl)
  (hs:∀x,foldedSetIterable iter X.env x=pure x:=by intro _;rfl) (hy:X.N[i]?=some y:=by rfl) (hly:X.env.scope.names.lookup y=some .local:=by rfl) (hsw:swapsWith (.ListComp elt [⟨tg,iter,[],0⟩] scope pos) (some (.Name y py)) aR.line X.env=pure true:=by rfl):PS X (.Assign [.Name y py] (.ListComp elt [⟨tg,iter,[],0⟩] scope pos) aR) (zi7 (z7g wi n fr g zvc te) (z1m i)) :=
 z95 n hNX hy hly hsw hi (λc=>hg c hN) hgk (λc aa s σ H Q I q=>wpAny_tests_nil ⟨H,I,q⟩) (λc=>he c hN) hn hfr hsc hF ay aC aD aH hs
theorem zc5 (i:Nat){elt tg iter c:Expr}{scope:Scope}{pos aR py:Pos}{y:Str}{N:List Str}{fr:List Nat}{wi:TI}{g:TG}{tt:TT}{te:TE}(n:Nat)(hNX:X.N.Nodup)
  (hi:PI X tg iter wi) (hg:∀c:CC,N.Nodup->PG (z05 X scope N c) tg g) (ht:∀cc:CC,N.Nodup->PT (z05 X scope N cc) c tt) (he:∀c:CC,N.Nodup->PE (z05 X scope N c) elt te)
  (hN:N.Nodup:=by decide +kernel) (hgk:GOk n g:=by first | exact z0u (by decide) | exact z1r (by decide) (by decide) | exact z53 (by decide) (by decide) (by decide)) (hn:N.length=n+fr.length:=by rfl)
  (hfr:fr.map (λi=>X.N[i]?)=(N.drop n).map some:=by rfl) (hsc:∀x∈N.drop n,scope.names.lookup x=some .free:=by decide +kernel)
  (hF:FreeIn X.env ((scope.names.filter λy=>y.2 == .free).map (·.1)):=by repeat (first | exact True.intro | refine y3e (y4u rfl) ?_ | refine y3e (y45 rfl) ?_))
  (ay:scope.kind = .function:=by rfl) (aC:∀y∈scope.names,y.2 ≠ .cell:=by decide +kernel) (aD:∀y∈scope.names,y.2 = .local->scope.names.lookup y.1=some .local:=by decide +kernel) (aH:X.calm=true:=by rfl)
  (hs:∀x,foldedSetIterable iter X.env x=pure x:=by intro _;rfl) (hy:X.N[i]?=some y:=by rfl) (hly:X.env.scope.names.lookup y=some .local:=by rfl) (hsw:swapsWith (.ListComp elt [⟨tg,iter,[c],0⟩] scope pos) (some (.Name y py)) aR.line X.env=pure true:=by rfl):PS X (.Assign [.Name y py] (.ListComp elt [⟨tg,iter,[c],0⟩] scope pos) aR) (zi7 (z7g wi n fr g tt te) (z1m i)) :=
 z95 n hNX hy hly hsw hi (λc=>hg c hN) hgk (λcc aa s σ H Q I q=>wpAny_tests_one (ht cc hN aa s σ H Q I q)) (λc=>he c hN) hn hfr hsc hF ay aC aD aH hs
end
end L2.EX
namespace L2.EX
open PySem PySem.Spec PyProof.Rows
section
variable {X:Cx}{aa:List (Addr×Obj)}{σ:St}{H:Hp}{s:Shared}{h':Heap}
theorem z1q {t':Nat}{ch:List Addr}(I:Inv X aa σ H s)(k:∀b o,b ∉ ch->s.heap.get? b=some o->h'.get? b=some o)(hf:∀b∈ch,zcb X aa H b):Inv X aa σ H { s with heap:=h',toks:=t' }:=by
 have nit:∀b u,H b=some u->b ∉ ch:=λb u e z=>by rw[(hf b z).1] at e;cases e
 refine I.step (g':=s.gens) (d':=s.drawn) (ch:=ch) (λb hb=>⟨(hf b hb).2.2.2.1,(hf b hb).2.1,(hf b hb).2.2.2.2.1,(hf b hb).2.2.2.2.2⟩) (λb o _ _ hc e _=>k b o hc e) (λb o _ _ hc e _=>⟨o.slots,k b o hc e⟩) (λ_ _ _ _ n=>n)
  (λb o hc e=>⟨o,k b o hc e⟩) (λ_ _ e=>e) (λ_ _ _ e=>e) (λb ps e=>⟨#[],by rw[e];simp⟩) (λm hm=>?_) (λb u e=>?_) I.bare
 ·obtain⟨o,es,ep,ho,r⟩:=hm;exact⟨o,es,ep,k _ o (λz=>(hf _ z).2.1 rfl) ho,r⟩
 ·refine(I.hok b u e).stay (λc v hc q=>k c v ?_ q) (λ_ q=>q) λ_ _ q=>q;rcases hc with z | z
  ·rw[z];exact nit b u e
  ·exact nit c _ z
theorem z2u {t':Nat}{ch:List Addr}{T:Addr}{xs:List V}{us:List Value}(I:Inv X aa σ H s)(k:∀b o,b ∉ ch->s.heap.get? b=some o->h'.get? b=some o)(hf:∀b∈ch,zcb X aa H b)(hT:s.heap.objs.size≤T)
  (r:Vals xs us) (hz:xs.length≤sizeLine) (e:IsTup h' T us.toArray):Inv X aa σ (upd H T (.tup xs)) { s with heap:=h',toks:=t' } :=
 zex (z1q I k hf) (I.hok.fresh hT) (y0j I.sz hT) (y1j (y04 I.lt hT)) (λx c e z=>by
  obtain⟨v,q⟩:=I.cell x c e;exact absurd (y04 q.lt (by rw[z];exact hT)) (y1c _)) (λp hp z=>absurd (y04 (Heap.lt_size (I.pin p hp).1) (by rw[z];exact hT)) (y1c _)) ⟨hz,us,r,e⟩
end
def Ite (K:y00)(a:Addr):It :=
 ⟨λi H=>∃xs x,SqL K H a xs/\xs[i]?=some x,λi H x H'=>∃p v,H p=none/\x = .ref p/\H'=upd H p (.tup [.int i,v])/\∀xs,SqL K H a xs->xs[i]?=some v,λi H=>∃xs,SqL K H a xs/\xs.length≤i⟩
theorem zn6:2≤sizeLine:=by decide
theorem zbj {P:Program}{w:World}{K:y00}{aQ:List Expr}{kt:Nat}{tp:Pos}(a e it:Addr)(hne:e≠it):Turn P w K (.Tuple aQ kt tp) (Ite K a) [e,it] e (λi h=>(∃old,IsEnum h e it i old)/\h.IsListIter it a i) where
 mem:=by simp
 obj:=λi h st b hb=>by
  obtain⟨⟨old,he⟩,o,e1,c,d⟩:=st;rcases y0a.mp hb with rfl | hb
  ·exact⟨_,he,λv z=>by cases z⟩
  ·have e':b=it:=by simpa using hb
   subst e';exact⟨o,e1,λv z=>by rw[d] at z;cases z⟩
 keep:=λi h h' st k=>by
  obtain⟨⟨old,he⟩,hit⟩:=st;exact⟨⟨old,k e (by simp) _ he⟩,hit.at λo x=>k it (by simp) o x⟩
 item:=by
  intro X hP hw hK hc i aa s σ H E I hf st hg;subst hP hw hK;obtain⟨xs,x,hq,hx⟩:=hg;obtain⟨⟨old,he⟩,hit⟩:=st;obtain⟨its,rv,p,hz⟩:=I.list hq;obtain⟨u,hu,ru⟩:=rv.get hx;refine wpAny_pyNext_enum_item he hit p.isList (x:=u) (by simpa using hu) hne λh1 ho hit1 hT hsz hk=>⟨_,rfl,?_⟩
  refine wpAny_letOwnedTupleGo_enum ho λh2 he2 hs2=>?_;have hTe:s.heap.objs.size≠e:=y1j (Heap.lt_size he);have kk:∀b o,b ∉ [e,it]->s.heap.get? b=some o->h2.get? b=some o:=λb o hb eo =>
   hs2.extBut b o (λz=>hb (by simp[z])) (hk b o (λz=>hb (by simp[z])) (λz=>hb (by simp[z])) eo)
  have I2:=z2u (t':=s.toks+1) (h':=h2) I kk (λb hb=>hf b hb) (y08 _) (xs:=[.int i,x]) (us:=[.int i s.toks,u]) (.cons ⟨_,rfl⟩ (.cons ru .nil)) zn6 ⟨_,hs2.extBut _ _ hTe hT,rfl,_,rfl⟩;refine⟨.ref s.heap.objs.size,_,I2,rfl,⟨s.heap.objs.size,x,I.hok.fresh (y08 _),rfl,rfl,λys hy=>by rw[I.list_inj hy hq];exact hx⟩,⟨⟨_,by simpa using he2⟩,hit1.at λo x=>(hs2.2 it hne.symm).trans x⟩,λb hb=>?_⟩
  have hbl:b≠s.heap.objs.size:=by
   rcases y0a.mp hb with rfl | hb
   ·exact y06 (Heap.lt_size he)
   ·have e':b=it:=by simpa using hb
    subst e';obtain⟨o,e1,_⟩:=hit;exact y06 (Heap.lt_size e1)
  rw[z04 hbl];exact(hf b hb).1
 done:=by
  intro X hP hw hK hc i aa s σ H E I hf st hg;subst hP hw hK;obtain⟨xs,hq,hx⟩:=hg;obtain⟨⟨old,he⟩,hit⟩:=st;obtain⟨its,rv,p,hz⟩:=I.list hq;have hl:=rv.length;exact wpAny_pyNext_enum_end (I.ok.hd hc) he hit p.isList (by simp;omega) λh1 hb=>⟨rfl,z1q (t':=s.toks) I (λb o hb' eo=>hb b o (λz=>hb' (by simp[z])) eo) λb hb'=>hf b hb'⟩
 self:=λ_ _ _ _ _ st h=>by
  obtain⟨⟨old,he⟩,_⟩:=st;exact wpAny_pyIter_enum he h
section
variable {X:Cx}
def zmo (K:y00)(tl:TE)(σ:St)(H:Hp)(R:It->Hp->Prop):Prop:=tl σ H λx H1=>match x with
 | .ref a=>(∃xs,SqL K H1 a xs)/\R (Ite K a) H1
 | _=>False
theorem zju {l:Expr}{tl:TE}{aQ:List Expr}{kt:Nat}{tp p pos:Pos}(hm:X.mg "enumerate"=none)(hl:PE X l tl)(hg:Gl X "enumerate":=by rfl)(hs:starEach [l] X.env = [(false,eval l X.env)]:=by rfl) :
  PI X (.Tuple aQ kt tp) (.Call (.Name "enumerate" p) [l] [] pos) (zmo X.K tl):=by
 intro aa s σ H R I h;refine Call_ (z16 I hg hm z6t (y0f (thn ((z0l (z0f hl) z1w hs) pos aa s σ H (λvs H1=>∃x,vs = [x]/\(match x with
  | .ref a=>(∃xs,SqL X.K H1 a xs)/\R (Ite X.K a) H1
  | _=>False)) I ⟨_,h,λv H1 q=>⟨v,rfl,q⟩⟩) λus s1 h1=>?_) hs rfl))
 obtain⟨vs,H1,I1,r1,x,rfl,q1⟩:=h1;obtain⟨u,rfl,rx⟩:=z29 r1
 split at q1
 ·rename_i a;cases rx;obtain⟨⟨xs,hq⟩,q⟩:=q1;obtain⟨its,rv,pl,hz⟩:=I1.list hq;refine call_enumerate_list pl.isList λh1 he hit hsz hk=>wpAny_pyIter_enum he ?_;have ne:s1.heap.objs.size+1≠s1.heap.objs.size:=Nat.succ_ne_self _;refine⟨_,[s1.heap.objs.size+1,s1.heap.objs.size],_,_,H1,rfl,I1.kept (t':=s1.toks) hk,zbj a (s1.heap.objs.size+1) s1.heap.objs.size ne,⟨⟨_,he⟩,hit⟩,λb hb=>?_,q⟩;have hb':s1.heap.objs.size≤b:=by
   rcases y0a.mp hb with e | e
   ·rw[e];exact y3d _
   ·rw[y0v.mp e];exact y08 _
  exact I1.fpOk hb' (I1.hok.fresh hb')
 ·exact q1.elim
end
end L2.EX
namespace L2.EX
open PySem PySem.Spec PyProof.Rows
structure ClsF (K:y00)(C:Addr)(f:Str):Prop where
 cl:Cls K C
 no:NoAttr K C f
structure MDef (P:Program)(w:World)(K:y00)(mg:Str->Option Value)(base:Heap)(C:Addr)(m:Str)(k:Nat)(ps:List Str)(sp:Sp):Prop where
 is:∃(f:Addr) (fd:FuncData),FnOk P w K mg base CX0 k f fd ps sp/\Binds K fd ps []/\Meth K C m f
 cl:Cls K C
structure MTop (K:y00)(C:Addr)(m qual:Str)(st:Stmt)(ps:List Str):Prop where
 is:∃(f:Addr) (fd:FuncData),Fun K m qual st f fd/\Binds K fd ps []/\Meth K C m f
 cl:Cls K C
structure CDef (P:Program)(w:World)(K:y00)(mg:Str->Option Value)(base:Heap)(x:Str)(C:Addr)(k:Nat)(ps:List Str)(sp:Sp):Prop where
 is:∃(f:Addr) (fd:FuncData),FnOk P w K mg base CX0 k f fd ps sp/\Binds K fd ps []/\Mk K C f
 mg:mg x=some (.ref C)
section
variable {X:Cx}{C:Addr}{f m:Str}{e o value:Expr}{es:List Expr}{ta tv:TE}{t:TA}{pos au ah ac p:Pos}{k:Nat}{ps:List Str}{sp:Sp}{x:Str}
def zvw (C:Addr)(f:Str)(t:TE)(σ:St)(H:Hp)(Q:VK):Prop:=t σ H λx H1=>match x with
 | .ref a=>∃dx fs v,H1 a=some (.ins C dx fs)/\fs.lookup f=some v/\Q v H1
 | _=>False
theorem zmp (F:ClsF X.K C f)(he:PE X e ta)(hb:attributeBase e f X.env (eval e X.env)=eval e X.env:=by rfl):PE X (.Attribute e f pos) (zvw C f ta) :=
 z3c (zqb (z0f he) hb) fun σ H Q h=>⟨_,h,λx H1 q=>by
  split at q
  ·obtain⟨dx,fs,v,h1,h2,h3⟩:=q;exact⟨_,C,dx,fs,v,rfl,h1,F.cl,F.no,h2,h3⟩
  ·exact q.elim⟩
def zoa (C:Addr)(f:Str)(ta tv:TE)(D:Ends)(σ:St)(H:Hp):Prop:=tv σ H λy H1=>ta σ H1 λx H2=>match x with
 | .ref a=>∃dx fs,H2 a=some (.ins C dx fs)/\fs.length<1000/\D.nx σ (upd H2 a (.ins C dx (z4l f y fs)))
 | _=>False
theorem zq5 (F:ClsF X.K C f)(ha:PE X o ta)(hv:PE X value tv)(hs:swapsWith value (some (.Attribute o f au)) pos.line X.env=pure false:=by rfl):PS X (.Assign [.Attribute o f au] value pos) (zoa C f ta tv) :=
 zb4 (zny (z0f ha) (z0f hv) hs) λD σ H h=>⟨_,h,λy H1 q=>⟨_,q,λx H2 q2=>by
  split at q2
  ·obtain⟨dx,fs,h1,h2,h3⟩:=q2;exact⟨_,C,dx,fs,rfl,h1,F.cl,F.no,h2,h3⟩
  ·exact q2.elim⟩⟩
variable {P:Program}{w:World}{K:y00}{mg:Str->Option Value}{base:Heap}{N:List Str}{st:Stmt}{qual:Str}
@[reducible] def znb (o i v:V)(H:Hp)(Q:Hp->Prop):Prop:=match o,i with
 | .ref p,.int k=>∃xs j,H p=some (.lst xs)/\ixN xs.length k=some j/\Q (upd H p (.lst (xs.set j v)))
 | _,_=>False
theorem zhp:zrp X znb:=by
 intro aa s σ H o i v ov iv u Q I ro ri rv h;unfold znb at h
 split at h
 ·obtain⟨xs,j,h1,h2,h3⟩:=h;exact zfv aa s σ H _ _ v ov iv u Q I ro ri rv ⟨_,xs,_,j,rfl,rfl,h1,h2,h3⟩
 ·exact h.elim
def zv1 (o i:V)(H:Hp)(Q:VK):Prop:=match o,i with
 | .ref p,.int k=>∃xs v,H p=some (.lst xs)/\0≤k/\xs[k.toNat]?=some v/\Q v H
 | _,_=>False
theorem zlo:zvr X zv1:=by
 intro aa s σ H o i ov iv Q I ro ri h;unfold zv1 at h
 split at h
 ·rename_i p k;obtain⟨xs,v,h1,h2,h3,h4⟩:=h;cases ro;obtain⟨t,rfl⟩:=ri;obtain⟨its,r,pl,hz⟩:=I.list (SqL.of h1);obtain⟨w,ew,rw'⟩:=r.get h3;have hl:=r.length;have hn:=z58
  have hk:k.toNat<xs.length:=(y01.mp h3).1;exact wpAny_getItem_list pl.isList h2 (by omega) (by simpa using ew) ⟨v,H,I,rw',h4⟩
 ·exact h.elim
def z8v (x y:V)(H:Hp)(Q:VK):Prop:=match x,y with
 | .int i,.int j=>Q (.int (i+j)) H
 | _,_=>False
def z8p (x y:V)(H:Hp)(Q:VK):Prop:=match x,y with
 | .int i,.int j=>Q (.int (i - j)) H
 | _,_=>False
theorem zb9:PIp X .Add z8v:=by
 intro aa s σ H x y v u Q I r1 r2 h;unfold z8v at h
 split at h
 ·exact zlu aa s σ H _ _ v u Q I r1 r2 ⟨_,_,rfl,rfl,h⟩
 ·exact h.elim
theorem zd0:PIp X .Sub z8p:=by
 intro aa s σ H x y v u Q I r1 r2 h;unfold z8p at h
 split at h
 ·exact zlr aa s σ H _ _ v u Q I r1 r2 ⟨_,_,rfl,rfl,h⟩
 ·exact h.elim
def zwa (ta:TE)(t:TA)(σ:St)(H:Hp)(Q:VK):Prop:=ta σ H λx H1=>match x with
 | .ref l=>(∃xs,H1 l=some (.lst xs))/\t σ H1 λvs H2=>match vs with
  | [y]=>∃xs,H2 l=some (.lst xs)/\xs.length<sizeLine/\Q .non (upd H2 l (.lst (xs ++ [y])))
  | _=>False
 | _=>False
theorem z6x (ho:PE X o ta)(ha:PA X (e::es) t)(az:attributeBase o "append" X.env (eval o X.env)=eval o X.env:=by rfl)
  (hfew:((backTo ac (starEach (e::es) X.env)).all (λx=>!x.1)&&(backToKw ac (keywordEach [] X.env)).all (λx=>x.1.isSome)
  &&decide ((e::es).length+([]:List Keyword).length+(if ([]:List Keyword).isEmpty then 0 else 1)<30))=true:=by rfl)
  (ar:(ah.endLine==ac.line)=true:=by rfl) (hs:starEach (e::es) X.env=(false,eval e X.env)::starEach es X.env:=by rfl) (aO:(backTo ac (starEach es X.env)).any (·.1)=false:=by rfl) :
  PE X (.Call (.Attribute o "append" ah) (e::es) [] ac) (zwa ta t) :=
 z3c (ziv y1w PySem.F.slot_list_append PySem.F.type_list_append zcw (z0f ho) (z8h ha) az hfew ar hs aO) fun σ H Q h=>⟨_,h,λx H1 q=>by
  split at q
  ·obtain⟨⟨xs,h1⟩,h2⟩:=q;refine⟨.inl ⟨rfl,_,SqL.of h1⟩,_,h2,λvs H2 q2=>?_⟩
   split at q2
   ·obtain⟨ys,h3,h4,h5⟩:=q2;exact⟨_,ys,_,rfl,rfl,h3,h4,h5⟩
   ·exact q2.elim
  ·exact q.elim⟩
def zx8 (ta:TE)(σ:St)(H:Hp)(Q:VK):Prop:=ta σ H λx H1=>match x with
 | .ref l=>∃xs y,H1 l=some (.lst xs)/\xs[xs.length - 1]?=some y/\Q y (upd H1 l (.lst xs.dropLast))
 | _=>False
theorem zby (ho:PE X o ta)(az:attributeBase o "pop" X.env (eval o X.env)=eval o X.env:=by rfl)(ar:(ah.endLine==ac.line)=true:=by rfl):PE X (.Call (.Attribute o "pop" ah) [] [] ac) (zx8 ta) :=
 z3c (zhx y1w PySem.F.slot_list_pop PySem.F.type_list_pop zne (z0f ho) az ar) fun σ H Q h=>⟨_,h,λx H1 q=>by
  split at q
  ·obtain⟨xs,y,h1,h2,h3⟩:=q;exact⟨.inl ⟨rfl,_,SqL.of h1⟩,_,xs,y,rfl,rfl,h1,h2,h3⟩
  ·exact q.elim⟩
def zho (ta:TE)(σ:St)(H:Hp)(Q:VK):Prop:=ta σ H λx H1=>match x with
 | .ref l=>∃xs,H1 l=some (.lst xs)/\Q .non (upd H1 l (.lst []))
 | _=>False
theorem z84 (ho:PE X o ta)(az:attributeBase o "clear" X.env (eval o X.env)=eval o X.env:=by rfl)(ar:(ah.endLine==ac.line)=true:=by rfl):PE X (.Call (.Attribute o "clear" ah) [] [] ac) (zho ta) :=
 z3c (zhx y1w PySem.F.slot_list_clear PySem.F.type_list_clear zeu (z0f ho) az ar) fun σ H Q h=>⟨_,h,λx H1 q=>by
  split at q
  ·obtain⟨xs,h1,h2⟩:=q;exact⟨.inl ⟨rfl,_,SqL.of h1⟩,_,xs,rfl,rfl,h1,h2⟩
  ·exact q.elim⟩
end
end L2.EX
namespace L2.EX
open PySem PySem.Spec PyProof.Rows
theorem Same.tup {K:y00}{H H':Hp}{a:Addr}{xs:List V}(e:Same H H')(h:SqT K H a xs):SqT K H' a xs:=by
 rcases h with (h | ⟨o,h⟩) | h
 ·exact .inl (.inl (e _ _ h))
 ·exact .inl (.inr ⟨o,e _ _ h⟩)
 ·exact .inr h
theorem zel {H:Hp}{p:Addr}(h:H p=none)(o:HO):Same H (upd H p o):=λb u q=>by rw[z04 (z0i q h)];exact q
mutual
def Is (K:y00)(H:Hp):V->PyData->Prop
 | v,.none=>v = .non
 | v,.bool b=>v = .bl b
 | v,.int i=>v = .int i
 | v,.str x=>v = .str x
 | v,.list ds=>∃a xs,v = .ref a/\H a=some (.lst xs)/\IsAll K H xs ds
 | v,.tuple ds=>∃a xs,v = .ref a/\H a=some (.tup xs)/\IsAll K H xs ds
 | _,.dict _=>False
def IsAll (K:y00)(H:Hp):List V->List PyData->Prop
 | xs,[]=>xs = []
 | xs,d::ds=>∃v vs,xs=v::vs/\Is K H v d/\IsAll K H vs ds
end
mutual
theorem Is.same {K:y00}{H H':Hp}(s:Same H H'):∀(d:PyData) (v:V),Is K H v d->Is K H' v d
 | .none,v,h=>by simp only[Is] at h ⊢;exact h
 | .bool b,v,h=>by simp only[Is] at h ⊢;exact h
 | .int i,v,h=>by simp only[Is] at h ⊢;exact h
 | .str x,v,h=>by simp only[Is] at h ⊢;exact h
 | .list ds,v,h=>by
  simp only[Is] at h ⊢
  obtain⟨a,xs,e,q,r⟩:=h;exact⟨a,xs,e,s _ _ q,IsAll.same s ds xs r⟩
 | .tuple ds,v,h=>by
  simp only[Is] at h ⊢
  obtain⟨a,xs,e,q,r⟩:=h;exact⟨a,xs,e,s _ _ q,IsAll.same s ds xs r⟩
 | .dict _,v,h=>by simp only[Is] at h
theorem IsAll.same {K:y00}{H H':Hp}(s:Same H H'):∀(ds:List PyData) (xs:List V),IsAll K H xs ds->IsAll K H' xs ds
 | [],xs,h=>by simp only[IsAll] at h ⊢;exact h
 | d::ds,xs,h=>by
  simp only[IsAll] at h ⊢
  obtain⟨v,vs,e,q,r⟩:=h;exact⟨v,vs,e,Is.same s d v q,IsAll.same s ds vs r⟩
end
section
variable {X:Cx}{aa:List (Addr×Obj)}{σ:St}{H:Hp}{s:Shared}
mutual
theorem Is.reads (I:Inv X aa σ H s):∀(d:PyData) (v:V) (u:Value),Is X.K H v d->RelV v u->∃as,Reads s.heap u d as
 | .none,v,u,h,r=>by
  simp only[Is] at h;subst h;cases r;exact⟨_,.none⟩
 | .bool b,v,u,h,r=>by
  simp only[Is] at h;subst h;cases r;exact⟨_,.bool b⟩
 | .int i,v,u,h,r=>by
  simp only[Is] at h;subst h;obtain⟨t,rfl⟩:=r;exact⟨_,.int i t⟩
 | .str x,v,u,h,r=>by
  simp only[Is] at h;subst h;obtain⟨t,rfl⟩:=r;exact⟨_,.str x t⟩
 | .list ds,v,u,h,r=>by
  simp only[Is] at h;obtain⟨a,xs,rfl,q,al⟩:=h;cases r;obtain⟨its,rv,⟨o,n,e,c,_,hd⟩,_⟩:=I.list (SqL.of q);obtain⟨as,ra⟩:=IsAll.reads I ds xs its al rv;exact⟨_,.list e c hd (by simpa using ra)⟩
 | .tuple ds,v,u,h,r=>by
  simp only[Is] at h;obtain⟨a,xs,rfl,q,al⟩:=h;cases r;obtain⟨its,rv,⟨o,e,c,n,hd⟩,_⟩:=I.tuple (SqT.of q);obtain⟨as,ra⟩:=IsAll.reads I ds xs its al rv;exact⟨_,.tuple e c hd (by simpa using ra)⟩
 | .dict _,v,u,h,r=>by simp only[Is] at h
theorem IsAll.reads (I:Inv X aa σ H s):∀(ds:List PyData) (xs:List V) (us:List Value),IsAll X.K H xs ds->Vals xs us->∃as,ReadsAll s.heap us ds as
 | [],xs,us,h,r=>by
  simp only[IsAll] at h;subst h;cases r;exact⟨_,.nil⟩
 | d::ds,xs,us,h,r=>by
  simp only[IsAll] at h;obtain⟨v,vs,rfl,q,al⟩:=h;cases r with
  | cons r1 r2 =>
   obtain⟨as,ra⟩:=Is.reads I d v _ q r1;obtain⟨bs,rb⟩:=IsAll.reads I ds vs _ al r2;exact⟨_,.cons ra rb⟩
end
end
theorem z98 {K:y00}{H:Hp}:∀{ds:List PyData} {xs:List V} {i:Nat} {x:V},IsAll K H xs ds->xs[i]?=some x->∃d,ds[i]?=some d/\Is K H x d
 | [],xs,i,x,h,e=>by simp only[IsAll] at h;subst h;simp at e
 | d::ds,xs,i,x,h,e=>by
  simp only[IsAll] at h;obtain⟨v,vs,rfl,q,al⟩:=h;cases i with
  | zero=>simp at e;subst e;exact⟨d,rfl,q⟩
  | succ i =>
   obtain⟨d',h1,h2⟩:=z98 (i:=i) al (by simpa using e)
   exact⟨d',by simpa using h1,h2⟩
theorem zch {K:y00}{H:Hp}:IsAll K H [] []:=by simp only[IsAll]
theorem za9 {K:y00}{H:Hp}{v:V}{vs:List V}{d:PyData}{ds:List PyData}(h:Is K H v d)(g:IsAll K H vs ds):IsAll K H (v::vs) (d::ds):=by
 simp only[IsAll];exact⟨v,vs,rfl,h,g⟩
theorem z52 {K:y00}{H:Hp}:∀(ns:List Int),IsAll K H (ns.map V.int) (ns.map PyData.int)
 | []=>zch
 | n::ns=>za9 (by simp only[Is]) (z52 ns)
theorem is_int {K:y00}{H:Hp}{v:V}{i:Int}:Is K H v (.int i)↔v = .int i:=by simp only[Is]
def zmj (n d:Int):PyData:=.tuple [.int n,.int d]
def Sh (n:Nat)(d:PyData):Prop:=d.canLay0=true/\d.depth≤n
theorem z9u {n:Nat}(i:Int):Sh n (.int i):=⟨by simp only[PyData.canLay0],by simp only[PyData.depth];omega⟩
theorem zk6 {n:Nat}(i:Bool):Sh n (.bool i):=⟨by simp only[PyData.canLay0],by simp only[PyData.depth];omega⟩
theorem z8m {n:Nat}{ds:List PyData}(h:∀d∈ds,Sh n d):PyData.canLayAll0 ds=true/\PyData.depthAll ds≤n:=by
 induction ds with
 | nil=>exact⟨by simp only[PyData.canLayAll0],by simp only[PyData.depthAll];omega⟩
 | cons d ds ih =>
  obtain⟨h1,h2⟩:=h d y0p;obtain⟨h3,h4⟩:=ih λx hx=>h x (y0c _ hx);refine⟨by simp only[PyData.canLayAll0,h1,h3,Bool.and_self],?_⟩
  simp only[PyData.depthAll];omega
theorem zjz {n:Nat}{ds:List PyData}(h:∀d∈ds,Sh n d):Sh (n+1) (.list ds):=⟨by simp only[PyData.canLay0];exact(z8m h).1,by simp only[PyData.depth];have:=(z8m h).2;omega⟩
theorem zed {n:Nat}{ds:List PyData}(h:∀d∈ds,Sh n d):Sh (n+1) (.tuple ds):=⟨by simp only[PyData.canLay0];exact(z8m h).1,by simp only[PyData.depth];have:=(z8m h).2;omega⟩
theorem Sh.shaped {d:PyData}(h:Sh 60 d):y57 d=true:=by
 unfold y57;rw[h.1,decide_eq_true (y0j h.2 (by decide))]
 rfl
theorem zfe {d:PyData}(h:Sh 60 d):PyData.eqv d d=true:=PySem.SeqAt.eqv_refl d h.1
theorem zfp (a b c d:Int):PyData.eqv (zmj a b) (zmj c d)=(decide (a=c)&&decide (b=d)):=by
 unfold zmj;simp only[PyData.eqv,PyData.eqvAll];rw[y0d];simp
section
variable {X:Cx}
theorem zry {k:Nat}{A:Around}(hr:Room k A):A.units+64<cLine:=by have:=hr.un;omega
def z83 (c:TT)(tb:TS)(D:Ends)(σ:St)(H:Hp):Prop:=∃W:Nat->St->Hp->Prop,(∃m,W m σ H)/\∀m σ H,W m σ H ->
 c σ H λb H1=>if b=true then tb { D with nx:=fun σ' H'=>∃m',m'<m/\W m' σ' H',ct:=fun σ' H'=>∃m',m'<m/\W m' σ' H',bk:=D.nx } σ H1 else D.nx σ H1
theorem zbd {c:Expr}{body:List Stmt}{tc:TT}{tb:TS}{pos:Pos}(hc:PT X c tc)(hb:PSs X body tb)(hp:PassesOwn (model X.prog X.w) X.A X.env X.xe:=by exact PassesOwn.never):PS X (.While c body [] pos) (z83 tc tb):=by
 intro aa s σ H D I h;obtain⟨W,⟨m0,w0⟩,turn⟩:=h;refine wpAny_While (codeAny_whileLoop (λn s'=>∃ σ' H',Inv X aa σ' H' s'/\W n σ' H') ?_ m0 ⟨σ,H,I,w0⟩);rintro n s1 ⟨σ1,H1,I1,w1⟩;refine wpAny_passesOwn hp (thn (hc aa s1 σ1 H1 _ I1 (turn n σ1 H1 w1)) λb s2 h2=>?_);obtain⟨H2,I2,q2⟩:=h2;cases b with
 | true =>
  rw[if_pos rfl] at q2 ⊢
  refine wpAny_passesOwn hp (thn (hb aa s2 σ1 H2 _ I2 q2) λf s3 q3=>?_);cases f with
  | next =>
   obtain⟨σ3,H3,I3,m',l3,n3⟩:=q3;exact⟨m',l3,σ3,H3,I3,n3⟩
  | cont =>
   obtain⟨σ3,H3,I3,m',l3,n3⟩:=q3;exact⟨m',l3,σ3,H3,I3,n3⟩
  | brk=>exact q3
  | ret v=>exact q3
 | false =>
  rw[if_neg y0t] at q2 ⊢
  exact wpAny_execs_nil ⟨σ1,H2,I2,q2⟩
end
end L2.EX
set_option Elab.async false
set_option linter.all false
set_option maxRecDepth 100000
namespace L2.EX
open PySem PySem.Spec PyProof.Rows
section
variable {X:Cx}
theorem z8k {A:Around}(h:A.handled=none):A.in1.handled=none:=h
theorem z97 {aa:List (Addr×Obj)}{σ:St}{H:Hp}{s:Shared}(I:Inv X aa σ H s){o:Obj}{h':Heap}{tk:Nat}(hk:∀b ob,b ∉ [s.heap.objs.size]->(s.heap.push o).get? b=some ob->h'.get? b=some ob):Inv X aa σ H { s with heap:=h',toks:=tk } :=
 I.kept (t':=tk) λb ob e=>hk b ob (by
  intro z;have e1:b=s.heap.objs.size:=y0v.mp z;have e2:=Heap.lt_size e
  rw[e1] at e2;exact y1c _ e2) (Heap.get?_push_of_some _ e)
theorem z7t:∀{bs:List Bool} {us:List Value},Vals (bs.map V.bl) us->us=bs.map Value.bool
 | [],_,.nil=>rfl
 | b::bs,_,.cons r t=>by
  cases r;rw[z7t t];rfl
theorem z15:∀{ns:List Int} {us:List Value} {i:Nat} {u:Value},Vals (ns.map V.int) us->us[i]?=some u->∃t,u = .int (ns.getD i 0) t
 | [],_,_,_,.nil,h=>by simp at h
 | n::ns,_,0,_,.cons r t,h=>by
  simp at h;subst h;exact r
 | n::ns,_,i+1,_,.cons r t,h=>by
  obtain⟨t',e⟩:=z15 (i:=i) t (by simpa using h)
  exact⟨t',by simpa using e⟩
def zva (K:y00)(xs:List V)(H:Hp)(Q:VK):Prop:=match xs with
 | [.ref p]=>∃bs:List Bool,SqL K H p (bs.map V.bl)/\Q (.bl (bs.any id)) H
 | _=>False
theorem zau (bs:List Bool):((y0s bs.length).any λi=>bs.getD i false)=bs.any id:=by
 rw[y0d,y46,y46];constructor
 ·rintro⟨i,hi,e⟩;have hl:=y2o.mp hi;refine⟨true,?_,rfl⟩;have:bs[i]?=some true:=by
   rw[y0n,y02 hl] at e;rw[y02 hl];exact congrArg some e
  exact y0o this
 ·rintro⟨b,hb,e⟩;obtain⟨i,hi⟩:=y1u hb;refine⟨i,y2o.mpr (y01.mp hi).1,?_⟩;rw[y0n,hi];exact e
theorem znx (hc:X.calm=true:=by rfl):CallR X (.builtin "any") (zva X.K):=by
 intro aa s σ H xs us Q I r h;unfold zva at h
 split at h
 ·rename_i p;obtain⟨bs,hS,q⟩:=h;obtain⟨u,rfl,ru⟩:=z29 r;cases ru;obtain⟨its,rv,pl,hz⟩:=I.list hS;have e:=z7t rv;subst e;have hlt:p<s.heap.objs.size:=by
   obtain⟨o,n,e,_⟩:=pl;exact Heap.lt_size e
  refine call_any_walk (wpAny_pyIter_list pl.isList ?_);refine⟨s.heap.objs.size,_,_,_,_,_,λi=>bs.getD i false,rfl,Walks.list (z8k (I.ok.hd hc)) s.heap.objs.size p (y06 hlt) _,⟨⟨_,Heap.get?_push_size _ rfl,rfl,rfl⟩,pl.isList.push _⟩,λi v s' Q' E' hv hq=>?_,λh' tk hk=>?_⟩
  ·have hv':(bs.map Value.bool)[i]?=some v:=by simpa using hv
   rw[y0g] at hv';cases hb:bs[i]? with
   | none=>rw[hb] at hv';cases hv'
   | some b =>
    rw[hb] at hv';cases hv';have hq':Q' (bs.getD i false) s':=hq;rw[y0n,hb] at hq';exact wpAny_truthy_bool hq'
  ·refine⟨.bl (bs.any id),H,z97 I hk,?_,q⟩;rw[←zau bs];simp[RelV]
 ·exact h.elim
@[reducible] def ztx (K:y00)(xs:List V)(H:Hp)(Q:VK):Prop:=match xs with
 | [.ref p]=>∃ns:List Int,(SqL K H p (ns.map V.int))/\Q (.int ns.sum) H
 | _=>False
theorem z3u (ns:List Int):∀n,n≤ns.length->preSum (λi=>ns.getD i 0) n=(ns.take n).sum
 | 0,_=>by simp[preSum]
 | n+1,h=>by
  have ih:=z3u ns n (by omega)
  have hn:n<ns.length:=by omega
  have e:ns.take (n+1)=ns.take n ++ [ns[n]]:=(List.take_append_getElem hn).symm;rw[preSum,ih,y0n,y02 hn,e,List.sum_append];simp
theorem z9v (ns:List Int):preSum (λi=>ns.getD i 0) ns.length=ns.sum:=by
 rw[z3u ns _ (y08 _),y5l]
theorem zqe (hc:X.calm=true:=by rfl):CallR X (.builtin "sum") (ztx X.K):=by
 intro aa s σ H xs us Q I r h;unfold ztx at h
 split at h
 ·rename_i p;obtain⟨ns,hS,q⟩:=h;obtain⟨u,rfl,ru⟩:=z29 r;cases ru;obtain⟨its,rv,pl,hz⟩:=I.list hS;have ap:=rv.length;have hlt:p<s.heap.objs.size:=by
   obtain⟨o,n,e,_⟩:=pl;exact Heap.lt_size e
  refine call_sum_walkG (wpAny_pyIter_list pl.isList ?_);refine⟨s.heap.objs.size,_,_,_,_,_,λi=>ns.getD i 0,rfl,Walks.list (z8k (I.ok.hd hc)) s.heap.objs.size p (y06 hlt) _,⟨⟨_,Heap.get?_push_size _ rfl,rfl,rfl⟩,pl.isList.push _⟩,λb hb=>?_,λi v hv=>?_,λh' tk t' hk=>?_⟩
  ·rw[Heap.size_push];simp only[y0a,y2c,or_false] at hb;rcases hb with rfl | rfl
   ·exact y1a _
   ·exact y2l hlt
  ·exact z15 rv (by simpa using hv)
  ·refine⟨.int ns.sum,H,z97 I hk,⟨t',?_⟩,q⟩;have e:its.toArray.size=ns.length:=by simpa using ap.symm
   rw[e,z9v]
 ·exact h.elim
@[reducible] def zjq (K:y00)(xs:List V)(H:Hp)(Q:VK):Prop:=match xs with
 | [.ref p]=>∃ns:List Int,SqL K H p (ns.map V.int)/\ns ≠ []/\∀z,z∈ns->(∀y∈ns,z≤y)->Q (.int z) H
 | _=>False
theorem z5g (bt:Nat->Nat->Bool):∀k,argBest bt k≤k
 | 0=>y08 _
 | k+1=>by
  have:=z5g bt k;unfold argBest
  split<;>omega
theorem z2d (ns:List Int):∀k,∀j≤k,ns.getD (argBest (λi j=>decide (ns.getD i 0<ns.getD j 0)) k) 0≤ns.getD j 0
 | 0,j,h=>by
  have:j=0:=by omega
  subst this;exact y5r _
 | k+1,j,h=>by
  have ih:=z2d ns k;unfold argBest
  split
  ·rename_i c;have c':=of_decide_eq_true c
   by_cases e:j=k+1
   ·subst e;exact y5r _
   ·have:=ih j (by omega)
    omega
  ·rename_i c
   by_cases e:j=k+1
   ·subst e;have:¬ns.getD (k+1) 0<ns.getD (argBest (λi j=>decide (ns.getD i 0<ns.getD j 0)) k) 0:=λz=>c (decide_eq_true z);omega
   ·exact ih j (by omega)
theorem zpu (hc:X.calm=true:=by rfl):CallR X (.builtin "min") (zjq X.K):=by
 intro aa s σ H xs us Q I r h;unfold zjq at h
 split at h
 ·rename_i p;obtain⟨ns,hS,hne,q⟩:=h;obtain⟨u,rfl,ru⟩:=z29 r;cases ru;obtain⟨its,rv,pl,hz⟩:=I.list hS;have ap:=rv.length;have esz:its.toArray.size=ns.length:=by simpa using ap.symm
  have hpos:0<ns.length:=y3f.mpr hne;have hlt:p<s.heap.objs.size:=by
   obtain⟨o,n,e,_⟩:=pl;exact Heap.lt_size e
  refine call_min_walk (wpAny_pyIter_list pl.isList ?_);refine⟨s.heap.objs.size,_,_,_,_,_,λi j=>decide (ns.getD i 0<ns.getD j 0),rfl,Walks.list (z8k (I.ok.hd hc)) s.heap.objs.size p (y06 hlt) _,⟨⟨_,Heap.get?_push_size _ rfl,rfl,rfl⟩,pl.isList.push _⟩,λb hb=>?_,by omega,λi j vi vj s' Q' E' hi hj hq=>?_,λv h' tk hv hk=>?_⟩
  ·rw[Heap.size_push];simp only[y0a,y2c,or_false] at hb;rcases hb with rfl | rfl
   ·exact y1a _
   ·exact y2l hlt
  ·obtain⟨t1,rfl⟩:=z15 rv (by simpa using hi)
   obtain⟨t2,rfl⟩:=z15 rv (by simpa using hj)
   exact lt_int hq
  ·have hv':its[argBest (λi j=>decide (ns.getD i 0<ns.getD j 0)) (its.length - 1)]?=some v:=by simpa using hv
   obtain⟨t,rfl⟩:=z15 rv hv';have esz':its.length=ns.length:=by simpa using esz
   rw[esz'];have hb:=z5g (λi j=>decide (ns.getD i 0<ns.getD j 0)) (ns.length - 1);refine⟨.int _,H,z97 I hk,⟨t,rfl⟩,q _ ?_ λy hy=>?_⟩
   ·rw[y0n,y02 (by omega)]
    exact y21 _
   ·obtain⟨j,hj⟩:=y1u hy;have hjl:=(y01.mp hj).1;have:=z2d ns (ns.length - 1) j (by omega)
    rw[show ns.getD j 0=y by rw[y0n,hj];rfl] at this
    exact this
 ·exact h.elim
end
end L2.EX
namespace PM
structure Net where
 G:Nat
 nE:Nat
 ends:List (Nat×Nat)
 at':List (List Nat)
structure Net.WF (N:Net):Prop where
 gle:N.G≤N.nE
 len:N.at'.length=N.nE
 lo:∀(k:Nat) p,N.ends[k]?=some p->p.1<N.G/\N.G≤p.2/\p.2<N.nE
 mem:∀(e:Nat) l k,N.at'[e]?=some l->(k∈l↔∃p,N.ends[k]?=some p/\(p.1=e∨p.2=e))
def inc (p:Nat×Nat)(e:Nat):Bool:=decide (p.1=e∨p.2=e)
def load:List (Nat×Nat)->List Int->Nat->Int
 | p::r,s::q,e=>(if inc p e then s else 0)+load r q e
 | _,_,_=>0
def zh3 (a:Int)(am:List Int)(l:List Nat):List Int:=l.foldl (λs k=>s.set k (s.getD k 0+a)) am
def alt {α:Type}:Bool->List α->List α
 | _,[]=>[]
 | true,x::r=>x::alt false r
 | false,_::r=>alt true r
def Tie (N:Net)(a k b:Nat):Prop:=∃p,N.ends[k]?=some p/\((p.1=a/\p.2=b)∨(p.2=a/\p.1=b))
def one (c:Prop) [Decidable c]:Int:=if c then 1 else 0
structure Flow (N:Net)(cap am aj:List Int):Prop where
 ls:am.length=N.ends.length
 lc:cap.length=N.nE
 lp:aj.length=N.nE
 nn:∀(k:Nat) s,am[k]?=some s->0≤s
 eq:∀(e:Nat) c s,cap[e]?=some c->aj[e]?=some s->s=c - load N.ends am e
 sp:∀(e:Nat) s,aj[e]?=some s->0≤s
def Go (N:Net)(am:List Int)(a k:Nat):Prop:=a<N.G∨∃s,am[k]?=some s/\0<s
def Lv (ae:List Int)(e:Nat):Int:=ae.getD e (-1)
structure Path (N:Net)(ae am:List Int)(es way:List Nat):Prop where
 len:es.length=way.length+1
 link:∀(i:Nat) k,way[i]?=some k->∃a b,es[i]?=some a/\es[i+1]?=some b/\Tie N a k b/\Go N am a k/\Lv ae b=Lv ae a+1
def zrm (a:Int)(am:List Int)(way:List Nat):List Int:=zh3 (-a) (zh3 a am (alt true way)) (alt false way)
structure Steps (N:Net)(am aj ae:List Int):Prop where
 len:ae.length=N.nE
 zero:∀e,Lv ae e=0->e<N.G/\∃x,aj[e]?=some x/\0<x
 src:∀(g:Nat) x,g<N.G->aj[g]?=some x->0<x->Lv ae g=0
 pred:∀e,1≤Lv ae e->∃a k,Tie N a k e/\Go N am a k/\Lv ae a+1=Lv ae e
def Room (N:Net)(aj:List Int)(e:Nat):Prop:=N.G≤e/\∃x,aj[e]?=some x/\0<x
def zpa (N:Net)(am ae:List Int):Prop:=∀a k b,Tie N a k b->Go N am a k->0≤Lv ae a->0≤Lv ae b
def zuj (N:Net)(am ae:List Int)(a k b:Nat):Prop:=Tie N a k b/\Go N am a k/\Lv ae b=Lv ae a+1
def Exh (N:Net)(aj aG:List Int)(e:Nat):Prop:=¬Room N aj e/\∃l,N.at'[e]?=some l/\aG[e]?=some (l.length:Int)
def zwx (N:Net)(am aj ae aG:List Int):Prop:=∀(e:Nat) l (j:Nat) k t,N.at'[e]?=some l->l[j]?=some k->aG[e]?=some t->(j:Int)<t->∀b,zuj N am ae e k b->Exh N aj aG b
structure Rows (N:Net)(am aj:List Int)(d:Nat)(row:List Nat)(ae:List Int):Prop where
 st:Steps N am aj ae
 row:∀e,e∈row↔Lv ae e=d
 top:∀e,Lv ae e≤d
 exp:∀a k b,Tie N a k b->Go N am a k->0≤Lv ae a->Lv ae a<d->0≤Lv ae b
 dry:∀e,0≤Lv ae e->Lv ae e<d->¬Room N aj e
structure Behind (N:Net)(am:List Int)(d:Nat)(row:List Nat)(ba:List Int)(done:Nat->Nat->Prop)(ae:List Int)(behind:List Nat):Prop where
 len:ae.length=ba.length
 old:∀e,0≤Lv ba e->Lv ae e=Lv ba e
 new:∀e,Lv ba e<0->(Lv ae e=d+1/\e∈behind/\∃a k,a∈row/\Tie N a k e/\Go N am a k)∨(Lv ae e<0/\e ∉ behind)
 beh:∀e∈behind,Lv ba e<0
 cl:∀a k b,done a k->Tie N a k b->Go N am a k->0≤Lv ae b
end PM
set_option linter.all false
namespace PM
structure Tr (N:Net)(aG:List Int):Prop where
 len:aG.length=N.nE
 ok:∀(e:Nat) l t,N.at'[e]?=some l->aG[e]?=some t->0≤t/\t≤l.length
structure Walk (N:Net)(am aj ae:List Int)(g:Nat)(aG:List Int)(es way:List Nat):Prop where
 tr:Tr N aG
 dead:zwx N am aj ae aG
 path:es ≠ []->Path N ae am es way/\es[0]?=some g
 none:es = []->way = []/\Exh N aj aG g
 on:∀(i:Nat) k e,way[i]?=some k->es[i]?=some e->¬Room N aj e/\∃l t,N.at'[e]?=some l/\aG[e]?=some ((t:Nat):Int)/\l[t]?=some k
end PM
set_option linter.all false
namespace PM
structure Sent (N:Net)(cap:List Int)(am aj:List Int)(way:List Nat)(g f:Nat)(a:Int)(aY:List Int):Prop where
 flow:Flow N cap (zrm a am way) aY
 le:∀(e:Nat) x y,aj[e]?=some x->aY[e]?=some y->y≤x
 sum:aY.sum=aj.sum - 2*a
structure Phase (N:Net)(cap ae sent0 spare0:List Int)(done:List Nat)(am aj aG:List Int):Prop where
 flow:Flow N cap am aj
 tr:Tr N aG
 dead:zwx N am aj ae aG
 le:∀(e:Nat) x y,spare0[e]?=some x->aj[e]?=some y->y≤x
 prog:(am=sent0/\aj=spare0/\∀g∈done,Exh N aj aG g)∨aj.sum<spare0.sum
structure Done (N:Net)(cap am aj ae:List Int):Prop where
 flow:Flow N cap am aj
 st:Steps N am aj ae
 cl:zpa N am ae
 dry:∀e,0≤Lv ae e->¬Room N aj e
def zsd (f:Nat->Int):Nat->Int
 | 0=>0
 | n+1=>zsd f n+f n
end PM
set_option linter.all false
namespace PM
def zxt (N:Net)(S:Nat->Bool)(e:Nat):Bool:=if e<N.G then !S e else S e
def bnd (N:Net)(cap:List Int)(S:Nat->Bool):Int:=zsd (λe=>if zxt N S e then cap.getD e 0 else 0) N.nE
end PM
set_option linter.all false
namespace PM
def zyq (f:Nat->Int)(S:Nat->Bool)(n:Nat):Int:=zsd (λe=>if S e then f e else 0) n
end PM
set_option linter.all false
namespace PM
section
variable {wk:Nat->Int}{dr:Nat->List Nat}{aI ao:List Nat}
structure Cut (wk:Nat->Int)(dr:Nat->List Nat)(aI ao:List Nat)(m W:Int)(nc nh:Nat->Bool):Prop where
 up:∀c∈ao,∀h∈aI,h∈dr c->nc c=true->nh h=true
 hi:∀T:Nat->Bool,(ao.map λc=>if (!nc c&&aI.all λh=>(nh h || !(dr c).contains h||T h)) then wk c*m else 0).sum≤(aI.map λh=>if (!nh h&&T h) then W else 0).sum
 lo:∀T:Nat->Bool,(∃h∈aI,nh h=true/\T h=true)->(aI.map λh=>if (nh h&&T h) then W else 0).sum<(ao.map λc=>if (nc c&&aI.any λh=>((dr c).contains h&&T h)) then wk c*m else 0).sum
 far:(∃h∈aI,nh h=true)->∃h∈aI,nh h=false
end
end PM
set_option linter.all false
namespace PM
abbrev Cr:=List Nat×List Nat
section
variable (wk:Nat->Int)(dr:Nat->List Nat)
def zuh (c:Cr)(T:Nat->Bool):Int:=(c.2.map λx=>if (c.1.any λh=>((dr x).contains h&&T h)) then wk x else 0).sum
def zly (c:Cr)(T:Nat->Bool):Int:=(c.2.map λx=>if (c.1.all λh=>(!(dr x).contains h||T h)) then wk x else 0).sum
def cnt (c:Cr)(T:Nat->Bool):Int:=(c.1.map λh=>if T h then 1 else 0).sum
def tot (c:Cr):Int:=(c.2.map wk).sum
def Lo (c:Cr)(p q:Int):Prop:=∀T:Nat->Bool,(∃h∈c.1,T h=true)->p*cnt c T<q*zuh wk dr c T
def Hi (c:Cr)(p q:Int):Prop:=∀T:Nat->Bool,q*zly wk dr c T≤p*cnt c T
def zuq (x y:Cr):Prop:=∃p q:Int,0<q/\Lo wk dr x p q/\Hi wk dr y p q
end
section
variable {wk:Nat->Int}{dr:Nat->List Nat}{c:Cr}{m W:Int}{nc nh:Nat->Bool}
end
structure Crowds (wk:Nat->Int)(dr:Nat->List Nat)(aq ao:Nat)(L:List Cr):Prop where
 ord:∀(i:Nat) x y,L[i]?=some x->L[i+1]?=some y->zuq wk dr x y
 ne:∀c∈L,c.1 ≠ []
 own:∀c∈L,∀x∈c.2,∃h∈c.1,h∈dr x
 up:∀(i:Nat) c,L[i]?=some c->∀x∈c.2,∀h∈dr x,∃(j:Nat) (d:Cr),j≤i/\L[j]?=some d/\h∈d.1
 hs:∀h:Nat,(L.map λc=>c.1.count h).sum=if h<aq then 1 else 0
 cs:∀x:Nat,(L.map λc=>c.2.count x).sum=if x<ao then 1 else 0
 hr:∀c∈L,c.1.Pairwise (· < ·)
 cr:∀c∈L,c.2.Pairwise (· < ·)
end PM
set_option Elab.async false
set_option linter.all false
set_option maxRecDepth 100000
namespace L2.EX
open PySem PySem.Spec PyProof.Rows
def zge (xs:List V)(lo hi st:Option Int):List V:=(sliceRange (sliceBounds lo hi st xs.length).1 (sliceBounds lo hi st xs.length).2.1 (sliceBounds lo hi st xs.length).2.2).filterMap (xs[·]?)
theorem Vals.pick {xs:List V}{us:List Value}(r:Vals xs us):∀ix:List Nat,Vals (ix.filterMap (xs[·]?)) (ix.filterMap (us[·]?))
 | []=>.nil
 | i::ix=>by
  have ih:=Vals.pick r ix;cases h:xs[i]? with
  | none =>
   have h':=r.none_of h;simp only[y1l,h,h'];exact ih
  | some x =>
   obtain⟨u,h',q⟩:=r.get h;simp only[y1l,h,h'];exact .cons q ih
section
variable {X:Cx}{e ste:Expr}{te:TE}{lo hi:Option Expr}{tl th ts:TO}{pos p2:Pos}
def zvx (K:y00)(te:TE)(tl th ts:TO)(σ:St)(H:Hp)(Q:VK):Prop:=te σ H λx H1=>tl σ H1 λl H2=>th σ H2 λu H3=>ts σ H3 λst H4=>match x with
 | .ref a=>∃xs,SqL K H4 a xs/\st≠some 0/\∀p,H4 p=none->Q (.ref p) (upd H4 p (.lst (zge xs l u st)))
 | _=>False
theorem zkd (he:PE X e te)(hl:PO X lo tl)(hu:PO X hi th)(hs:PO X (some ste) ts):PE X (.Subscript e (.Slice lo hi (some ste) p2) pos) (zvx X.K te tl th ts):=by
 intro aa s σ H Q I h;refine Subscript_ (thn (he aa s σ H _ I h) λv s1 ⟨x,H1,I1,r1,q1⟩=>?_);refine wpAny_Slice (thn (hl aa s1 σ H1 _ I1 q1) λvl s2 ⟨l,H2,I2,pl,q2⟩=>thn (hu aa s2 σ H2 _ I2 q2) λvu s3 ⟨u,H3,I3,pu,q3⟩=>thn (hs aa s3 σ H3 _ I3 q3) λvs s4 h4=>?_);obtain⟨st,H4,I4,ps,q4⟩:=h4;have I5:Inv X aa σ H4 { s4 with heap:=s4.heap.push { cls:=.type "slice",data:=.fields #[vl,vu,vs] } }:=I4.kept (t':=s4.toks) λb ob q=>Heap.get?_push_of_some _ q
 obtain⟨a,rfl⟩:∃a,x = .ref a:=by cases x<;>first | exact⟨_,rfl⟩ | exact q4.elim
 obtain⟨xs,hx,h0,q⟩:=q4;cases r1;obtain⟨its,r,ht,hz⟩:=I5.list hx;have ap:=r.length;show wpAny (model X.prog X.w) X.A (subscriptTail e (.Slice lo hi (some ste) p2) (.ref a) (.ref s4.heap.objs.size)) (EP X aa σ Q) X.xe { s4 with heap:=s4.heap.push { cls:=.type "slice",data:=.fields #[vl,vu,vs] } }
 refine tail_any (ops:=[.ref a,.ref s4.heap.objs.size]) ht.isList.typeIs slot_list_getitem.lookup ?_ (by with_unfolding_all rfl)
 refine wpAny_getItem_list_slice ht.isList (Heap.IsSliceOf.new ..) pl pu ps h0 ?_ (by rw[y07]<;>omega)
 have e2:slicePick its.toArray l u st=((sliceRange (sliceBounds l u st xs.length).1 (sliceBounds l u st xs.length).2.1 (sliceBounds l u st xs.length).2.2).filterMap (its[·]?)).toArray:=by
  unfold slicePick;rw[y07,←ap];simp
 rw[e2];have hz':(zge xs l u st).length≤sizeLine:=by
  have h1:=slicePick_size_le its.toArray l u st;rw[e2] at h1;have h2:=(Vals.pick r (sliceRange (sliceBounds l u st xs.length).1 (sliceBounds l u st xs.length).2.1 (sliceBounds l u st xs.length).2.2)).length
  simp only[y07] at h1;have:(zge xs l u st).length=((sliceRange (sliceBounds l u st xs.length).1 (sliceBounds l u st xs.length).2.1 (sliceBounds l u st xs.length).2.2).filterMap (its[·]?)).length:=h2;omega
 refine⟨.ref _,_,I5.laid (t':=s4.toks) (o:=.lst (zge xs l u st)) (λb ob q=>Heap.get?_push_of_some _ q) (y08 _) ?_,rfl,q _ (I5.hok.fresh (y08 _))⟩;exact⟨hz',_,0,Vals.pick r _,Heap.get?_push_size _ rfl⟩
end
theorem z55 {α:Type}{x y:α}{r:List α}:∀(c k:Nat),((y0s c).map (λi=>k+2+2*i)).filterMap ((x::y::r)[·]?)=((y0s c).map (λi=>k+2*i)).filterMap (r[·]?):=by
 intro c k;rw[y3k,y3k];congr 1;funext i;simp only[Function.comp];rw[show k+2+2*i=(k+2*i)+1+1 by omega]
 simp
theorem z3p {α:Type}:∀(xs:List α),((y0s ((xs.length+1) / 2)).map (λi=>0+2*i)).filterMap (xs[·]?)=PM.alt true xs/\((y0s (xs.length / 2)).map (λi=>1+2*i)).filterMap (xs[·]?)=PM.alt false xs
 | []=>⟨by simp[PM.alt],by simp[PM.alt]⟩
 | [x]=>⟨by simp[PM.alt],by simp[PM.alt]⟩
 | x::y::r=>by
  obtain⟨h1,h2⟩:=z3p r;have e1:((x::y::r).length+1) / 2=(r.length+1) / 2+1:=by simp only[y0u];omega
  have e2:(x::y::r).length / 2=r.length / 2+1:=by simp only[y0u];omega
  constructor
  ·rw[e1,y4c,y10,y5i,y1l];have e:((λi=>0+2*i)∘y3n)=λi=>0+2+2*i:=by funext i;simp only[Function.comp];omega
   rw[e,z55,h1];rfl
  ·rw[e2,y4c,y10,y5i,y1l];have e:((λi=>1+2*i)∘y3n)=λi=>1+2+2*i:=by funext i;simp only[Function.comp];omega
   rw[e,z55,h2];rfl
theorem zdx (xs:List V):zge xs (some 0) none (some 2)=PM.alt true xs:=by
 rw[←(z3p xs).1];unfold zge sliceRange;congr 1;have e1:(sliceBounds (some 0) none (some 2) xs.length).1=0:=by
  have:max (0:Int) (min 0 (xs.length:Int))=0:=by omega
  simpa [sliceBounds] using this
 have e2:(sliceBounds (some 0) none (some 2) xs.length).2.1=xs.length:=by simp[sliceBounds]
 have e3:(sliceBounds (some 0) none (some 2) xs.length).2.2=2:=by simp[sliceBounds]
 rw[e1,e2,e3];have c:(if (2:Int)>0 then (if (0:Int)<(xs.length:Int) then ((xs.length:Int) - 0+2 - 1) / 2 else 0) else (if (0:Int)>(xs.length:Int) then (0 - (xs.length:Int) - 2 - 1) / (-2) else 0)).toNat=(xs.length+1) / 2:=by
  rw[if_pos (by decide)]
  split<;>omega
 show(y0s (y5x _)).map _=_;rw[c];refine y4y λk _=>?_;omega
theorem zfj (xs:List V):zge xs (some 1) none (some 2)=PM.alt false xs:=by
 rw[←(z3p xs).2];unfold zge sliceRange;congr 1;have e2:(sliceBounds (some 1) none (some 2) xs.length).2.1=xs.length:=by simp[sliceBounds]
 have e3:(sliceBounds (some 1) none (some 2) xs.length).2.2=2:=by simp[sliceBounds]
 rw[e2,e3];rcases Nat.eq_zero_or_pos xs.length with z | z
 ·have c:xs.length / 2=0:=by omega
  rw[c,z];rfl
 ·have e1:(sliceBounds (some 1) none (some 2) xs.length).1=1:=by
   have:max (0:Int) (min 1 (xs.length:Int))=1:=by omega
   simpa [sliceBounds] using this
  rw[e1];have c:(if (2:Int)>0 then (if (1:Int)<(xs.length:Int) then ((xs.length:Int) - 1+2 - 1) / 2 else 0) else (if (1:Int)>(xs.length:Int) then (1 - (xs.length:Int) - 2 - 1) / (-2) else 0)).toNat=xs.length / 2:=by
   rw[if_pos (by decide)]
   split<;>omega
  show(y0s (y5x _)).map _=_;rw[c];refine y4y λk _=>?_;omega
end L2.EX
set_option Elab.async false
set_option linter.all false
set_option maxRecDepth 100000
namespace L2.EX
open PySem PySem.Spec PyProof.Rows
section
variable {K:y00}{g:TG}{tt:TT}{te:TE}{σ0:St}{Q:VK}{H:Hp}
end
section
variable {X:Cx}{scope:Scope}{N:List Str}{c:CC}{e:Expr}
end
end L2.EX
set_option Elab.async false
set_option linter.all false
set_option maxRecDepth 100000
namespace L2.EX
open PySem PySem.Spec PyProof.Rows
def ItAt (t:Bool)(h:Heap)(i a:Addr)(k:Nat):Prop:=if t then h.IsTupleIter i a k else h.IsListIter i a k
def SeqAt (t:Bool)(h:Heap)(a:Addr)(xs:Array Value):Prop:=if t then h.IsTuple a xs else h.IsList a xs
theorem ItAt.at {t:Bool}{h h':Heap}{i a:Addr}{k:Nat}(x:ItAt t h i a k)(e:∀o,h.get? i=some o->h'.get? i=some o):ItAt t h' i a k:=by
 cases t
 ·exact Heap.IsListIter.at x e
 ·exact Heap.IsTupleIter.at x e
theorem SeqAt.at {t:Bool}{h h':Heap}{a:Addr}{xs:Array Value}(x:SeqAt t h a xs)(e:∀o,h.get? a=some o->h'.get? a=some o):SeqAt t h' a xs:=by
 cases t
 ·obtain⟨o,ho,r⟩:=x;exact⟨o,e _ ho,r⟩
 ·obtain⟨o,ho,r⟩:=x;exact⟨o,e _ ho,r⟩
section
variable {prog:Program}{w:World}{A:Around}{E:Value->Shared->Prop}{s:Shared}
theorem z3s {it t:Addr}{i:Nat}{items:Array Value}{x:Value}{Q:Value->Shared->Prop}(hit:s.heap.IsTupleIter it t i)(ht:s.heap.IsTuple t items)(hx:items[i]?=some x)
  (hQ:∀h',h'.IsTupleIter it t (i+1)->Heap.SameBut it s.heap h'->Q x { s with heap:=h' }):wpAny (model prog w) A (Builtin.SmallTypes.nextOf (.ref it)) Q E s:=by
 obtain⟨o,ho,hc,hd⟩:=id hit;obtain⟨p,hp,_,n,hdp⟩:=ht;unfold Builtin.SmallTypes.nextOf;refine wpAny_bind (wpAny_callSpecial?_slot (name:=Str.ofString "__next__") hit.typeIs F.slot_tuple_iterator_next (wpAny_call_entry F.slot_tuple_iterator_next hit.typeIs F.entry_tuple_iterator_next ?_ (F.args_tuple_iterator_next_1 _)));refine wpAny_bind (m:=field (.ref it) 0) (wpAny_field ho hd (x:=.ref t) rfl ?_);refine wpAny_bind (m:=field (.ref it) 1) (wpAny_field ho hd (x:=.int i 0) rfl ?_);refine wpAny_bind (m:=seqItems? (.ref t)) (wpAny_seqItems hp hdp ?_);simp only[y5e,hx];refine wpAny_bind (wpAny_setField ho hd (by simp) (wpAny_pure ⟨x,rfl,wpAny_pure (hQ _ ?_ (Heap.SameBut.update ..))⟩))
 exact⟨_,Heap.get?_update_self _ ho (Obj.isFreed_of_fields (Obj.data_mapFields hd _)),(Obj.cls_mapFields ..).trans hc,by rw[Obj.data_mapFields hd];simp[rawInt]⟩
theorem z4q {it t:Addr}{i:Nat}{items:Array Value}{Q:Value->Shared->Prop}(hh:A.handled=none)(hit:s.heap.IsTupleIter it t i)(ht:s.heap.IsTuple t items)(hx:items[i]?=none)
  (hE:∀h' e,Heap.ExtBut it s.heap h'->(∃o,h'.get? e=some o/\o.cls = .type "StopIteration")->E (.ref e) { s with heap:=h' }):wpAny (model prog w) A (Builtin.SmallTypes.nextOf (.ref it)) Q E s:=by
 obtain⟨o,ho,hc,hd⟩:=id hit;obtain⟨p,hp,_,n,hdp⟩:=ht;unfold Builtin.SmallTypes.nextOf;refine wpAny_bind (wpAny_callSpecial?_slot (name:=Str.ofString "__next__") hit.typeIs F.slot_tuple_iterator_next (wpAny_call_entry F.slot_tuple_iterator_next hit.typeIs F.entry_tuple_iterator_next ?_ (F.args_tuple_iterator_next_1 _)));refine wpAny_bind (m:=field (.ref it) 0) (wpAny_field ho hd (x:=.ref t) rfl ?_);refine wpAny_bind (m:=field (.ref it) 1) (wpAny_field ho hd (x:=.int i 0) rfl ?_);refine wpAny_bind (m:=seqItems? (.ref t)) (wpAny_seqItems hp hdp ?_);simp only[y5e,hx];refine wpAny_bind (wpAny_rule (wpAny_bind (wpAny_setField ho hd (by simp) ?_)))
 refine wpAny_bind (m:=newExc (.type "StopIteration") []) ?_;simp only[newExc,newTuple];refine wpAny_bind (wpAny_newObj_type ?_ (by size_fits))
 refine wpAny_bind (m:=firstArgMember _ _) (wpAny_of_eq (a:=Value.none) (by first | rfl | (simp only[firstArgMember];rfl)) ?_)
 refine wpAny_newObj_type ?_ (by size_fits)
 simp only[raiseNew];refine wpAny_bind (wpAny_handled ?_)
 first | rw[show A.in1.handled=none from hh] | rw[hh]
 refine wpAny_bind (wpAny_pure (wpAny_throw ?_));exact hE _ _ (((Heap.SameBut.update ..).extBut.push _).push _) ⟨_,Heap.get?_push_size _ rfl,rfl⟩
theorem z17 {t:Bool}{i a:Addr}{k:Nat}{xs:Array Value}{x:Value}{Q:Value->Shared->Prop}(hit:ItAt t s.heap i a k)(hs:SeqAt t s.heap a xs)(hx:xs[k]?=some x)
  (hQ:∀h',ItAt t h' i a (k+1)->Heap.SameBut i s.heap h'->Q x { s with heap:=h' }):wpAny (model prog w) A (Builtin.SmallTypes.nextOf (.ref i)) Q E s:=by
 cases t
 ·exact wpAny_nextOf_list_item hit hs hx hQ
 ·exact z3s hit hs hx hQ
theorem z1h {t:Bool}{i a:Addr}{k:Nat}{xs:Array Value}{Q:Value->Shared->Prop}(hh:A.handled=none)(hit:ItAt t s.heap i a k)(hs:SeqAt t s.heap a xs)(hx:xs[k]?=none)
  (hE:∀h' e,Heap.ExtBut i s.heap h'->(∃o,h'.get? e=some o/\o.cls = .type "StopIteration")->E (.ref e) { s with heap:=h' }):wpAny (model prog w) A (Builtin.SmallTypes.nextOf (.ref i)) Q E s:=by
 cases t
 ·exact wpAny_nextOf_list_end hh hit hs hx hE
 ·exact z4q hh hit hs hx hE
end
end L2.EX
set_option Elab.async false
set_option linter.all false
set_option maxRecDepth 100000
namespace L2.EX
open PySem PySem.Spec PyProof.Rows
abbrev z0s (h:Heap)(T:Addr)(vs:List Value):Prop:=h.get? T=some { cls:=.type "tuple",data:=.seq vs.toArray }
abbrev zap (b:Nat)(m:Nat):List Value:=(y2f 0 m).map λj=>Value.ref (b+j)
abbrev z9n (h:Heap)(e:Addr):Prop:=∃o,h.get? e=some o/\o.cls = .type "StopIteration"
def Kp (b:Nat)(m:Nat)(c:Nat):Prop:=c<b∨c=b+m∨b+m+2<c
def zi0 (b:Nat)(m:Nat)(h h':Heap):Prop:=∀(c:Nat) o,Kp b m c->h.get? c=some o->h'.get? c=some o
structure ZSt (b:Nat)(src:List (Bool×Addr))(k:Nat)(f0:Value)(h:Heap):Prop where
 zip:IsZip h (b+src.length+2) (b+src.length) (b+src.length+1) f0
 its:z0s h (b+src.length) (zap b src.length)
 own:∃old,old.length=src.length/\z0s h (b+src.length+1) old
 it:∀(j:Nat) p,src[j]?=some p->ItAt p.1 h (b+j) p.2 k
section
variable {prog:Program}{w:World}{A:Around}{E:Value->Shared->Prop}
theorem zvn {T:Addr}{old:List Value}{j:Nat}{x:Value}{s:Shared}{Q:Unit->Shared->Prop}(hT:z0s s.heap T old)(hz:old.length≤sizeLine)(h:∀h',z0s h' T (old.set j x)->Heap.SameBut T s.heap h'->Q () { s with heap:=h' }) :
  wpAny (model prog w) A (updateSeq T (·.setIfInBounds j x)) Q E s:=by
 refine wpAny_updateSeq hT rfl (h _ ?_ (Heap.SameBut.update ..)) (by simpa using hz) (by simp;omega)
 show Heap.get? _ _=_;rw[Heap.get?_update_self _ hT rfl];simp[Obj.mapSeq]
abbrev zst {β:Type}(prog:Program)(w:World)(A:Around)(f:Value×Nat->β->Sem (ForInStep β))(b0:β)(E:Value->Shared->Prop)(b:Nat)(src:List (Bool×Addr))(xss:Nat->Array Value)(k:Nat):Prop :=
 ∀(j:Nat) (p:Bool×Addr) (s:Shared) (old:List Value) (Qf:ForInStep β->Shared->Prop),src[j]?=some p->ItAt p.1 s.heap (b+j) p.2 k->SeqAt p.1 s.heap p.2 (xss j)->old.length=src.length->z0s s.heap (b+src.length+1) old->IsZip s.heap (b+src.length+2) (b+src.length) (b+src.length+1) .ellipsis ->
  (∀x h',(xss j)[k]?=some x->ItAt p.1 h' (b+j) p.2 (k+1)->z0s h' (b+src.length+1) (old.set j x)->(∀(c:Nat) o,c≠b+src.length+1->c≠b+j->s.heap.get? c=some o->h'.get? c=some o)->h'.objs.size=s.heap.objs.size->Qf (.yield b0) { s with heap:=h' }) ->
  ((xss j)[k]?=none->∀h' e,zi0 b src.length s.heap h'->z9n h' e->E (.ref e) { s with heap:=h' })->wpAny (model prog w) A (f (.ref (b+j),j) b0) Qf E s
theorem zgo {β:Type}{f:Value×Nat->β->Sem (ForInStep β)}{b0:β}{b:Nat}{src:List (Bool×Addr)}{xss:Nat->Array Value}{k:Nat}(aX:∀p∈src,p.2<b)(hb:zst prog w A f b0 E b src xss k) :
  ∀(r j:Nat),j+r=src.length->∀(done rest:List Value) (s:Shared) (Q:β->Shared->Prop),done.length=j->rest.length=r->z0s s.heap (b+src.length+1) (done++rest)->IsZip s.heap (b+src.length+2) (b+src.length) (b+src.length+1) .ellipsis ->
   (∀(i:Nat) p,src[i]?=some p->ItAt p.1 s.heap (b+i) p.2 (if i<j then k+1 else k))->(∀(i:Nat) p,src[i]?=some p->SeqAt p.1 s.heap p.2 (xss i)) ->
   (∀h' aB,aB.length=r->(∀i:Nat,i<r->(xss (j+i))[k]?=aB[i]?)->z0s h' (b+src.length+1) (done++aB)->IsZip h' (b+src.length+2) (b+src.length) (b+src.length+1) .ellipsis->(∀(i:Nat) p,src[i]?=some p->ItAt p.1 h' (b+i) p.2 (k+1))->zi0 b src.length s.heap h'->h'.objs.size=s.heap.objs.size->Q b0 { s with heap:=h' }) ->
   ((∃i:Nat,i<src.length/\(xss i)[k]?=none)->∀h' e,zi0 b src.length s.heap h'->z9n h' e->E (.ref e) { s with heap:=h' }) ->
   wpAny (model prog w) A (forIn ((y2f j r).map λi=>(Value.ref (b+i),i)) b0 f) Q E s
 | 0,j,hj,done,rest,s,Q,hd,hr,hT,hz,hi,hs,hQ,hE=>by
  show wpAny _ _ (forIn [] b0 f) _ _ _;rw[y4v];have er:rest = []:=List.length_eq_zero_iff.mp hr;subst er;refine wpAny_pure (hQ s.heap [] rfl (λi hi=>absurd hi (y4j _)) hT hz (λi p hp=>?_) (λc o _ e=>e) rfl);have:=(y01.mp hp).1
  have z:=hi i p hp;rw[if_pos (show i<j by omega)] at z
  exact z
 | r+1,j,hj,done,[],s,Q,hd,hr,hT,hz,hi,hs,hQ,hE=>by simp at hr
 | r+1,j,hj,done,o::rest,s,Q,hd,hr,hT,hz,hi,hs,hQ,hE=>by
  have hjl:j<src.length:=by omega
  have hp:src[j]?=some src[j]:=by simp[hjl]
  have hlp:src[j].2<b:=aX _ (y21 hjl);have h1:=hi j _ hp
  rw[if_neg (y1c _)] at h1;rw[List.range'_succ,y10,y26];refine wpAny_bind (hb j src[j] s (done++o::rest) _ hp h1 (hs j _ hp) (by simp only[y0k,y0u] at hr ⊢;omega) hT hz (λx h' hx i1 t1 kk sz=>?_) (λhx h' e kk st=>hE ⟨j,hjl,hx⟩ h' e kk st))
  have eset:(done++o::rest).set j x=(done ++ [x])++rest:=by
   subst hd;simp
  rw[eset] at t1;refine zgo aX hb r (j+1) (by omega) (done ++ [x]) rest { s with heap:=h' } Q (by simp[hd]) (by simpa using hr) t1 (kk _ _ (by omega) (by omega) hz) (λi p hip=>?_) (λi p hip=>?_) (λh2 aB vl vx t2 z2 i2 k2 s2=>?_) (λhex h2 e k2 st=>hE hex h2 e (λc o hc g=>k2 c o hc (kk c o (by unfold Kp at hc;omega) (by unfold Kp at hc;omega) g)) st)
  ·have hil:=(y01.mp hip).1
   by_cases e:i=j
   ·subst e;rw[if_pos (show i<i+1 by omega)]
    rw[hp] at hip;cases hip;exact i1
   ·have z:=(hi i p hip).at (h':=h') λo g=>kk _ _ (by omega) (by omega) g
    by_cases e2:i<j
    ·rw[if_pos e2] at z;rw[if_pos (show i<j+1 by omega)]
     exact z
    ·rw[if_neg e2] at z;rw[if_neg (show ¬i<j+1 by omega)]
     exact z
  ·have hil:=(y01.mp hip).1;have:=aX p (y0o hip)
   exact(hs i p hip).at λo g=>kk _ _ (y06 (y04 this (by omega))) (y06 (y04 this (by omega))) g
  ·refine hQ h2 (x::aB) (by simp[vl]) (λi hi'=>?_) (by simpa using t2) z2 i2 (λc o hc g=>k2 c o hc (kk c o (by unfold Kp at hc;omega) (by unfold Kp at hc;omega) g)) (by rw[s2];exact sz)
   cases i with
   | zero=>simpa using hx
   | succ i =>
    have:=vx i (by omega)
    rw[show j+(i+1)=j+1+i by omega]
    simpa using this
end
end L2.EX
set_option Elab.async false
set_option linter.all false
set_option maxRecDepth 100000
namespace L2.EX
open PySem PySem.Spec PyProof.Rows
theorem zad (b m:Nat):(zap b m).toArray.toList.zipIdx=(y2f 0 m).map λi=>(Value.ref (b+i),i):=by
 apply y5f;intro i;simp only[zap,List.getElem?_zipIdx,y0g,Option.map_map]
 by_cases h:i<m
 ·simp[h]
 ·simp[h]
section
variable {prog:Program}{w:World}{A:Around}{E:Value->Shared->Prop}{s:Shared}
theorem zfl {b:Nat}{src:List (Bool×Addr)}{xss:Nat->Array Value}{k:Nat}{Q:Value->Shared->Prop}(hh:A.handled=none)(hne:src.length≠0)(hm:src.length≤100)(aX:∀p∈src,p.2<b)(st:ZSt b src k .none s.heap)
  (hs:∀(i:Nat) p,src[i]?=some p->SeqAt p.1 s.heap p.2 (xss i))
  (hQ:∀h' aB,aB.length=src.length->(∀i:Nat,i<src.length->(xss i)[k]?=aB[i]?)->ZSt b src (k+1) (rawInt s.heap.objs.size) h'->z0s h' s.heap.objs.size aB->h'.objs.size=s.heap.objs.size+1->zi0 b src.length s.heap h'->Q (.ref s.heap.objs.size) { s with heap:=h' })
  (hE:(∃i:Nat,i<src.length/\(xss i)[k]?=none)->∀h' e,zi0 b src.length s.heap h'->z9n h' e->E (.ref e) { s with heap:=h' }) :
  wpAny (model prog w) A (Builtin.«zip.__next__» ⟨[.ref (b+src.length+2)],[]⟩) (λfin s'=>∃v,fin = .done (.ret v)/\Q v s') E s:=by
 obtain⟨hz,hTI,⟨old,hol,hTO⟩,hit⟩:=st;refine wpAny_bind (m:=field (.ref (b+src.length+2)) 2) (wpAny_field hz rfl (x:=.bool false) rfl ?_);refine wpAny_bind (m:=field (.ref (b+src.length+2)) 3) (wpAny_field hz rfl (x:=.ref (b+src.length)) rfl ?_);refine wpAny_bind (wpAny_seqItems hTI rfl ?_);show wpAny _ _ (if (zap b src.length).toArray.isEmpty=true then _ else _) _ _ _
 rw[if_neg (by simp only[List.isEmpty_toArray,List.isEmpty_iff,zap,List.map_eq_nil_iff,List.range'_eq_nil_iff];exact hne)]
 refine wpAny_bind (m:=Builtin.SmallTypes.ownedTupleIsFree (.ref (b+src.length+2))) ?_;unfold Builtin.SmallTypes.ownedTupleIsFree;refine wpAny_bind (wpAny_field hz rfl (x:=.none) rfl (wpAny_pure ?_));simp only[if_true];refine wpAny_bind (wpAny_rule ?_);refine wpAny_bind (wpAny_field hz rfl (x:=.ref (b+src.length+1)) rfl ?_);refine wpAny_bind (wpAny_setField_rec hz (by simp) λh1 hz1 hs1=>?_)
 replace hz1:IsZip h1 (b+src.length+2) (b+src.length) (b+src.length+1) .ellipsis:=hz1;refine wpAny_bind ?_;rw[zad];have k1:∀(c:Nat) o,c≠b+src.length+2->s.heap.get? c=some o->h1.get? c=some o:=λc o hc e=>hs1.extBut _ _ hc e;have kp1:zi0 b src.length s.heap h1:=λc o hc e=>k1 c o (by unfold Kp at hc;omega) e
 refine zgo (b:=b) (src:=src) (xss:=xss) (k:=k) aX ?_ src.length 0 (by omega) [] old { s with heap:=h1 } _ rfl hol (k1 _ _ (by omega) hTO) hz1 (λi p hip=>?_) (λi p hip=>?_) (λh2 aB vl vx t2 z2 i2 k2 s2=>?_) (λhex h2 e k2 stp=>hE hex h2 e (λc o hc g=>k2 c o hc (kp1 c o hc g)) stp)
 ·intro j p s old Qf hp hi hq hl hT hzz hi' he';have hjl:=(y01.mp hp).1;refine wpAny_bind (wpAny_onRaise ?_);refine wpAny_bind (m:=Builtin.SmallTypes.nextOf (.ref (b+j))) ?_;cases hx:(xss j)[k]? with
  | none =>
   refine z1h hh hi hq hx λh2 e k2 stp=>?_;obtain⟨oe,hoe,hce⟩:=stp;have hz2:IsZip h2 (b+src.length+2) (b+src.length) (b+src.length+1) .ellipsis:=k2 _ _ (show b+src.length+2≠b+j by omega) hzz
   have hez:e≠b+src.length+2:=λx=>by subst x;rw[hz2] at hoe;cases hoe;simp at hce
   exact wpAny_setField_rec hz2 (by simp) λh3 _ s3=>he' hx h3 e (λc o hc g=>s3.extBut _ _ (show c≠b+src.length+2 by unfold Kp at hc;omega) (k2 _ _ (show c≠b+j by unfold Kp at hc;omega) g)) ⟨oe,s3.extBut _ _ hez hoe,hce⟩
  | some x =>
   refine z17 hi hq hx λh2 i2 s2=>wpAny_pure ?_;have hT2:z0s h2 (b+src.length+1) old:=s2.extBut _ _ (show b+src.length+1≠b+j by omega) hT
   refine wpAny_bind (wpAny_seqItems hT2 rfl ?_);refine wpAny_bind (zvn (s:={ s with heap:=h2 }) hT2 (y0j (by omega) (show 100≤sizeLine by decide)) λh3 hT3 s3=>?_)
   refine wpAny_bind (wpAny_letGo (wpAny_pure ?_));refine hi' x h3 hx (i2.at λo g=>s3.extBut _ _ (show b+j≠b+src.length+1 by omega) g) hT3 (λc o c1 c2 g=>s3.extBut _ _ c1 (s2.extBut _ _ c2 g)) (by rw[s3.1,s2.1])
 ·rw[if_neg (y4j i)];have hil:=(y01.mp hip).1;exact(hit i p hip).at λo g=>k1 _ _ (by omega) g
 ·have:=aX p (y0o hip);exact(hs i p hip).at λo g=>k1 _ _ (y06 (y04 this (by omega))) g
 ·have t2':z0s h2 (b+src.length+1) aB:=t2;refine wpAny_bind (wpAny_seqItems t2' rfl ?_);refine wpAny_bind (wpAny_newTuple ?_ (y0j (show aB.toArray.toList.length≤100 by rw[List.toList_toArray];omega) (show 100≤sizeLine by decide)))
  have hsz:h2.objs.size=s.heap.objs.size:=by rw[s2];exact hs1.1
  refine wpAny_bind (m:=Builtin.SmallTypes.ownedTupleHandOut (.ref (b+src.length+2)) (.ref h2.objs.size)) ?_;unfold Builtin.SmallTypes.ownedTupleHandOut;have z3:IsZip (h2.push { cls:=.type "tuple",data:=.seq aB.toArray.toList.toArray }) (b+src.length+2) (b+src.length) (b+src.length+1) .ellipsis:=Heap.get?_push_of_some _ z2;have lt:b+src.length+2<h2.objs.size:=Heap.lt_size z2
  refine wpAny_bind (wpAny_setField_rec z3 (by simp) λh4 z4 s4=>?_)
  replace z4:IsZip h4 (b+src.length+2) (b+src.length) (b+src.length+1) (rawInt h2.objs.size):=z4;refine wpAny_setField_rec z4 (by simp) λh5 z5 s5=>?_
  replace z5:IsZip h5 (b+src.length+2) (b+src.length) (b+src.length+1) (rawInt h2.objs.size):=z5;have up:∀(c:Nat) o,c≠b+src.length+2->h2.get? c=some o->h5.get? c=some o:=λc o c1 g=>s5.extBut _ _ c1 (s4.extBut _ _ c1 (Heap.get?_push_of_some _ g));have tN:z0s h5 h2.objs.size aB:=s5.extBut _ _ (show h2.objs.size≠b+src.length+2 by omega) (s4.extBut _ _ (show h2.objs.size≠b+src.length+2 by omega) (Heap.get?_push_size _ rfl))
  have sz5:h5.objs.size=h2.objs.size+1:=by rw[s5.1,s4.1,Heap.size_push]
  rw[hsz] at z5 tN sz5;refine wpAny_pure ⟨_,rfl,?_⟩;show Q (.ref h2.objs.size) _;rw[hsz];refine hQ h5 aB vl (λi hi=>by have:=vx i hi;rwa [Nat.zero_add] at this) ⟨z5,up _ _ (by omega) (k2 _ _ (.inr (.inl rfl)) (k1 _ _ (by omega) hTI)),⟨aB,vl,up _ _ (by omega) t2'⟩,λj p hp=>(i2 j p hp).at λo g=>up _ _ ?_ g⟩ tN sz5 (λc o hc g=>up c o (by unfold Kp at hc;omega) (k2 c o hc (kp1 c o hc g)))
  have hil:=(y01.mp hp).1;omega
theorem z51 {b:Nat}{src:List (Bool×Addr)}{xss:Nat->Array Value}{k:Nat}{Q:Option Value->Shared->Prop}(hh:A.handled=none)(hne:src.length≠0)(hm:src.length≤100)(aX:∀p∈src,p.2<b)(st:ZSt b src k .none s.heap)
  (hs:∀(i:Nat) p,src[i]?=some p->SeqAt p.1 s.heap p.2 (xss i))
  (hQ:∀h' aB,aB.length=src.length->(∀i:Nat,i<src.length->(xss i)[k]?=aB[i]?)->ZSt b src (k+1) (rawInt s.heap.objs.size) h'->z0s h' s.heap.objs.size aB->h'.objs.size=s.heap.objs.size+1->zi0 b src.length s.heap h'->Q (some (.ref s.heap.objs.size)) { s with heap:=h' })
  (hE:(∃i:Nat,i<src.length/\(xss i)[k]?=none)->∀h',zi0 b src.length s.heap h'->Q none { s with heap:=h' }) :
  wpAny (model prog w) A (pyNext (.ref (b+src.length+2))) Q E s:=by
 have hT:s.TypeIs (.ref (b+src.length+2)) "zip":=⟨_,st.zip,rfl⟩;unfold pyNext;refine wpAny_bind (wpAny_attempt (wpAny_callSpecial?_slot (name:=Str.ofString "__next__") hT F.slot_zip_next
  (wpAny_call_entry F.slot_zip_next hT F.entry_zip_next (zfl hh hne hm aX st hs (λh' aB a1 a2 a3 a4 a5 a6=>wpAny_pure (hQ h' aB a1 a2 a3 a4 a5 a6)) λhex h' e kk stp=>?_) (F.args_zip_next_1 _))))
 obtain⟨o,ho,hc⟩:=stp;exact wpAny_bind (wpAny_isInstance (T:="StopIteration") (b:=true) ⟨o,ho,hc⟩ isSubtype_stop (wpAny_pure (hE hex h' kk)))
end
end L2.EX
set_option Elab.async false
set_option linter.all false
set_option maxRecDepth 100000
namespace L2.EX
open PySem PySem.Spec PyProof.Rows
abbrev z0m (t:Bool)(a:Addr):Obj:={ cls:=.type (if t then "tuple_iterator" else "list_iterator"),data:=.fields #[.ref a,.int 0 0] }
abbrev z5c (I O:Addr):Obj:={ cls:=.type "zip",data:=.fields #[.none,.bool false,.bool false,.ref I,.ref O] }
abbrev z0w (vs:List Value):Obj:={ cls:=.type "tuple",data:=.seq vs.toArray }
section
variable {prog:Program}{w:World}{A:Around}{E:Value->Shared->Prop}{s:Shared}
theorem z1g {t:Bool}{a:Addr}{xs:Array Value}{Q:Value->Shared->Prop}(h:SeqAt t s.heap a xs)(hQ:Q (.ref s.heap.objs.size) { s with heap:=s.heap.push (z0m t a) }):wpAny (model prog w) A (pyIter (.ref a)) Q E s:=by
 cases t
 ·exact wpAny_pyIter_list h hQ
 ·exact wpAny_pyIter_tuple h hQ
end
theorem SeqAt.push {t:Bool}{h:Heap}{a:Addr}{xs:Array Value}(x:SeqAt t h a xs)(o:Obj):SeqAt t (h.push o) a xs:=x.at λ_ g=>Heap.get?_push_of_some _ g
abbrev z2H (h:Heap)(p q:Bool×Addr):Heap:=(((((h.push (z0m p.1 p.2)).push (z0m q.1 q.2)).push (z0w [.ref h.objs.size,.ref (h.push (z0m p.1 p.2)).objs.size])).push (z0w [.none,.none])).push (z5c ((h.push (z0m p.1 p.2)).push (z0m q.1 q.2)).objs.size (((h.push (z0m p.1 p.2)).push (z0m q.1 q.2)).push (z0w [.ref h.objs.size,.ref (h.push (z0m p.1 p.2)).objs.size])).objs.size))
abbrev z2A (h:Heap)(p q:Bool×Addr):Addr:=((((h.push (z0m p.1 p.2)).push (z0m q.1 q.2)).push (z0w [.ref h.objs.size,.ref (h.push (z0m p.1 p.2)).objs.size])).push (z0w [.none,.none])).objs.size
theorem zgi (p q:Bool×Addr)(xs ys:Array Value) :
  Meets (Builtin.«zip.__new__» ⟨[.type "zip",.ref p.2,.ref q.2],[]⟩) (λ_ R s=>SeqAt p.1 s.heap p.2 xs/\SeqAt q.1 s.heap q.2 ys/\R (.ok (.ret (.ref (z2A s.heap p q)))) { s with heap:=z2H s.heap p q }) :=
 .of_wp λprog w A R s h=>by
  obtain⟨hp,g,d,tk,os⟩:=s;obtain⟨h1,h2,h⟩:=h;have hsub:=sub_zip;have hL1:SeqAt p.1 (Shared.heap ⟨hp,g,d,tk,os⟩) p.2 xs:=h1
  have hL2:SeqAt q.1 (Shared.heap ⟨hp.push (z0m p.1 p.2),g,d,tk,os⟩) q.2 ys:=SeqAt.push h2 _
  wp_walk using z1g hL1,z1g hL2
  exact⟨_,rfl,h⟩
abbrev z3B (h:Heap)(p q r:Bool×Addr):Heap:=((h.push (z0m p.1 p.2)).push (z0m q.1 q.2)).push (z0m r.1 r.2)
abbrev z3C (h:Heap)(p q r:Bool×Addr):Heap:=(z3B h p q r).push (z0w [.ref h.objs.size,.ref (h.push (z0m p.1 p.2)).objs.size,.ref ((h.push (z0m p.1 p.2)).push (z0m q.1 q.2)).objs.size])
abbrev z3D (h:Heap)(p q r:Bool×Addr):Heap:=(z3C h p q r).push (z0w [.none,.none,.none])
abbrev z3H (h:Heap)(p q r:Bool×Addr):Heap:=(z3D h p q r).push (z5c (z3B h p q r).objs.size (z3C h p q r).objs.size)
set_option maxHeartbeats 2000000 in
theorem zeh (p q r:Bool×Addr)(xs ys zs:Array Value) :
  Meets (Builtin.«zip.__new__» ⟨[.type "zip",.ref p.2,.ref q.2,.ref r.2],[]⟩) (λ_ R s=>SeqAt p.1 s.heap p.2 xs/\SeqAt q.1 s.heap q.2 ys/\SeqAt r.1 s.heap r.2 zs/\R (.ok (.ret (.ref (z3D s.heap p q r).objs.size))) { s with heap:=z3H s.heap p q r }) :=
 .of_wp λprog w A R s h=>by
  obtain⟨hp,g,d,tk,os⟩:=s;obtain⟨h1,h2,h3,h⟩:=h;have hsub:=sub_zip;have hL1:SeqAt p.1 (Shared.heap ⟨hp,g,d,tk,os⟩) p.2 xs:=h1
  have hL2:SeqAt q.1 (Shared.heap ⟨hp.push (z0m p.1 p.2),g,d,tk,os⟩) q.2 ys:=SeqAt.push h2 _;have hL3:SeqAt r.1 (Shared.heap ⟨(hp.push (z0m p.1 p.2)).push (z0m q.1 q.2),g,d,tk,os⟩) r.2 zs:=SeqAt.push (SeqAt.push h3 _) _
  wp_walk using z1g hL1,z1g hL2,z1g hL3
  exact⟨_,rfl,h⟩
theorem z4p (a b c:Value):checkTypeCall "zip" ⟨[a,b,c],[]⟩=pure ():=by kernel_rfl
theorem z6a (a b c:Value):checkBuiltinCall "zip.__new__" ⟨[.type "zip",a,b,c],[]⟩=pure ():=by kernel_rfl
theorem z2k (a b c d:Value):argsOk "object.__init__" ⟨[a,b,c,d],[]⟩:=by
 unfold argsOk;rw[signature?_of (id:="object.__init__") (n:=['_','_','t','i','n','i','_','_']) (o:=['t','c','e','j','b','o']) (by kernel_rfl) F.owner_object]
 kernel_rfl
end L2.EX
set_option Elab.async false
set_option linter.all false
set_option maxRecDepth 100000
namespace L2.EX
open PySem PySem.Spec PyProof.Rows
def SqS (K:y00)(t:Bool)(H:Hp)(a:Addr)(xs:List V):Prop:=if t then SqT K H a xs else SqL K H a xs
abbrev zsk (K:y00)(src:List (Bool×Addr))(i:Nat)(H:Hp):Prop:=∀(j:Nat) p,src[j]?=some p->∃xs x,SqS K p.1 H p.2 xs/\xs[i]?=some x
abbrev zxv (K:y00)(src:List (Bool×Addr))(i:Nat)(H:Hp)(v:V)(H':Hp):Prop:=∃T xs,H T=none/\v = .ref T/\H'=upd H T (.tup xs)/\xs.length=src.length/\∀(j:Nat) p,src[j]?=some p->∀ys,SqS K p.1 H p.2 ys->ys[i]?=xs[j]?
abbrev zm7 (K:y00)(src:List (Bool×Addr))(i:Nat)(H:Hp):Prop:=(∀(j:Nat) p,src[j]?=some p->∃xs,SqS K p.1 H p.2 xs)/\∃(j:Nat) (p:Bool×Addr) (xs:List V),src[j]?=some p/\SqS K p.1 H p.2 xs/\xs.length≤i
def Itz (K:y00)(src:List (Bool×Addr)):It:=⟨zsk K src,zxv K src,zm7 K src⟩
section
variable {X:Cx}{aa:List (Addr×Obj)}{σ:St}{H:Hp}{s:Shared}
theorem Inv.sqs {t:Bool}{a:Addr}{xs:List V}(I:Inv X aa σ H s)(h:SqS X.K t H a xs):∃its:Array Value,Vals xs its.toList/\SeqAt t s.heap a its:=by
 cases t
 ·obtain⟨its,rv,p,_⟩:=I.list h;exact⟨its.toArray,rv,p.isList⟩
 ·obtain⟨its,rv,p,_⟩:=I.tuple h;exact⟨its.toArray,rv,show s.heap.IsTuple a its.toArray from p⟩
theorem Inv.sqs_inj {t:Bool}{a:Addr}{xs ys:List V}(I:Inv X aa σ H s)(h:SqS X.K t H a xs)(h':SqS X.K t H a ys):xs=ys:=by
 cases t
 ·exact I.list_inj h h'
 ·exact I.tuple_inj h h'
end
theorem z5q:∀{xs:List V} {us:List Value},xs.length=us.length->(∀(j:Nat) x u,xs[j]?=some x->us[j]?=some u->RelV x u)->Vals xs us
 | [],[],_,_=>.nil
 | [],_::_,h,_=>by simp at h
 | _::_,[],h,_=>by simp at h
 | x::xs,u::us,h,r=>.cons (r 0 x u rfl rfl) (z5q (by simpa using h) λj y v h1 h2=>r (j+1) y v (by simpa using h1) (by simpa using h2))
theorem z61 {t:Bool}{h:Heap}{i a:Addr}{k:Nat}(x:ItAt t h i a k):∃o,h.get? i=some o/\∀v,o.data ≠ .cell v:=by
 cases t
 ·obtain⟨o,e,c,d⟩:=x;exact⟨o,e,λv z=>by rw[d] at z;cases z⟩
 ·obtain⟨o,e,c,d⟩:=x;exact⟨o,e,λv z=>by rw[d] at z;cases z⟩
theorem ZSt.obj {b:Nat}{src:List (Bool×Addr)}{k:Nat}{f0:Value}{h:Heap}(st:ZSt b src k f0 h)(c:Nat)(h1:b≤c)(h2:c<b+src.length+3):∃o,h.get? c=some o/\∀v,o.data ≠ .cell v:=by
 by_cases e:c<b+src.length
 ·have hj:c - b<src.length:=by omega
  have:=z61 (st.it (c - b) src[c - b] (by simp[hj]))
  rwa [show b+(c - b)=c by omega] at this
 ·rcases (by omega:c=b+src.length∨c=b+src.length+1∨c=b+src.length+2) with rfl | rfl | rfl
  ·exact⟨_,st.its,λv z=>by cases z⟩
  ·obtain⟨old,_,ho⟩:=st.own;exact⟨_,ho,λv z=>by cases z⟩
  ·exact⟨_,st.zip,λv z=>by cases z⟩
theorem ZSt.keep {b:Nat}{src:List (Bool×Addr)}{k:Nat}{f0:Value}{h h':Heap}(st:ZSt b src k f0 h)(kk:∀(c:Nat),b≤c->c<b+src.length+3->∀o,h.get? c=some o->h'.get? c=some o):ZSt b src k f0 h':=by
 obtain⟨old,ol,ho⟩:=st.own;refine⟨kk _ (by omega) (by omega) _ st.zip,kk _ (by omega) (by omega) _ st.its,⟨old,ol,kk _ (by omega) (by omega) _ ho⟩,λj p hp=>(st.it j p hp).at λo g=>kk _ (by omega) ?_ _ g⟩
 have:=(y01.mp hp).1;omega
theorem fp_mem {b m c:Nat}:c∈y2f b (m+3)↔b≤c/\c<b+m+3:=by
 rw[y1f];omega
theorem z91 {P:Program}{w:World}{K:y00}{aQ:List Expr}{kt:Nat}{tp:Pos}(b:Nat)(src:List (Bool×Addr))(hne:src.length≠0)(hm:src.length≤100)(aX:∀p∈src,p.2<b) :
  Turn P w K (.Tuple aQ kt tp) (Itz K src) (y2f b (src.length+3)) (b+src.length+2) (λk h=>ZSt b src k .none h) where
 mem:=fp_mem.mpr ⟨by omega,by omega⟩
 obj:=λk h st c hc=>st.obj c (fp_mem.mp hc).1 (fp_mem.mp hc).2
 keep:=λk h h' st kk=>st.keep λc h1 h2 o g=>kk c (fp_mem.mpr ⟨h1,h2⟩) o g
 item:=by
  intro X hP hw hK hc i aa s σ H E I hf st hg;subst hP hw hK;have ch:∀j:Nat,∃t:Array Value×V,∀p,src[j]?=some p->∃zs,SqS X.K p.1 H p.2 zs/\Vals zs t.1.toList/\SeqAt p.1 s.heap p.2 t.1/\zs[i]?=some t.2:=λj=>by
   cases hp:src[j]? with
   | none=>exact⟨(#[],.int 0),λp z=>by cases z⟩
   | some p =>
    obtain⟨xs,x,hq,hx⟩:=hg j p hp;obtain⟨its,rv,sq⟩:=Inv.sqs I hq;exact⟨(its,x),λp' z=>by cases z;exact⟨xs,hq,rv,sq,hx⟩⟩
  obtain⟨T,hT⟩:=Classical.axiomOfChoice ch;refine z51 (I.ok.hd hc) hne hm aX st (xss:=λj=>(T j).1) (λj p hp=>(hT j p hp).choose_spec.2.2.1) (λh' aB vl vx z1 t1 sz kk=>⟨_,rfl,?_⟩) (λhex=>?_)
  ·refine wpAny_letOwnedTupleGo_zip z1.zip λh2 hz2 hs2=>?_;have hlt:b+src.length+2<s.heap.objs.size:=Heap.lt_size st.zip;have up:∀(c:Nat) o,c≠b+src.length+2->h'.get? c=some o->h2.get? c=some o:=λc o hc g=>hs2.extBut _ _ hc g
   have k2:∀(c:Addr) o,c ∉ y2f b (src.length+3)->s.heap.get? c=some o->h2.get? c=some o:=λc o hc g=>by
    have hc':¬(b≤c/\c<b+src.length+3):=λz=>hc (fp_mem.mpr z);have c1:Kp b src.length c:=by
     unfold Kp;rcases y3m c b with z | z
     ·exact .inl z
     ·exact .inr (.inr (y5m λz2=>hc' ⟨z,y5g z2⟩))
    refine up c o (λz=>?_) (kk c o c1 g);subst z;exact hc' ⟨y0j (y2q _ _) (y2q _ _),y1a _⟩
   let xs:List V:=(y0s src.length).map λj=>(T j).2
   have xl:xs.length=src.length:=by simp[xs]
   have xg:∀j:Nat,j<src.length->xs[j]?=some (T j).2:=λj hj=>by simp[xs,hj]
   have rv:Vals xs aB:=z5q (by rw[xl,vl]) λj x u h1 h2=>by
    have hj:j<src.length:=by rw[←xl];exact(y01.mp h1).1
    obtain⟨zs,q1,q2,q3,q4⟩:=hT j src[j] (by simp[hj])
    obtain⟨u',g1,g2⟩:=q2.get q4;rw[xg j hj] at h1;cases h1;have e:=vx j hj;rw[h2,←y1r,g1] at e;cases e;exact g2
   have I2:=z2u (t':=s.toks) (h':=h2) I k2 (λc hc=>hf c hc) (y08 _) (xs:=xs) (us:=aB) rv (y0j (by rw[xl];exact hm) (show 100≤sizeLine by decide)) ⟨_,up _ _ (y1j hlt) t1,rfl,_,rfl⟩
   refine⟨.ref s.heap.objs.size,_,I2,rfl,⟨s.heap.objs.size,xs,I.hok.fresh (y08 _),rfl,rfl,xl,λj p hp ys hy=>?_⟩,?_,λc hc=>?_⟩
   ·obtain⟨zs,q1,q2,q3,q4⟩:=hT j p hp;rw[Inv.sqs_inj I hy q1,q4,xg j (y01.mp hp).1]
   ·obtain⟨old,ol,ho⟩:=z1.own;refine⟨hz2,up _ _ (by omega) z1.its,⟨old,ol,up _ _ (by omega) ho⟩,λj p hp=>(z1.it j p hp).at λo g=>up _ _ ?_ g⟩
    have:=(y01.mp hp).1;omega
   ·rw[z04 (y06 (y04 (fp_mem.mp hc).2 (by omega)))]
    exact(hf c hc).1
  ·exfalso;obtain⟨j,hj,e⟩:=hex;obtain⟨zs,q1,q2,q3,q4⟩:=hT j src[j] (by simp[hj])
   obtain⟨u',g1,g2⟩:=q2.get q4;rw[←y1r,g1] at e;cases e
 done:=by
  intro X hP hw hK hc i aa s σ H E I hf st hg;subst hP hw hK;obtain⟨hall,j0,p0,xs0,hp0,hq0,hl0⟩:=hg;have ch:∀j:Nat,∃t:Array Value,∀p,src[j]?=some p->∃zs,SqS X.K p.1 H p.2 zs/\Vals zs t.toList/\SeqAt p.1 s.heap p.2 t:=λj=>by
   cases hp:src[j]? with
   | none=>exact⟨#[],λp z=>by cases z⟩
   | some p =>
    obtain⟨xs,hq⟩:=hall j p hp;obtain⟨its,rv,sq⟩:=Inv.sqs I hq;exact⟨its,λp' z=>by cases z;exact⟨xs,hq,rv,sq⟩⟩
  obtain⟨T,hT⟩:=Classical.axiomOfChoice ch;refine z51 (I.ok.hd hc) hne hm aX st (xss:=T) (λj p hp=>(hT j p hp).choose_spec.2.2) (λh' aB vl vx z1 t1 sz kk=>?_) (λhex h' kk=>⟨rfl,z1q (t':=s.toks) I (λc o hc g=>kk c o ?_ g) λc hc=>hf c hc⟩)
  ·exfalso;have hj:=(y01.mp hp0).1;obtain⟨zs,q1,q2,q3⟩:=hT j0 p0 hp0;have e:=vx j0 hj
   have el:=q2.length;rw[Inv.sqs_inj I q1 hq0] at el;rw[show(T j0)[i]?=none from Array.getElem?_eq_none (by simpa using (show(T j0).toList.length≤i by omega))] at e
   have:j0<aB.length:=by omega
   simp[this] at e
  ·have hc':¬(b≤c/\c<b+src.length+3):=λz=>hc (fp_mem.mpr z);unfold Kp;rcases y3m c b with z | z
   ·exact .inl z
   ·exact .inr (.inr (y5m λz2=>hc' ⟨z,y5g z2⟩))
 self:=λ_ _ _ _ _ st h=>wpAny_pyIter_zip st.zip h
end L2.EX
set_option Elab.async false
set_option linter.all false
set_option maxRecDepth 100000
namespace L2.EX
open PySem PySem.Spec PyProof.Rows
theorem z2n {t:Bool}{h:Heap}{i a:Addr}(g:h.get? i=some (z0m t a)):ItAt t h i a 0:=by
 cases t
 ·exact⟨_,g,rfl,rfl⟩
 ·exact⟨_,g,rfl,rfl⟩
section
variable {prog:Program}{w:World}{A:Around}{E:Value->Shared->Prop}{s:Shared}
theorem z4j {p q:Bool×Addr}{xs ys:Array Value}{Q:Value->Shared->Prop}(h1:SeqAt p.1 s.heap p.2 xs)(h2:SeqAt q.1 s.heap q.2 ys)
  (h:∀h',ZSt s.heap.objs.size [p,q] 0 .none h'->(∀c o,s.heap.get? c=some o->h'.get? c=some o)->Q (.ref (s.heap.objs.size+4)) { s with heap:=h' }):wpAny (model prog w) A (call (.type "zip") [.ref p.2,.ref q.2]) Q E s:=by
 refine callType_new F.called_zip (by decide) (F.typeCall_zip_2 _ _) (F.newCall_zip_2 _ _) (λobj=>F.args_object_init_3 obj _ _) F.entry_zip_new (zgi p q xs ys) ⟨h1,h2,?_⟩
 have e1:(s.heap.push (z0m p.1 p.2)).objs.size=s.heap.objs.size+1:=Heap.size_push ..;have e2:((s.heap.push (z0m p.1 p.2)).push (z0m q.1 q.2)).objs.size=s.heap.objs.size+2:=by rw[Heap.size_push,e1]
 generalize hA':s.heap.push (z0m p.1 p.2)=hA at e1 e2 ⊢
 have gA:hA.get? s.heap.objs.size=some (z0m p.1 p.2):=by rw[←hA'];exact Heap.get?_push_size _ rfl
 have kA:∀c o,s.heap.get? c=some o->hA.get? c=some o:=λc o g=>by rw[←hA'];exact Heap.get?_push_of_some _ g
 generalize hB':hA.push (z0m q.1 q.2)=hB at e2 ⊢
 have gB:hB.get? hA.objs.size=some (z0m q.1 q.2):=by rw[←hB'];exact Heap.get?_push_size _ rfl
 have kB:∀c o,hA.get? c=some o->hB.get? c=some o:=λc o g=>by rw[←hB'];exact Heap.get?_push_of_some _ g
 have e3:(hB.push (z0w [.ref s.heap.objs.size,.ref hA.objs.size])).objs.size=s.heap.objs.size+3:=by rw[Heap.size_push,e2]
 generalize hC':hB.push (z0w [.ref s.heap.objs.size,.ref hA.objs.size])=hC at e3 ⊢
 have gC:hC.get? hB.objs.size=some (z0w [.ref s.heap.objs.size,.ref hA.objs.size]):=by rw[←hC'];exact Heap.get?_push_size _ rfl
 have kC:∀c o,hB.get? c=some o->hC.get? c=some o:=λc o g=>by rw[←hC'];exact Heap.get?_push_of_some _ g
 have e4:(hC.push (z0w [.none,.none])).objs.size=s.heap.objs.size+4:=by rw[Heap.size_push,e3]
 generalize hD':hC.push (z0w [.none,.none])=hD at e4 ⊢
 have gD:hD.get? hC.objs.size=some (z0w [.none,.none]):=by rw[←hD'];exact Heap.get?_push_size _ rfl
 have kD:∀c o,hC.get? c=some o->hD.get? c=some o:=λc o g=>by rw[←hD'];exact Heap.get?_push_of_some _ g
 generalize hE':hD.push (z5c hB.objs.size hC.objs.size)=hE;have gE:hE.get? hD.objs.size=some (z5c hB.objs.size hC.objs.size):=by rw[←hE'];exact Heap.get?_push_size _ rfl
 have kE:∀c o,hD.get? c=some o->hE.get? c=some o:=λc o g=>by rw[←hE'];exact Heap.get?_push_of_some _ g
 have eH:z2H s.heap p q=hE:=by subst hE' hD' hC' hB' hA';rfl
 have eA:z2A s.heap p q=hD.objs.size:=by subst hD' hC' hB' hA';rfl
 rw[e1] at gB gC;rw[e2] at gC gE;rw[e3] at gD gE;rw[e4] at gE;show _/\_;rw[eH,eA,e4];refine⟨⟨_,gE,rfl⟩,h hE ⟨gE,kE _ _ (kD _ _ gC),⟨[.none,.none],rfl,kE _ _ gD⟩,λj r hr=>?_⟩ λc o g=>kE _ _ (kD _ _ (kC _ _ (kB _ _ (kA _ _ g))))⟩
 match j,hr with
 | 0,hr=>cases hr;exact z2n (kE _ _ (kD _ _ (kC _ _ (kB _ _ gA))))
 | 1,hr=>cases hr;exact z2n (kE _ _ (kD _ _ (kC _ _ gB)))
 | n+2,hr=>cases hr
theorem zdw {p q r:Bool×Addr}{xs ys zs:Array Value}{Q:Value->Shared->Prop}(h1:SeqAt p.1 s.heap p.2 xs)(h2:SeqAt q.1 s.heap q.2 ys)(h3:SeqAt r.1 s.heap r.2 zs)
  (h:∀h',ZSt s.heap.objs.size [p,q,r] 0 .none h'->(∀c o,s.heap.get? c=some o->h'.get? c=some o)->Q (.ref (s.heap.objs.size+5)) { s with heap:=h' }):wpAny (model prog w) A (call (.type "zip") [.ref p.2,.ref q.2,.ref r.2]) Q E s:=by
 refine callType_new F.called_zip (by decide) (z4p _ _ _) (z6a _ _ _) (λobj=>z2k obj _ _ _) F.entry_zip_new (zeh p q r xs ys zs) ⟨h1,h2,h3,?_⟩
 have e1:(s.heap.push (z0m p.1 p.2)).objs.size=s.heap.objs.size+1:=Heap.size_push ..;generalize hA':s.heap.push (z0m p.1 p.2)=hA at e1 ⊢
 have gA:hA.get? s.heap.objs.size=some (z0m p.1 p.2):=by rw[←hA'];exact Heap.get?_push_size _ rfl
 have kA:∀c o,s.heap.get? c=some o->hA.get? c=some o:=λc o g=>by rw[←hA'];exact Heap.get?_push_of_some _ g
 have e2:(hA.push (z0m q.1 q.2)).objs.size=s.heap.objs.size+2:=by rw[Heap.size_push,e1]
 generalize hB':hA.push (z0m q.1 q.2)=hB at e2 ⊢
 have gB:hB.get? hA.objs.size=some (z0m q.1 q.2):=by rw[←hB'];exact Heap.get?_push_size _ rfl
 have kB:∀c o,hA.get? c=some o->hB.get? c=some o:=λc o g=>by rw[←hB'];exact Heap.get?_push_of_some _ g
 have e3:(hB.push (z0m r.1 r.2)).objs.size=s.heap.objs.size+3:=by rw[Heap.size_push,e2]
 generalize hC':hB.push (z0m r.1 r.2)=hC at e3 ⊢
 have gC:hC.get? hB.objs.size=some (z0m r.1 r.2):=by rw[←hC'];exact Heap.get?_push_size _ rfl
 have kC:∀c o,hB.get? c=some o->hC.get? c=some o:=λc o g=>by rw[←hC'];exact Heap.get?_push_of_some _ g
 have e4:(hC.push (z0w [.ref s.heap.objs.size,.ref hA.objs.size,.ref hB.objs.size])).objs.size=s.heap.objs.size+4:=by rw[Heap.size_push,e3]
 generalize hD':hC.push (z0w [.ref s.heap.objs.size,.ref hA.objs.size,.ref hB.objs.size])=hD at e4 ⊢
 have gD:hD.get? hC.objs.size=some (z0w [.ref s.heap.objs.size,.ref hA.objs.size,.ref hB.objs.size]):=by rw[←hD'];exact Heap.get?_push_size _ rfl
 have kD:∀c o,hC.get? c=some o->hD.get? c=some o:=λc o g=>by rw[←hD'];exact Heap.get?_push_of_some _ g
 have e5:(hD.push (z0w [.none,.none,.none])).objs.size=s.heap.objs.size+5:=by rw[Heap.size_push,e4]
 generalize hE':hD.push (z0w [.none,.none,.none])=hE at e5 ⊢
 have gE:hE.get? hD.objs.size=some (z0w [.none,.none,.none]):=by rw[←hE'];exact Heap.get?_push_size _ rfl
 have kE:∀c o,hD.get? c=some o->hE.get? c=some o:=λc o g=>by rw[←hE'];exact Heap.get?_push_of_some _ g
 generalize hF':hE.push (z5c hC.objs.size hD.objs.size)=hF;have gF:hF.get? hE.objs.size=some (z5c hC.objs.size hD.objs.size):=by rw[←hF'];exact Heap.get?_push_size _ rfl
 have kF:∀c o,hE.get? c=some o->hF.get? c=some o:=λc o g=>by rw[←hF'];exact Heap.get?_push_of_some _ g
 have eH:z3H s.heap p q r=hF:=by subst hF' hE' hD' hC' hB' hA';rfl
 have eA:(z3D s.heap p q r).objs.size=hE.objs.size:=by subst hE' hD' hC' hB' hA';rfl
 rw[e1] at gB gD;rw[e2] at gC gD;rw[e3] at gD gF;rw[e4] at gE gF;rw[e5] at gF;show _/\_;rw[eH,eA,e5];refine⟨⟨_,gF,rfl⟩,h hF ⟨gF,kF _ _ (kE _ _ gD),⟨[.none,.none,.none],rfl,kF _ _ gE⟩,λj r hr=>?_⟩ λc o g=>kF _ _ (kE _ _ (kD _ _ (kC _ _ (kB _ _ (kA _ _ g)))))⟩
 match j,hr with
 | 0,hr=>cases hr;exact z2n (kF _ _ (kE _ _ (kD _ _ (kC _ _ (kB _ _ gA)))))
 | 1,hr=>cases hr;exact z2n (kF _ _ (kE _ _ (kD _ _ (kC _ _ gB))))
 | 2,hr=>cases hr;exact z2n (kF _ _ (kE _ _ (kD _ _ gC)))
 | n+3,hr=>cases hr
end
section
variable {X:Cx}
def zsx (K:y00)(t1 t2:TE)(σ:St)(H:Hp)(R:It->Hp->Prop):Prop:=t1 σ H λx H1=>t2 σ H1 λy H2=>match x,y with
 | .ref a,.ref b=>∃u v,(∃xs,SqS K u H2 a xs)/\(∃ys,SqS K v H2 b ys)/\R (Itz K [(u,a),(v,b)]) H2
 | _,_=>False
def zol (K:y00)(t1 t2 t3:TE)(σ:St)(H:Hp)(R:It->Hp->Prop):Prop:=t1 σ H λx H1=>t2 σ H1 λy H2=>t3 σ H2 λz H3=>match x,y,z with
 | .ref a,.ref b,.ref c=>∃u v t,(∃xs,SqS K u H3 a xs)/\(∃ys,SqS K v H3 b ys)/\(∃zs,SqS K t H3 c zs)/\R (Itz K [(u,a),(v,b),(t,c)]) H3
 | _,_,_=>False
theorem z13 {t:Bool}{h:Heap}{a:Addr}{xs:Array Value}(x:SeqAt t h a xs):a<h.objs.size:=by
 cases t
 ·obtain⟨o,e,_⟩:=x;exact Heap.lt_size e
 ·obtain⟨o,e,_⟩:=x;exact Heap.lt_size e
theorem zjo {l1 l2:Expr}{t1 t2:TE}{aQ:List Expr}{kt:Nat}{tp p pos:Pos}(hm:X.mg "zip"=none)(h1:PE X l1 t1)(h2:PE X l2 t2)(hg:Gl X "zip":=by rfl)(hs:starEach [l1,l2] X.env = [(false,eval l1 X.env),(false,eval l2 X.env)]:=by rfl)(hs2:starEach [l2] X.env = [(false,eval l2 X.env)]:=by rfl) :
  PI X (.Tuple aQ kt tp) (.Call (.Name "zip" p) [l1,l2] [] pos) (zsx X.K t1 t2):=by
 intro aa s σ H R I h;have ha:PA X [l1,l2] _:=z0l (z0f h1) (z0l (z0f h2) z1w hs2) (by rw[hs,hs2])
 refine Call_ (z16 I hg hm z9b (y0f (thn (ha pos aa s σ H (λvs H1=>∃x y,vs = [x,y]/\(match x,y with
  | .ref a,.ref b=>∃u v,(∃xs,SqS X.K u H1 a xs)/\(∃ys,SqS X.K v H1 b ys)/\R (Itz X.K [(u,a),(v,b)]) H1
  | _,_=>False)) I ⟨_,h,λv H1 q=>⟨_,q,λu H2 q2=>⟨v,u,rfl,q2⟩⟩⟩) λus s1 h1=>?_) (by rw[hs,hs2]) (by rw[hs2];rfl)))
 obtain⟨vs,H1,I1,r1,x,y,rfl,q1⟩:=h1;obtain⟨u,w,rfl,rx,ry⟩:=z62 r1
 split at q1
 ·rename_i a b;cases rx;cases ry;obtain⟨tu,tv,⟨xs,hq1⟩,⟨ys,hq2⟩,q⟩:=q1;obtain⟨its1,rv1,p1⟩:=Inv.sqs I1 hq1;obtain⟨its2,rv2,p2⟩:=Inv.sqs I1 hq2;refine z4j (p:=(tu,a)) (q:=(tv,b)) p1 p2 λh' z1 kk=>wpAny_pyIter_zip z1.zip ?_;refine⟨_,_,_,_,H1,rfl,I1.kept (t':=s1.toks) kk,z91 s1.heap.objs.size [(tu,a),(tv,b)] (by simp) (by simp) (λp hp=>?_),z1,λc hc=>I1.fpOk (fp_mem.mp hc).1 (I1.hok.fresh (fp_mem.mp hc).1),q⟩
  simp only[y0a,y2c,or_false] at hp;rcases hp with rfl | rfl
  ·exact z13 p1
  ·exact z13 p2
 ·exact q1.elim
theorem zuv {x y z:V}{us:List Value}(r:Vals [x,y,z] us):∃u v w,us = [u,v,w]/\RelV x u/\RelV y v/\RelV z w:=by
 cases r with
 | cons r1 r2 =>
  obtain⟨u,w,rfl,a,b⟩:=z62 r2;exact⟨_,_,_,rfl,r1,a,b⟩
theorem zjk {l1 l2 l3:Expr}{t1 t2 t3:TE}{aQ:List Expr}{kt:Nat}{tp p pos:Pos}(hm:X.mg "zip"=none)(h1:PE X l1 t1)(h2:PE X l2 t2)(h3:PE X l3 t3)(hg:Gl X "zip":=by rfl)(hs:starEach [l1,l2,l3] X.env = [(false,eval l1 X.env),(false,eval l2 X.env),(false,eval l3 X.env)]:=by rfl)(hs2:starEach [l2,l3] X.env = [(false,eval l2 X.env),(false,eval l3 X.env)]:=by rfl)(hs3:starEach [l3] X.env = [(false,eval l3 X.env)]:=by rfl) :
  PI X (.Tuple aQ kt tp) (.Call (.Name "zip" p) [l1,l2,l3] [] pos) (zol X.K t1 t2 t3):=by
 intro aa s σ H R I h;have ha:PA X [l1,l2,l3] _:=z0l (z0f h1) (z0l (z0f h2) (z0l (z0f h3) z1w hs3) (by rw[hs2,hs3])) (by rw[hs,hs2])
 refine Call_ (z16 I hg hm z9b (y0f (thn (ha pos aa s σ H (λvs H1=>∃x y z,vs = [x,y,z]/\(match x,y,z with
  | .ref a,.ref b,.ref c=>∃u v t,(∃xs,SqS X.K u H1 a xs)/\(∃ys,SqS X.K v H1 b ys)/\(∃zs,SqS X.K t H1 c zs)/\R (Itz X.K [(u,a),(v,b),(t,c)]) H1
  | _,_,_=>False)) I ⟨_,h,λv H1 q=>⟨_,q,λu H2 q2=>⟨_,q2,λt H3 q3=>⟨v,u,t,rfl,q3⟩⟩⟩⟩) λus s1 h1=>?_) (by rw[hs,hs2]) (by rw[hs2];rfl)))
 obtain⟨vs,H1,I1,r1,x,y,z,rfl,q1⟩:=h1;obtain⟨u,v,w,rfl,rx,ry,rz⟩:=zuv r1
 split at q1
 ·rename_i a b c;cases rx;cases ry;cases rz;obtain⟨tu,tv,tw,⟨xs,hq1⟩,⟨ys,hq2⟩,⟨zs,hq3⟩,q⟩:=q1;obtain⟨its1,rv1,p1⟩:=Inv.sqs I1 hq1;obtain⟨its2,rv2,p2⟩:=Inv.sqs I1 hq2;obtain⟨its3,rv3,p3⟩:=Inv.sqs I1 hq3;refine zdw (p:=(tu,a)) (q:=(tv,b)) (r:=(tw,c)) p1 p2 p3 λh' z1 kk=>wpAny_pyIter_zip z1.zip ?_;refine⟨_,_,_,_,H1,rfl,I1.kept (t':=s1.toks) kk,z91 s1.heap.objs.size [(tu,a),(tv,b),(tw,c)] (by simp) (by simp) (λp hp=>?_),z1,λc hc=>I1.fpOk (fp_mem.mp hc).1 (I1.hok.fresh (fp_mem.mp hc).1),q⟩
  simp only[y0a,y2c,or_false] at hp;rcases hp with rfl | rfl | rfl
  ·exact z13 p1
  ·exact z13 p2
  ·exact z13 p3
 ·exact q1.elim
end
end L2.EX
set_option Elab.async false
set_option linter.all false
set_option maxRecDepth 100000
namespace L2.EX
open PySem PySem.Spec PyProof.Rows
end L2.EX
set_option Elab.async false
set_option linter.all false
set_option maxRecDepth 100000
namespace L2.EX
open PySem PySem.Spec PyProof.Rows PySem.SeqAt
section
variable {X:Cx}{aa:List (Addr×Obj)}{σ:St}{H:Hp}{s:Shared}
end
end L2.EX
set_option Elab.async false
set_option linter.all false
set_option maxRecDepth 100000
namespace PySem
open AutoSeq1 (wpAny_loadPart')
open MeetsSeq MeetsSeq2 MeetsSeq3 SeqRoads2 SeqAt
end PySem
namespace L2.EX
open PySem PySem.Spec PyProof.Rows PySem.SeqAt
section
variable {X:Cx}{aa:List (Addr×Obj)}{σ:St}{H:Hp}{s:Shared}
open Classical in
theorem zgg {k:Nat}(hr:Room k X.A)(I:Inv X aa σ H s){dx:PyData}{xs:List V}{its:List Value}{ds:List PyData}{x:V}{v:Value}(rv:Vals xs its)(hx:Is X.K H x dx)(ha:IsAll X.K H xs ds)(sx:Sh 60 dx)(sd:∀d∈ds,Sh 60 d)(rx:RelV x v) :
  ∃(e:Value->Bool),(∀w,w∈its.toArray->EqAt X.A.in1 s w v (e w))/\∀(j:Nat) w d,its[j]?=some w->ds[j]?=some d->e w=PyData.eqv d dx:=by
 obtain⟨ax,rdx⟩:=Is.reads I dx x v hx rx;have rd:∀(j:Nat) w,its[j]?=some w->∃d as,ds[j]?=some d/\Reads s.heap w d as:=λj w hw=>by
  have hj:j<xs.length:=by rw[rv.length];exact(y01.mp hw).1
  have hxj:xs[j]?=some xs[j]:=by simp[hj]
  obtain⟨u,g1,g2⟩:=rv.get hxj;rw[hw] at g1;cases g1;obtain⟨d,g3,g4⟩:=z98 ha hxj;obtain⟨as,g5⟩:=Is.reads I d _ w g4 g2;exact⟨d,as,g3,g5⟩
 have key:∀(j:Nat) w d as,its[j]?=some w->ds[j]?=some d->Reads s.heap w d as->decide (∃d as,d∈ds/\Reads s.heap w d as/\PyData.eqv d dx=true)=PyData.eqv d dx:=λj w d as hj g1 g2=>by
  have hd:=y0o g1
  by_cases c:PyData.eqv d dx=true
  ·rw[c];exact decide_eq_true ⟨d,as,hd,g2,c⟩
  ·rw[y2k.mpr c];refine decide_eq_false ?_;rintro⟨d',as',h1,h2,h3⟩;have:=PySem.SeqAt.Reads.unique d d' w as as' (sd d hd).1 g2 h2;rw[←this] at h3;exact c h3
 refine⟨λw=>decide (∃d as,d∈ds/\Reads s.heap w d as/\PyData.eqv d dx=true),λw hw=>?_,λj w d hj hd=>?_⟩
 ·obtain⟨j,hj⟩:=y1u (List.mem_toArray.mp hw);obtain⟨d,as,g1,g2⟩:=rd j w hj;have hd:=y0o g1;show EqAt X.A.in1 s w v (decide (∃d as,d∈ds/\Reads s.heap w d as/\PyData.eqv d dx=true));rw[key j w d as hj g1 g2];refine PySem.SeqAt.eqAt_reads d dx X.A.in1 s w v as ax g2 rdx (sd d hd).1 sx.1 ?_;have h1:=zry hr
  have h2:=(sd d hd).2;have h3:X.A.in1.units≤X.A.units+2:=by first | exact y08 _ | (simp[Around.in1]) | (show _≤_;simp[Around.in1];omega)
  omega
 ·obtain⟨d',as,g1,g2⟩:=rd j w hj;rw[hd] at g1;cases g1;exact key j w d as hj hd g2
end
theorem z9e {α:Type}{p:α->Bool}:∀{l:List α},l.any p=true->∃(j:Nat) (x:α),l[j]?=some x/\p x=true/\∀(m:Nat) y,m<j->l[m]?=some y->p y=false
 | [],h=>by simp at h
 | x::r,h=>by
  by_cases c:p x=true
  ·exact⟨0,x,rfl,c,λm y hm=>by omega⟩
  ·have h':r.any p=true:=by
    rw[y1o] at h;simpa [c] using h
   obtain⟨j,y,h1,h2,h3⟩:=z9e h';refine⟨j+1,y,by simpa using h1,h2,λm z hm hz=>?_⟩
   cases m with
   | zero =>
    simp at hz;subst hz;exact y2k.mpr c
   | succ m=>exact h3 m z (by omega) (by simpa using hz)
section
variable {X:Cx}{o e:Expr}{es:List Expr}{ta:TE}{t:TA}{ah ac:Pos}
theorem zkn (a b:Int):PyData.eqv (.int a) (.int b)=decide (a=b):=by
 have h:=zfp a 0 b 0
 by_cases c:a=b
 ·subst c;rw[decide_eq_true rfl];exact zfe (z9u a)
 ·rw[decide_eq_false c] at h ⊢
  rw[y5s] at h;simpa [zmj,PyData.eqv,PyData.eqvAll] using h
def zp1:V->List V->Hp->VK->Prop:=λx vs H Q=>∃(l:Addr) (ns:List Int) (n:Int),x = .ref l/\vs = [.int n]/\H l=some (.lst (ns.map V.int))/\n∈ns/\∀j:Nat,ns[j]?=some n->(∀(m:Nat) y,m<j->ns[m]?=some y->y≠n)->Q (.int (j:Int)) H
theorem zej {k:Nat}(hr:Room k X.A):MtM X "list.index" zp1:=by
 intro aa s σ H x vs v us Q I rx rv h;obtain⟨l,ns,n,rfl,rfl,hH,hn,q⟩:=h;cases rx;obtain⟨u,rfl,ru⟩:=rv.one;obtain⟨z,its,m,r,hl,e⟩:=I.lstM hH;obtain⟨ev,h1,h2⟩:=zgg hr I (dx:=.int n) (ds:=ns.map PyData.int) r (is_int.mpr rfl) (z52 ns) (z9u _) (λd hd=>by
  obtain⟨i,_,rfl⟩:=y15.mp hd;exact z9u i) ru
 have hany:(ns.any λi=>decide (i=n))=true:=y46.mpr ⟨n,hn,decide_eq_true rfl⟩;obtain⟨j,d,hd,hp,hno⟩:=z9e hany;have hdn:d=n:=of_decide_eq_true hp
 subst hdn;rw[y0e] at hl z;have hjd:=(y01.mp hd).1;have hj:j<its.toArray.size:=by rw[y07];omega
 have look:∀m (hm:m<its.toArray.size),∃d',ns[m]?=some d'/\ev its.toArray[m]=decide (d'=d):=λm hm=>by
  have hm':m<its.length:=by rw[y07] at hm;exact hm
  have hmd:m<ns.length:=by omega
  refine⟨ns[m],y02 hmd,?_⟩;rw[←zkn];refine h2 m _ _ (by simp[hm']) ?_
  rw[y0g,y02 hmd];rfl
 have ar:(sizeLine:Int)<2^63 - 1:=by decide
 refine call_meets F.slot_list_index ⟨_,e,rfl⟩ F.entry_list_index (F.args_list_index_2 _ _)
  (PySem.SeqAt.list_indexAt l its.toArray m none #[] u ev j hj (by omega) (by
   obtain⟨d',g1,g2⟩:=look j hj;rw[hd] at g1;cases g1;rw[g2];exact decide_eq_true rfl) (λm hm hlt=>by
   obtain⟨d',g1,g2⟩:=look m hm;rw[g2];exact hno m d' hlt g1)) ⟨e,h1,?_⟩
 exact⟨.int (j:Int),H,I.kept (t':=s.toks+1) (λ_ _ e=>e),⟨_,rfl⟩,q j hd λm y hm hy=>of_decide_eq_false (hno m y hm hy)⟩
def zhu (ta:TE)(t:TA)(σ:St)(H:Hp)(Q:VK):Prop:=ta σ H λx H1=>match x with
 | .ref l=>(∃xs,H1 l=some (.lst xs))/\t σ H1 λvs H2=>match vs with
  | [.int n]=>∃ns:List Int,H2 l=some (.lst (ns.map V.int))/\n∈ns/\∀j:Nat,ns[j]?=some n->(∀(m:Nat) y,m<j->ns[m]?=some y->y≠n)->Q (.int (j:Int)) H2
  | _=>False
 | _=>False
theorem z7f {k:Nat}(hr:Room k X.A)(ho:PE X o ta)(ha:PA X (e::es) t)(az:attributeBase o "index" X.env (eval o X.env)=eval o X.env:=by rfl)
  (hfew:((backTo ac (starEach (e::es) X.env)).all (λx=>!x.1)&&(backToKw ac (keywordEach [] X.env)).all (λx=>x.1.isSome)
  &&decide ((e::es).length+([]:List Keyword).length+(if ([]:List Keyword).isEmpty then 0 else 1)<30))=true:=by rfl)
  (ar:(ah.endLine==ac.line)=true:=by rfl) (hs:starEach (e::es) X.env=(false,eval e X.env)::starEach es X.env:=by rfl) (aO:(backTo ac (starEach es X.env)).any (·.1)=false:=by rfl) :
  PE X (.Call (.Attribute o "index" ah) (e::es) [] ac) (zhu ta t) :=
 z3c (ziv y1w PySem.F.slot_list_index PySem.F.type_list_index (zej hr) (z0f ho) (z8h ha) az hfew ar hs aO) fun σ H Q h=>⟨_,h,λx H1 q=>by
  split at q
  ·obtain⟨⟨xs,h1⟩,h2⟩:=q;refine⟨.inl ⟨rfl,_,SqL.of h1⟩,_,h2,λvs H2 q2=>?_⟩
   split at q2
   ·obtain⟨ns,h3,h4,h5⟩:=q2;exact⟨_,ns,_,rfl,rfl,h3,h4,h5⟩
   ·exact q2.elim
  ·exact q.elim⟩
def zxb (ta:TE)(t:TA)(σ:St)(H:Hp)(Q:VK):Prop:=ta σ H λx H1=>match x with
 | .ref l=>(∃xs,H1 l=some (.lst xs))/\t σ H1 λvs H2=>match vs with
  | [.ref b]=>∃xs zs,H2 l=some (.lst xs)/\H2 b=some (.lst zs)/\xs.length+zs.length≤sizeLine/\Q .non (upd H2 l (.lst (xs++zs)))
  | _=>False
 | _=>False
theorem z6i (ho:PE X o ta)(ha:PA X (e::es) t)(az:attributeBase o "extend" X.env (eval o X.env)=eval o X.env:=by rfl)
  (hfew:((backTo ac (starEach (e::es) X.env)).all (λx=>!x.1)&&(backToKw ac (keywordEach [] X.env)).all (λx=>x.1.isSome)
  &&decide ((e::es).length+([]:List Keyword).length+(if ([]:List Keyword).isEmpty then 0 else 1)<30))=true:=by rfl)
  (ar:(ah.endLine==ac.line)=true:=by rfl) (hs:starEach (e::es) X.env=(false,eval e X.env)::starEach es X.env:=by rfl) (aO:(backTo ac (starEach es X.env)).any (·.1)=false:=by rfl) :
  PE X (.Call (.Attribute o "extend" ah) (e::es) [] ac) (zxb ta t) :=
 z3c (ziv y1w PySem.F.slot_list_extend PySem.F.type_list_extend zcp (z0f ho) (z8h ha) az hfew ar hs aO) fun σ H Q h=>⟨_,h,λx H1 q=>by
  split at q
  ·obtain⟨⟨xs,h1⟩,h2⟩:=q;refine⟨.inl ⟨rfl,_,SqL.of h1⟩,_,h2,λvs H2 q2=>?_⟩
   split at q2
   ·obtain⟨ns,zs,h3,h4,h5,h6⟩:=q2;exact⟨_,_,ns,zs,rfl,rfl,h3,h4,h5,h6⟩
   ·exact q2.elim
  ·exact q.elim⟩
end
end L2.EX
set_option Elab.async false
set_option linter.all false
set_option maxRecDepth 100000
set_option Elab.async false
set_option linter.all false
set_option maxRecDepth 100000
namespace L2
open PySem PySem.Spec PyProof.Rows
end L2
namespace L2
open PySem PySem.Spec PyProof.Rows
section
variable (P:Program)(w:World)
end
section
variable {P:Program}{w:World}{H H':Hp}{h h':Heap}{a:Addr}{o:HO}
end
section
variable {P:Program}{w:World}{H:Hp}{h h':Heap}{x e:Addr}{o':HO}
end
section
variable {fs fs' ex ex':List Addr}{H H1 H2:Hp}{h h1 h2 h':Heap}{a x e:Addr}{o:HO}
end
end L2
namespace L2
open PySem PySem.Spec PyProof.Rows
section
variable {X:Cx}{aa:List (Addr×Obj)}{σ:List (Option V)}{H H':Hp}{s:Shared}{h':Heap}
end
end L2
namespace L2
open PySem PySem.Spec PyProof.Rows
section
variable {X:Cx}
variable {a b:Expr}{ta tb:TE}{pos:Pos}
variable {tA tB':TT}{rest:List Expr}
end
end L2
namespace L2
open PySem PySem.Spec PyProof.Rows
section
variable {X:Cx}{aa:List (Addr×Obj)}{σ:St}{H:Hp}{s:Shared}{a:Addr}{xs ys:List V}
end
section
variable {X:Cx}{aa:List (Addr×Obj)}{σ:St}{H:Hp}{s:Shared}{E:Value->Shared->Prop}
end
section
variable {X:Cx}{st:Stmt}{rest:List Stmt}{t u:TS}{e:Expr}{te:TE}{pos:Pos}
end
section
variable {X:Cx}{pos:Pos}
end
section
variable {X:Cx}{pos:Pos}
end
end L2
namespace L2
open PySem PySem.Spec PyProof.Rows
section
variable {X:Cx}{tg:Expr}
end
end L2
namespace L2
open PySem PySem.Spec PyProof.Rows
section
variable {X:Cx}{a b c:Expr}{ta tb tc:TE}{pos:Pos}
end
section
variable {X:Cx}{a b c:Expr}{ta tb tc:TE}{pos:Pos}
end
end L2
namespace L2
open PySem PySem.Spec PyProof.Rows
section
variable {prog:Program}{w:World}{A:Around}{E:Value->Shared->Prop}{s:Shared}{K:y00}{x dx C f:Addr}{mA:Str->Option Value}{name:Str}{v:Value}
end
section
variable {P:Program}{w:World}{H H':Hp}{h h':Heap}{a C dx:Addr}{fs fs':List (Str×V)}
end
section
variable {X:Cx}{aa:List (Addr×Obj)}{σ:St}{H:Hp}{s:Shared}{a C dx:Addr}{fs:List (Str×V)}{f:Str}{v:V}{A:Around}{E:Value->Shared->Prop}
end
section
variable {X:Cx}{o e value:Expr}{f:Str}{pos au tpos:Pos}{ta tv:TE}
end
section
variable {X:Cx}{aa:List (Addr×Obj)}{σ:St}{H:Hp}{s:Shared}{A:Around}{E:Value->Shared->Prop}{Q:Value->Shared->Prop}{c:Value}{b:Bool}
end
end L2
namespace L2
open PySem PySem.Spec PyProof.Rows
section
variable {X:Cx}{e:Expr}{es:List Expr}{te:TE}{t:TA}{pos:Pos}
end
section
variable {X:Cx}{aa:List (Addr×Obj)}{σ:St}{H:Hp}{s s':Shared}
end
section
variable {X:Cx}{CX:CXT}{k:Nat}{f C:Addr}{fd:FuncData}{ps:List Str}{sp:Sp}{dvs:List V}{ds:List Value}{E:XK}{x m:Str}{p pos ah:Pos}{e o:Expr}{es:List Expr}{ta:TE}{t:TA}
end
section
variable {X:Cx}{CX:CXT}{k:Nat}{f C:Addr}{fd:FuncData}{ps ks:List Str}{sp:Sp}{E:XK}{x m:Str}{p pos ah kpos:Pos}{e o:Expr}{es:List Expr}{kws:List Keyword}{te ta:TE}{t tk:TA}{nm:Option Str}
variable {g:List Value->List Value->List Value}{gV:List V->List V->List V}
end
end L2
namespace L2
open PySem PySem.Spec PyProof.Rows
section
variable {X:Cx}{x:Str}{p pos:Pos}{e:Expr}{es:List Expr}{t:TA}{id T:String}{r:List V->Hp->VK->Prop}
end
end L2
namespace L2
open PySem PySem.Spec PyProof.Rows
section
variable {κ:Type} [DecidableEq κ]
def z69 (kvs:List (κ×V))(k:κ):Option V:=(kvs.find? λkv=>decide (kv.1=k)).map (·.2)
def z26 (kvs:List (κ×V))(k:κ)(v:V):List (κ×V) :=
 if (kvs.any λkv=>decide (kv.1=k))=true then kvs.map (λkv=>if kv.1=k then (kv.1,v) else kv) else kvs ++ [(k,v)]
def z5k (kvs:List (κ×V))(k:κ):List (κ×V):=kvs.filter λkv=>decide (kv.1≠k)
theorem z3m {p:κ×V}{r:List (κ×V)}{k:κ}(e:p.1=k):z69 (p::r) k=some p.2:=by simp[z69,y2g,e]
theorem z3l {p:κ×V}{r:List (κ×V)}{k:κ}(e:¬p.1=k):z69 (p::r) k=z69 r k:=by simp[z69,y2g,e]
theorem z90 (k:κ):∀kvs:List (κ×V),(kvs.any λkv=>decide (kv.1=k))=(z69 kvs k).isSome
 | []=>rfl
 | p::r=>by
  rw[y1o]
  by_cases e:p.1=k
  ·simp only[z3m e,decide_eq_true e,Bool.true_or,Option.isSome_some]
  ·rw[z3l e,decide_eq_false e,y58];exact z90 k r
theorem z27 (kvs:List (κ×V))(k:κ)(v:V):(z26 kvs k v).length≤kvs.length+1:=by
 unfold z26
 split
 ·rw[y0e];omega
 ·rw[y0k,y0u,List.length_nil];omega
theorem RelO.isSome_eq {o:Option V}{u:Option Value}(r:RelO o u):o.isSome=u.isSome:=by
 cases o with
 | none=>cases u with
  | none=>rfl
  | some _=>exact(show False from r).elim
 | some _=>cases u with
  | none=>exact(show False from r).elim
  | some _=>rfl
theorem RelO.getD {o:Option V}{u:Option Value}{d:V}{d':Value}(r:RelO o u)(rd:RelV d d'):RelV (o.getD d) (u.getD d'):=by
 cases o with
 | none=>cases u with
  | none=>exact rd
  | some _=>exact(show False from r).elim
 | some _=>cases u with
  | none=>exact(show False from r).elim
  | some _=>exact r
theorem KV.val {kvs:List (κ×V)}{vs:List (κ×Value)}(r:KV kvs vs)(k:κ):RelO (z69 kvs k) (valueAt vs k):=by
 unfold KV at r
 induction r with
 | nil=>exact True.intro
 | @cons p q ps qs h t ih =>
  obtain⟨h1,h2⟩:=h
  by_cases e:p.1=k
  ·have e':q.1=k:=h1.symm.trans e;have b:valueAt (q::qs) k=some q.2:=by simp[valueAt,y2g,e']
   rw[z3m e,b];exact h2
  ·have e':¬q.1=k:=λz=>e (h1.trans z);have b:valueAt (q::qs) k=valueAt qs k:=by simp[valueAt,y2g,e']
   rw[z3l e,b];exact ih
theorem KV.any {kvs:List (κ×V)}{vs:List (κ×Value)}(r:KV kvs vs)(k:κ):(kvs.any λkv=>decide (kv.1=k))=vs.any λkv=>decide (kv.1=k):=by
 unfold KV at r
 induction r with
 | nil=>rfl
 | cons h t ih=>rw[y1o,y1o,ih,h.1]
theorem KV.repl {kvs:List (κ×V)}{vs:List (κ×Value)}(r:KV kvs vs)(k:κ){y:V}{u:Value}(ry:RelV y u) :
  KV (kvs.map λkv=>if kv.1=k then (kv.1,y) else kv) (vs.map λkv=>if kv.1=k then (kv.1,u) else kv):=by
 unfold KV at r ⊢
 induction r with
 | nil=>exact .nil
 | @cons p q ps qs h t ih =>
  rw[y10,y10];refine .cons ?_ ih;obtain⟨h1,h2⟩:=h
  by_cases e:p.1=k
  ·rw[if_pos e,if_pos (h1.symm.trans e)];exact⟨h1,ry⟩
  ·rw[if_neg e,if_neg (λz=>e (h1.trans z))];exact⟨h1,h2⟩
theorem KV.put {kvs:List (κ×V)}{vs:List (κ×Value)}(r:KV kvs vs)(k:κ){y:V}{u:Value}(ry:RelV y u):KV (z26 kvs k y) (stored vs k u):=by
 unfold z26 stored;rw[r.any k]
 by_cases e:(vs.any λkv=>decide (kv.1=k))=true
 ·rw[if_pos e,if_pos e];exact r.repl k ry
 ·rw[if_neg e,if_neg e];exact Paired.snoc r ⟨rfl,ry⟩
theorem KV.drop {kvs:List (κ×V)}{vs:List (κ×Value)}(r:KV kvs vs)(k:κ):KV (z5k kvs k) (without vs k):=by
 unfold KV at r ⊢
 unfold z5k without
 induction r with
 | nil=>exact .nil
 | @cons p q ps qs h t ih =>
  obtain⟨h1,h2⟩:=h;rw[y47,y47]
  by_cases e:p.1=k
  ·have a:¬decide (p.1≠k)=true:=by simp[e]
   have b:¬decide (q.1≠k)=true:=by simp[h1.symm.trans e]
   rw[if_neg a,if_neg b];exact ih
  ·have e':¬q.1=k:=λz=>e (h1.trans z);have a:decide (p.1≠k)=true:=by simp[e]
   have b:decide (q.1≠k)=true:=by simp[e']
   rw[if_pos a,if_pos b];exact .cons ⟨h1,h2⟩ ih
theorem KV.length {kvs:List (κ×V)}{vs:List (κ×Value)}(r:KV kvs vs):kvs.length=vs.length:=Paired.length r
theorem zf5 (kvs:List (κ×V))(k:κ):(z5k kvs k).length≤kvs.length:=List.length_filter_le _ _
end
theorem z65 {P:Program}{w:World}{k:Key}{u:Value}(r:RelV (kV k) u):(z0d P w).is k u=true:=by
 cases k with
 | inl i=>obtain⟨t,e⟩:=(show ∃t,u=Value.int i t from r);subst e;exact z7o P w i t
 | inr x=>obtain⟨t,e⟩:=(show ∃t,u=Value.str x t from r);subst e;exact z89 P w x t
theorem z7e {P:Program}{w:World}:∀{ks:List Key} {us:List Value},Vals (ks.map kV) us->ItemsAre (z0d P w) ks us
 | [],_,r=>by rw[List.map_nil] at r;cases r;exact .nil
 | k::ks,_,r=>by
  rw[y10] at r;cases r with
  | cons h t=>exact .cons (z65 h) (z7e t)
abbrev KT (H:Hp):List (List Key×V)->List (List Key×Addr×Value)->Prop:=Paired λp q=>p.1=q.1/\H q.2.1=some (.tup (p.1.map kV))/\RelV p.2 q.2.2
theorem KT.val {H:Hp}{kvs:List (List Key×V)}{xs:List (List Key×Addr×Value)}(r:KT H kvs xs)(k:List Key):RelO (z69 kvs k) ((atKey xs k).map (·.2)):=by
 induction r with
 | nil=>exact True.intro
 | @cons p q ps qs h t ih =>
  obtain⟨h1,_,h2⟩:=h
  by_cases e:p.1=k
  ·have e':q.1=k:=h1.symm.trans e;have b:atKey (q::qs) k=some q.2:=by simp[atKey,y2g,e']
   rw[z3m e,b];exact h2
  ·have e':¬q.1=k:=λz=>e (h1.trans z);have b:atKey (q::qs) k=atKey qs k:=by simp[atKey,y2g,e']
   rw[z3l e,b];exact ih
theorem KT.repl {H:Hp}{kvs:List (List Key×V)}{xs:List (List Key×Addr×Value)}(r:KT H kvs xs)(k:List Key){y:V}{u:Value}(ry:RelV y u) :
  KT H (kvs.map λkv=>if kv.1=k then (kv.1,y) else kv) (xs.map (putAt k u)):=by
 induction r with
 | nil=>exact .nil
 | @cons p q ps qs h t ih =>
  rw[y10,y10];refine .cons ?_ ih;obtain⟨h1,h2,h3⟩:=h;unfold putAt
  by_cases e:p.1=k
  ·rw[if_pos e,if_pos (h1.symm.trans e)];exact⟨h1,h2,ry⟩
  ·rw[if_neg e,if_neg (λz=>e (h1.trans z))];exact⟨h1,h2,h3⟩
theorem KT.put {H:Hp}{kvs:List (List Key×V)}{xs:List (List Key×Addr×Value)}(r:KT H kvs xs)(k:List Key){b:Addr}{y:V}{u:Value}(hb:H b=some (.tup (k.map kV)))(ry:RelV y u) :
  KT H (z26 kvs k y) (storedH xs k b u):=by
 have e:(kvs.any λkv=>decide (kv.1=k))=(atKey xs k).isSome:=by
  rw[z90,(r.val k).isSome_eq,y3w]
 unfold z26 storedH;rw[e]
 by_cases q:(atKey xs k).isSome=true
 ·rw[if_pos q,if_pos q];exact r.repl k ry
 ·rw[if_neg q,if_neg q];exact Paired.snoc r ⟨rfl,hb,ry⟩
theorem KT.keeps {H H':Hp}{kvs:List (List Key×V)}{xs:List (List Key×Addr×Value)}(r:KT H kvs xs)(ht:∀b ys,H b=some (.tup ys)->H' b=some (.tup ys)):KT H' kvs xs :=
 Paired.mapP r λ_ _ z=>⟨z.1,ht _ _ z.2.1,z.2.2⟩
section
variable {P:Program}{w:World}{H:Hp}{h:Heap}{a:Addr}
theorem zmq {u:HO}(ok:HOk P w H h)(e:Rd H a u):ObjOk P w H h a u:=e.ok ok
theorem z4b {kvs:List (Key×V)}(ok:HOk P w H h)(e:Rd H a (.dK kvs)):kvs.length≤sizeLine/\(a==sysModules)=false/\∃vs,KV kvs vs/\h.DictOf (z0d P w) a vs :=
 show ObjOk P w H h a (.dK kvs) from zmq ok e
theorem zan {kvs:List (Key×V)}(ok:HOk P w H h)(e:H a=some (.dK kvs)):kvs.length≤sizeLine/\(a==sysModules)=false/\∃vs,KV kvs vs/\h.DictOf (z0d P w) a vs:=z4b ok (.inl e)
theorem z59 {ks:List Key}(ok:HOk P w H h)(e:H a=some (.tup (ks.map kV))):(tupleKind (z0d P w)).is h ks a:=by
 obtain⟨_,its,r,o,h1,h2,n,h3⟩:=(show ObjOk P w H h a (.tup (ks.map kV)) from ok a _ e)
 exact⟨o,its.toArray,n,h1,h2,h3,by simpa using z7e r⟩
theorem z8j {kvs:List (List Key×V)}(ok:HOk P w H h)(e:Rd H a (.dT kvs)):kvs.length≤sizeLine/\(a==sysModules)=false /\
  ∃xs,KT H kvs xs/\h.DictOfH (tupleKind (z0d P w)) a xs:=by
 obtain⟨z,y,xs,r,o,es,ep,h1,h2,h3,h4,h5⟩:=(show ObjOk P w H h a (.dT kvs) from zmq ok e)
 refine⟨z,y,xs,r,o,es,ep,h1,h2,h3,h4,λx hx=>?_,h5⟩;have all:∀{l:List (List Key×V)} {m:List (List Key×Addr×Value)},KT H l m->∀x∈m,(tupleKind (z0d P w)).is h x.1 x.2.1:=by
  intro l m q
  induction q with
  | nil=>intro x hx;exact nomatch hx
  | @cons p q ps qs hq t ih =>
   intro x hx;rcases y0a.mp hx with e | hx
   ·subst e;exact z59 ok (by rw[←hq.1];exact hq.2.1)
   ·exact ih x hx
 exact all r x hx
theorem zug {kvs:List (List Key×V)}(ok:HOk P w H h)(e:H a=some (.dT kvs)):kvs.length≤sizeLine/\(a==sysModules)=false /\
  ∃xs,KT H kvs xs/\h.DictOfH (tupleKind (z0d P w)) a xs:=z8j ok (.inl e)
end
def ze8 (H:Hp)(a:Addr)(y:V)(r:Option V):Prop :=
 (∃kvs k,Rd H a (.dK kvs)/\y=kV k/\r=z69 kvs k)∨∃kvs k b,Rd H a (.dT kvs)/\y = .ref b/\H b=some (.tup (k.map kV))/\r=z69 kvs k
def DPut (H:Hp)(a:Addr)(y v:V)(H':Hp):Prop :=
 (∃kvs k,H a=some (.dK kvs)/\y=kV k/\kvs.length<sizeLine/\H'=upd H a (.dK (z26 kvs k v))) ∨
 ∃kvs k b,H a=some (.dT kvs)/\y = .ref b/\H b=some (.tup (k.map kV))/\kvs.length<sizeLine/\H'=upd H a (.dT (z26 kvs k v))
theorem DPut.k {H:Hp}{a:Addr}{kvs:List (Key×V)}{k:Key}{v:V}(e:H a=some (.dK kvs))(hl:kvs.length<sizeLine):DPut H a (kV k) v (upd H a (.dK (z26 kvs k v))):=.inl ⟨kvs,k,e,rfl,hl,rfl⟩
section
variable {X:Cx}{aa:List (Addr×Obj)}{σ:St}{H:Hp}{s:Shared}{a:Addr}{y v:V}{u r:Value}{o:Option V}{A:Around}{E:Value->Shared->Prop}
theorem Inv.big (I:Inv X aa σ H s):sysModules<s.heap.objs.size:=by
 have h:mainGlobals<s.heap.objs.size:=(I.mod.glob.keeps I.bk).lt;exact y4k (by decide) h
theorem zcz {Q:Value->Shared->Prop}(hu:A.units+1<cLine)(I:Inv X aa σ H s)(g:ze8 H a y (some v))(ry:RelV y u)(h:∀w' s',Inv X aa σ H s'->RelV v w'->Q w' s') :
  wpAny (model X.prog X.w) A (getItem (.ref a) u) Q E s:=by
 rcases g with ⟨kvs,k,e,ey,l⟩ | ⟨kvs,k,b,e,ey,eb,l⟩
 ·subst ey;obtain⟨z,hd,vs,rel,dd⟩:=z4b I.hok e;obtain⟨w',hw,rw'⟩:=RelO.some_of (v:=v) (o:=valueAt vs k) (by rw[l];exact rel.val k)
  exact wpAny_getItem_of (z65 ry) dd.mapOf hw (h w' _ (I.tok _) rw')
 ·subst ey;cases (show u=Value.ref b from ry)
  obtain⟨z,hd,xs,rel,dd⟩:=z8j I.hok e;obtain⟨w',hw,rw'⟩:=RelO.some_of (v:=v) (o:=(atKey xs k).map (·.2)) (by rw[l];exact rel.val k)
  obtain⟨p,hp,hp2⟩:=y1k.mp hw;refine wpAny_getItem_heap (tupleKind_room_in1 hu) (z59 I.hok eb) dd hp ?_;rw[hp2];exact h w' _ (I.tok _) rw'
theorem zxq {Q:Value->Shared->Prop}(hu:A.units+1<cLine)(I:Inv X aa σ H s)(g:ze8 H a y o)(ry:RelV y u)(h:∀s',Inv X aa σ H s'->Q (.bool o.isSome) s') :
  wpAny (model X.prog X.w) A (compareOp .In u (.ref a)) Q E s:=by
 rcases g with ⟨kvs,k,e,ey,l⟩ | ⟨kvs,k,b,e,ey,eb,l⟩
 ·subst ey;obtain⟨z,hd,vs,rel,dd⟩:=z4b I.hok e;refine wpAny_in_of (z65 ry) hd dd.mapOf ?_;rw[←(rel.val k).isSome_eq,←l];exact h _ (I.tok _)
 ·subst ey;cases (show u=Value.ref b from ry)
  obtain⟨z,hd,xs,rel,dd⟩:=z8j I.hok e;refine wpAny_in_heap (tupleKind_room_in1 hu) (z59 I.hok eb) hd dd ?_;have q:=(rel.val k).isSome_eq;rw[y3w] at q;rw[←q,←l];exact h _ (I.tok _)
theorem zjy {Q:Value->Shared->Prop}(hu:A.units+1<cLine)(I:Inv X aa σ H s)(g:ze8 H a y o)(ry:RelV y u)(h:∀s',Inv X aa σ H s'->Q (.bool (!o.isSome)) s') :
  wpAny (model X.prog X.w) A (compareOp .NotIn u (.ref a)) Q E s:=by
 rcases g with ⟨kvs,k,e,ey,l⟩ | ⟨kvs,k,b,e,ey,eb,l⟩
 ·subst ey;obtain⟨z,hd,vs,rel,dd⟩:=z4b I.hok e;refine wpAny_notIn_of (z65 ry) hd dd.mapOf ?_;rw[←(rel.val k).isSome_eq,←l];exact h _ (I.tok _)
 ·subst ey;cases (show u=Value.ref b from ry)
  obtain⟨z,hd,xs,rel,dd⟩:=z8j I.hok e;refine wpAny_notIn_heap (tupleKind_room_in1 hu) (z59 I.hok eb) hd dd ?_;have q:=(rel.val k).isSome_eq;rw[y3w] at q;rw[←q,←l];exact h _ (I.tok _)
theorem z3t {h':Heap}{t':Nat}{ob:HO}(I:Inv X aa σ H s)(mu:Mut (H a))(hs:Heap.SameBut a s.heap h')(he:∃q,h'.get? a=some q)(new:ObjOk X.prog X.w (upd H a ob) h' a ob) :
  Inv X aa σ (upd H a ob) { s with heap:=h',toks:=t' } :=
 I.write (x:=a) (e:=a) mu (.inl rfl) (λb q hb z=>(hs.2 b hb).trans z) he new
theorem z8l {P:Program}{w:World}{H':Hp}{h':Heap}{kvs:List (Key×V)}{vs:List (Key×Value)}(z:kvs.length≤sizeLine)(hd:(a==sysModules)=false)(rel:KV kvs vs)(dd:h'.DictOf (z0d P w) a vs) :
  ObjOk P w H' h' a (.dK kvs):=⟨z,hd,vs,rel,dd⟩
theorem zbp {H':Hp}{Q:Unit->Shared->Prop}(hu:A.units+1<cLine)(I:Inv X aa σ H s)(g:DPut H a y v H')(ry:RelV y u)(rv:RelV v r)(h:∀s',Inv X aa σ H' s'->Q () s') :
  wpAny (model X.prog X.w) A (setItem (.ref a) u r) Q E s:=by
 rcases g with ⟨kvs,k,e,ey,l,eH⟩ | ⟨kvs,k,b,e,ey,eb,l,eH⟩
 ·subst ey eH;obtain⟨z,hd,vs,rel,dd⟩:=zan I.hok e;have hz:vs.length≤sizeLine:=by rw[←rel.length];exact z
  have hl:(z26 kvs k v).length≤sizeLine:=by have:=z27 kvs k v;omega
  refine wpAny_setItem_pairs (hsz:=hz) (z65 ry) dd λh' dd' hs=>h _ ?_;have he:∃q,h'.get? a=some q:=let ⟨q,_,_,hq,_⟩:=dd';⟨q,hq⟩
  exact z3t I (by rw[e];exact True.intro) hs he (z8l hl hd (rel.put k rv) dd')
 ·subst ey eH;cases (show u=Value.ref b from ry)
  obtain⟨z,hd,xs,rel,dd⟩:=zug I.hok e;have hz:xs.length≤sizeLine:=by rw[←Paired.length rel];exact z
  have hl:(z26 kvs k v).length≤sizeLine:=by have:=z27 kvs k v;omega
  refine wpAny_setItem_heap (hsz:=hz) (tupleKind_room_in1 hu) (z59 I.hok eb) dd λh' dd' hs=>h _ ?_;obtain⟨q,es,ep,hq,h2,h3,h4,_,h5⟩:=dd';refine z3t I (by rw[e];exact True.intro) hs ⟨q,hq⟩ ⟨hl,hd,_,(rel.put k eb rv).keeps λc ys ec=>?_,q,es,ep,hq,h2,h3,h4,h5⟩
  rw[z04 (ztv ec e (λz=>nomatch z))]
  exact ec
end
section
variable {X:Cx}{aa:List (Addr×Obj)}{σ:St}{H:Hp}{s:Shared}{a:Addr}{kvs:List (Key×V)}{k:Key}{u:Value}{A:Around}{E:Value->Shared->Prop}
theorem zvf {v:V}{more:List Value}{Q:Value->Shared->Prop}(I:Inv X aa σ H s)(e:H a=some (.dK kvs))(ry:RelV (kV k) u)(l:z69 kvs k=some v)(hm:more = []∨∃x,more = [x])
  (h:∀w' s',Inv X aa σ (upd H a (.dK (z5k kvs k))) s'->RelV v w'->Q w' s'):wpAny (model X.prog X.w) A (call (.builtin "dict.pop") (.ref a::u::more)) Q E s:=by
 obtain⟨z,hd,vs,rel,dd⟩:=zan I.hok e;obtain⟨w',hw,rw'⟩:=RelO.some_of (v:=v) (o:=valueAt vs k) (by rw[←l];exact rel.val k)
 have hp:(keyPart u).isSome=true:=by
  cases k with
  | inl i=>obtain⟨t,q⟩:=(show ∃t,u=Value.int i t from ry);subst q;rfl
  | inr x=>obtain⟨t,q⟩:=(show ∃t,u=Value.str x t from ry);subst q;rfl
 have ha:argsOk "dict.pop" ⟨.ref a::u::more,[]⟩:=by
  rcases hm with q | ⟨x,q⟩
  ·subst q;exact PySem.F.args_dict_pop_2 _ _
  ·subst q;exact PySem.F.args_dict_pop_3 _ _ _
 refine call_meetsIn y4l dd.typeIs PySem.F.entry_dict_pop ha (meets_dict_pop_there (z0d X.prog X.w) a (z65 ry) more hm hp)
  ⟨vs,w',dd,by rw[←rel.length];exact z,hw,λh' dd' hs=>h w' _ ?_ rw'⟩
 have he:∃q,h'.get? a=some q:=let ⟨q,_,_,hq,_⟩:=dd';⟨q,hq⟩
 exact z3t I (by rw[e];exact True.intro) hs he (z8l (y0j (zf5 kvs k) z) hd (rel.drop k) dd')
theorem zs2 {Q:Value->Shared->Prop}(I:Inv X aa σ H s)(e:Rd H a (.dK kvs))(h:∀t s',Inv X aa σ H s'->Q (.int kvs.length t) s'):wpAny (model X.prog X.w) A (call (.builtin "len") [.ref a]) Q E s:=by
 obtain⟨z,hd,vs,rel,dd⟩:=z4b I.hok e;refine call_len_dict hd dd (by rw[←rel.length];rw[sizeLine_eq] at z;omega) ?_
 rw[←rel.length];exact h _ _ (I.tok _)
end
def zv8 (i:Expr):Prop:=∀ov iv,subscripted i false ov iv=operate [ov,iv] (getItem ov iv)
theorem zj7 {prog:Program}{w:World}{A:Around}{E:Value->Shared->Prop}{s:Shared}{env:Env}{value aK:Expr}{pos:Pos}{T id:String}{Q:Value->Shared->Prop}
  (hl:typeLookup (.type T) "__getitem__"=pure (some (.builtin id))) (hs:zv8 aK)
  (h:wpAny (model prog w) A (eval value env) (λo s₁=>wpAny (model prog w) A (eval aK env) (λi s₂=>s₂.TypeIs o T/\wpAny (model prog w) A (getItem o i) Q E s₂) E s₁) E s) :
  wpAny (model prog w) A (eval (.Subscript value aK pos) env) Q E s:=by
 refine Subscript_ (wpAny_mono h (λo s₁ h₁=>wpAny_mono h₁ (λi s₂ h₂=>?_) λ_ _ x=>x) λ_ _ x=>x);obtain⟨hT,h₂⟩:=h₂;unfold subscriptTail;refine wpAny_bind ?_;rw[getitemInPython_of_ne hT.not_modules];refine wpAny_bind (wpAny_specialOf hT hl ?_);have fin:wpAny (model prog w) A (subscripted aK false o i) (λr s₃=>wpAny (model prog w) A (letTemporaryGo value o r >>= λ_=>pure r) Q E s₃) E s₂:=by
  rw[hs o i];exact wpAny_operating (wpAny_mono h₂ (λr s₃ h₃=>wpAny_bind (wpAny_letTemporaryGo (wpAny_pure h₃))) λ_ _ x=>x)
 first
  | exact wpAny_pure (wpAny_bind fin)
  | exact wpAny_bind (wpAny_pure (wpAny_bind fin))
  | exact wpAny_bind fin
theorem z8i {X:Cx}{aa:List (Addr×Obj)}{σ:St}{H:Hp}{s:Shared}{a:Addr}{y:V}{o:Option V}(I:Inv X aa σ H s)(g:ze8 H a y o):s.TypeIs (.ref a) "dict":=by
 rcases g with ⟨kvs,k,e,_,_⟩ | ⟨kvs,k,b,e,_,_,_⟩
 ·obtain⟨_,_,vs,_,dd⟩:=z4b I.hok e;exact dd.typeIs
 ·obtain⟨_,_,xs,_,dd⟩:=z8j I.hok e;exact dd.typeIs
def zv4 (td ty:TE):TE:=fun σ H Q=>td σ H λx H1=>ty σ H1 λy H2=>∃a v,x = .ref a/\ze8 H2 a y (some v)/\Q v H2
def zl2 (td ty tv:TE):TS:=λD σ H=>tv σ H λv H1=>td σ H1 λx H2=>ty σ H2 λy H3=>∃a H4,x = .ref a/\DPut H3 a y v H4/\D.nx σ H4
section
variable {X:Cx}{o i e value:Expr}{pos au tpos:Pos}{td ty tv:TE}
theorem zj6 (hu:X.A.units+1<cLine)(ho:PE X o td)(hi:PE X i ty)(hs:zv8 i):PE X (.Subscript o i pos) (zv4 td ty):=by
 intro aa s σ H Q I h;refine zj7 PySem.F.slot_dict_getitem.lookup hs (thn (ho aa s σ H _ I h) λu s1 ⟨x,H1,I1,rx,q1⟩=>thn (hi aa s1 σ H1 _ I1 q1) λiv s2 ⟨y,H2,I2,ry,a,v,ex,g,q2⟩=>?_);subst ex;obtain rfl:u=Value.ref a:=rx;exact⟨z8i I2 g,zcz hu I2 g ry λw' s3 I3 rw'=>⟨v,H2,I3,rw',q2⟩⟩
theorem zj4 (hu:X.A.units+1<cLine)(ho:PE X o td)(hi:PE X i ty)(hv:PE X value tv)(hs:swapsWith value (some (.Subscript o i au)) pos.line X.env=pure false) :
  PS X (.Assign [.Subscript o i au] value pos) (zl2 td ty tv):=by
 intro aa s σ H D I h;refine wpAny_Assign_Subscript (thn (hv aa s σ H _ I h) λr s1 ⟨v,H1,I1,rv,q1⟩=>thn (ho aa s1 σ H1 _ I1 q1) λu s2 ⟨x,H2,I2,rx,q2⟩=>thn (hi aa s2 σ H2 _ I2 q2) λiv s3 ⟨y,H3,I3,ry,a,H4,ex,g,q3⟩=>?_) hs;subst ex;obtain rfl:u=Value.ref a:=rx;exact zbp hu I3 g ry rv λs4 I4=>⟨σ,H4,I4,q3⟩
end
theorem zfb {P:Program}{w:World}{H:Hp}(h:Heap)(hb:sysModules<h.objs.size):ObjOk P w H (h.push { cls:=.type "dict",data:=.dict #[] }) h.objs.size (.dK []) :=
 ⟨y2s _,beq_eq_false_iff_ne.mpr (Ne.symm (y06 hb)),[],.nil,Heap.DictOf.new h⟩
def zh4:TE:=λ_ H Q=>∀p,H p=none->Q (.ref p) (upd H p (.dK []))
section
variable {X:Cx}{pos:Pos}
theorem zf4:PE X (.Dict [] [] pos) zh4:=λaa s σ H Q I h =>
 wpAny_Dict_empty ⟨.ref s.heap.objs.size,_,I.laid (a:=s.heap.objs.size) (o:=.dK []) (t':=s.toks) (λ_ _ q=>Heap.get?_push_of_some _ q) (y08 _) (zfb s.heap I.big),rfl,h _ (I.hok.fresh (y08 _))⟩
end
def z3o (kvs more:List (Key×V)):List (Key×V):=more.foldl (λacc kv=>z26 acc kv.1 kv.2) kvs
theorem KV.merge:∀{more:List (Key×V)} {rs:List (Key×Value)} {kvs:List (Key×V)} {vs:List (Key×Value)},KV more rs->KV kvs vs->KV (z3o kvs more) (merged vs rs):=by
 intro more rs kvs vs r;unfold KV at r
 induction r generalizing kvs vs with
 | nil=>intro q;exact q
 | @cons p q ps qs h t ih =>
  intro r0;have e:KV (z26 kvs p.1 p.2) (stored vs q.1 q.2):=by
   have:=r0.put p.1 h.2;rw[←h.1];exact this
  exact ih e
theorem z2o:∀(more kvs:List (Key×V)),(z3o kvs more).length≤kvs.length+more.length
 | [],kvs=>by show kvs.length≤kvs.length+0;omega
 | p::r,kvs=>by
  have h1:=z2o r (z26 kvs p.1 p.2);have h2:=z27 kvs p.1 p.2
  show(z3o (z26 kvs p.1 p.2) r).length≤_;rw[y0u];omega
structure M1 (X:Cx)(o:Expr)(m:Str)(ah:Pos)(e:Expr)(ac:Pos):Prop where
 base:attributeBase o m X.env (eval o X.env)=eval o X.env
 few:((backTo ac (starEach [e] X.env)).all (λx=>!x.1)&&(backToKw ac (keywordEach [] X.env)).all (λx=>x.1.isSome)
 &&decide (([e]:List Expr).length+([]:List Keyword).length+(if ([]:List Keyword).isEmpty then 0 else 1)<30))=true
 line:(ah.endLine==ac.line)=true
 trees:backTo ac (starEach [e] X.env) = [(false,eval e X.env)]
structure M2 (X:Cx)(o:Expr)(m:Str)(ah:Pos)(e f:Expr)(ac:Pos):Prop where
 base:attributeBase o m X.env (eval o X.env)=eval o X.env
 few:((backTo ac (starEach [e,f] X.env)).all (λx=>!x.1)&&(backToKw ac (keywordEach [] X.env)).all (λx=>x.1.isSome)
 &&decide (([e,f]:List Expr).length+([]:List Keyword).length+(if ([]:List Keyword).isEmpty then 0 else 1)<30))=true
 line:(ah.endLine==ac.line)=true
 trees:backTo ac (starEach [e,f] X.env) = [(false,eval e X.env),(false,eval f X.env)]
def IsD (H:Hp)(a:Addr):Prop:=(∃kvs,Rd H a (.dK kvs))∨∃kvs,Rd H a (.dT kvs)
theorem z8z {X:Cx}{aa:List (Addr×Obj)}{σ:St}{H:Hp}{s:Shared}{a:Addr}(I:Inv X aa σ H s)(d:IsD H a) :
  s.TypeIs (.ref a) "dict"/\(∀b,Value.ref a = .ref b->∃ob,s.heap.get? b=some ob/\ob.dict=none)/\(a==sysModules)=false:=by
 rcases d with ⟨kvs,e⟩ | ⟨kvs,e⟩
 ·obtain⟨_,hd,vs,_,dd⟩:=z4b I.hok e;refine⟨dd.typeIs,λb q=>?_,hd⟩;cases q;obtain⟨ob,_,_,h1,h2,_⟩:=dd;exact⟨ob,h1,h2.2.1⟩
 ·obtain⟨_,hd,xs,_,dd⟩:=z8j I.hok e;refine⟨dd.typeIs,λb q=>?_,hd⟩;cases q;obtain⟨ob,_,_,h1,h2,_⟩:=dd;exact⟨ob,h1,h2.2.1⟩
section
variable {X:Cx}{aa:List (Addr×Obj)}{σ:St}{H:Hp}{s:Shared}{a:Addr}{y d:V}{u r:Value}{o:Option V}{A:Around}{E:Value->Shared->Prop}
theorem zq7 {Q:Value->Shared->Prop}(hu:A.units+1<cLine)(I:Inv X aa σ H s)(g:ze8 H a y o)(ry:RelV y u)(rd:RelV d r)(h:∀w' s',Inv X aa σ H s'->RelV (o.getD d) w'->Q w' s') :
  wpAny (model X.prog X.w) A (call (.builtin "dict.get") [.ref a,u,r]) Q E s:=by
 rcases g with ⟨kvs,k,e,ey,l⟩ | ⟨kvs,k,b,e,ey,eb,l⟩
 ·subst ey;obtain⟨z,hd,vs,rel,dd⟩:=z4b I.hok e;refine call_meetsIn y34 dd.typeIs y4d (y42 _ _ _) (meets_dict_get_default (z0d X.prog X.w) a (z65 ry) hd r) ⟨_,dd.mapOf,h _ _ (I.tok _) ?_⟩;rw[l];exact(rel.val k).getD rd
 ·subst ey;cases (show u=Value.ref b from ry)
  obtain⟨z,hd,xs,rel,dd⟩:=z8j I.hok e;refine call_meetsIn y34 dd.typeIs y4d (y42 _ _ _) (meetsH_dict_get_default (tupleKind (z0d X.prog X.w)) a b hd r) ⟨tupleKind_room_in1 hu,k,xs,z59 I.hok eb,dd,h _ _ (I.tok _) ?_⟩;rw[l];exact(rel.val k).getD rd
end
def zh6 (td ty tx:TE):TE:=fun σ H Q=>td σ H λx H1=>∃a,x = .ref a/\IsD H1 a/\ty σ H1 λy H2=>tx σ H2 λz H3=>∃o,ze8 H3 a y o/\Q (o.getD z) H3
def zgu (td ty:TE):TE:=fun σ H Q=>td σ H λx H1=>∃a,x = .ref a/\IsD H1 a/\ty σ H1 λy H2=>∃kvs k v,H2 a=some (.dK kvs)/\y=kV k/\z69 kvs k=some v/\Q v (upd H2 a (.dK (z5k kvs k)))
section
variable {X:Cx}{o e f:Expr}{ah ac:Pos}{td ty tx:TE}
theorem zga (hu:X.A.units+1<cLine)(ho:PE X o td)(he:PE X e ty)(hf:PE X f tx)(m:M2 X o "get" ah e f ac):PE X (.Call (.Attribute o "get" ah) [e,f] [] ac) (zh6 td ty tx):=by
 intro aa s σ H Q I h;refine wpAny_Call_method m.base m.few m.line y2a y34 PySem.F.type_dict_get (thn (ho aa s σ H _ I h) λu s1 ⟨x,H1,I1,rx,a,ex,d,q1⟩=>?_);subst ex;obtain rfl:u=Value.ref a:=rx;obtain⟨t1,t2,_⟩:=z8z I1 d;refine⟨t1,t2,?_⟩;rw[m.trees];refine Calls.callWith_builtin rfl (Calls.evalArgs_plain (Calls.spliced_cons (thn (he aa s1 σ H1 _ I1 q1) λiv s2 ⟨y,H2,I2,ry,q2⟩ =>
  Calls.spliced_cons (thn (hf aa s2 σ H2 _ I2 q2) λfv s3 ⟨z,H3,I3,rz,ov,g,q3⟩=>Calls.spliced_nil ?_))))
 exact zq7 hu I3 g ry rz λw' s4 I4 rw'=>⟨_,H3,I4,rw',q3⟩
theorem zg6 (ho:PE X o td)(he:PE X e ty)(m:M1 X o "pop" ah e ac):PE X (.Call (.Attribute o "pop" ah) [e] [] ac) (zgu td ty):=by
 intro aa s σ H Q I h;refine wpAny_Call_method m.base m.few m.line y2a y4l PySem.F.type_dict_pop (thn (ho aa s σ H _ I h) λu s1 ⟨x,H1,I1,rx,a,ex,d,q1⟩=>?_);subst ex;obtain rfl:u=Value.ref a:=rx;obtain⟨t1,t2,_⟩:=z8z I1 d;refine⟨t1,t2,?_⟩;rw[m.trees];refine Calls.callWith_builtin rfl (Calls.evalArgs_plain (Calls.spliced_cons (thn (he aa s1 σ H1 _ I1 q1) λiv s2 ⟨y,H2,I2,ry,kvs,k,v,ea,ey,l,q2⟩=>Calls.spliced_nil ?_)));subst ey;exact zvf I2 ea ry l (.inl rfl) λw' s3 I3 rw'=>⟨v,_,I3,rw',q2⟩
end
section
variable {X:Cx}{aa:List (Addr×Obj)}{σ:St}{H:Hp}{s:Shared}{a:Addr}{kvs:List (Key×V)}{A:Around}{E:Value->Shared->Prop}
theorem zfh {Q:Value->Shared->Prop}(I:Inv X aa σ H s)(e:Rd H a (.dK kvs))(h:∀p s',H p=none->Inv X aa σ (upd H p (.dK kvs)) s'->Q (.ref p) s'):wpAny (model X.prog X.w) A (call (.type "dict") [.ref a]) Q E s:=by
 obtain⟨z,hd,vs,rel,dd⟩:=z4b I.hok e;refine kt_call_dict hd dd (by rw[←rel.length];exact z) λh' dd' hs=>?_
 refine h _ _ (I.hok.fresh (y08 _)) (I.laid (a:=s.heap.objs.size) (o:=.dK kvs) (t':=s.toks) (λb q hq=>?_) (y08 _) (z8l z (beq_eq_false_iff_ne.mpr (Ne.symm (y06 I.big))) rel dd'));exact(hs.2 b (y06 (Heap.lt_size hq))).trans (Heap.get?_push_of_some _ hq)
end
section
variable {X:Cx}{aa:List (Addr×Obj)}{σ:St}{H:Hp}{s:Shared}{a:Addr}{y:V}{u:Value}{A:Around}{E:Value->Shared->Prop}
end
end L2
namespace Att
open PySem PySem.W PySem.Calls PyProof.Rows
section
variable {prog:Program}{w:World}{A:Around}{E:Value->Shared->Prop}{s:Shared}{K:Frag}
end
end Att
namespace L2
open PySem PySem.Spec PyProof.Rows
end L2
namespace L2
open PySem PySem.Spec PyProof.Rows
end L2
namespace L2
open PySem PySem.Spec PyProof.Rows
section
variable {P:Program}{w:World}{K:y00}{mg:Str->Option Value}{base:Heap}
end
section
variable {X:Cx}
end
section
variable {κ:Type} [DecidableEq κ]
end
end L2
set_option Elab.async false
set_option linter.all false
set_option maxRecDepth 100000
namespace PySem
theorem z37:typeLookup (.type "list") "keys"=pure none:=by rw[typeLookup_type,builtinLookup_eq_fast];kernel_rfl
theorem z2i:entryFor table "dict.update.loop"=some Builtin.«dict.update.loop»:=entryFor_of_tree (by kernel_rfl)
theorem z10:plainId "dict.update.loop"=true:=by decide +kernel
section
variable {prog:Program}{w:World}{A:Around}{E:Value->Shared->Prop}{s:Shared}
theorem getAttr?_keys_list {a:Addr}{xs:Array Value}{k:Nat}{Q:Option Value->Shared->Prop}(hx:s.heap.get? a=some { cls:=.type "list",data:=.seq xs k })(hA:A.handled=none)
  (h:∀h' tk,(∀b ob,s.heap.get? b=some ob->h'.get? b=some ob)->Q none { s with heap:=h',toks:=tk }) :
  wpAny (model prog w) A (getAttr? (.ref a) "keys") Q E s:=by
 obtain⟨hp,g,d,tk,os⟩:=s;have hT:∀tk',(⟨hp,g,d,tk',os⟩:Shared).TypeIs (.ref a) "list":=λ_=>⟨_,hx,rfl⟩;have f1:=sub_AttributeError
 have f3:=F.slot_list_getattribute.lookup;have f4:=F.slot_list_getattribute.bind (.ref a)
 have f5:=am_list_getattr_none;unfold getAttr? getAttrBy? getAttrBy
 repeat (any_goals (first | assumption | exact hT _ | ((with_reducible show wpAny _ _ (call (Value.builtin "list.__getattribute__") _ _) _ _ _);refine call_meets F.slot_list_getattribute (hT _) am_entry_list_getattribute (F.args_list_getattribute_2 _ _) (meets_getattribute_miss_list a xs k _ "keys" _ z37 (by decide +kernel) (by decide +kernel)) ⟨hx,hA,λh' tk' e hx'=>?_⟩) | wp_step))
 obtain⟨t',u',he⟩:=hx'.there;show wpAny _ _ (getattributeRaised _ _ _ _ _ _ _) _ _ _;unfold getattributeRaised
 repeat (any_goals (first | assumption | wp_step))
 exact h h' tk' hx'.keeps
end
section
variable {prog:Program}{w:World}{K:Type} [DecidableEq K] {knd:KeyKind prog w K}
def z5i (knd:KeyKind prog w K)(h:Heap)(items:Array Value)(ps:List (K×Value)):Prop :=
 items.size=ps.length/\∀(j:Nat) p,ps[j]?=some p->∃t key,items[j]?=some (.ref t)/\h.IsTuple t #[key,p.2]/\knd.is p.1 key=true
def z24 (kvs:List (K×Value))(ps:List (K×Value)):List (K×Value):=ps.foldl (λacc p=>stored acc p.1 p.2) kvs
theorem z54 (kvs:List (K×Value))(k:K)(v:Value):(stored kvs k v).length≤kvs.length+1:=by
 unfold stored
 split<;>simp
theorem zg0 (d it l:Addr)(items:Array Value)(ps:List (K×Value))(hdi:d≠it)(hdl:d≠l)(hil:it≠l)(n:Nat) :
  ∀(i:Nat) (kvs:List (K×Value)),items.size - i=n->i≤items.size->kvs.length+items.size≤sizeLine+i->∀(A:Around) (R:Result->Shared->Prop) (s:Shared),A.handled=none->s.heap.IsListIter it l i->s.heap.IsList l items->s.heap.DictOf knd d kvs->z5i knd s.heap items ps ->
   (∀(j:Nat) t,items[j]?=some (.ref t)->t≠d/\t≠it) ->
   (∀h' tk,h'.DictOf knd d (z24 kvs (ps.drop i))->(∀b o,b≠d->b≠it->s.heap.get? b=some o->h'.get? b=some o)->R (.ok (.ret .none)) { s with heap:=h',toks:=tk }) ->
   wpAny (model prog w) A.in1 (Builtin.«dict.update.loop» ⟨[.ref d,.ref it,rawInt i,.none],[]⟩)
    (λfin s'=>match fin with
     | .done f=>R (.ok f) s'
     | .again c'=>c'.quiet=true/\codeAny (model prog w) A c' R s') (λe s'=>R (.error e) s') s:=by
 induction n with
 | zero =>
  intro i kvs hn hi hz A R s hA hit hl hd hp ht hq;unfold Builtin.«dict.update.loop»;have e:i=items.size:=by omega
  subst e;refine wpAny_bind (wpAny_pyNext_list_end (show A.in1.handled=none from hA) hit hl (by simp) λh' eb=>?_)
  refine wpAny_bind (m:=Builtin.Dict.addKeywords d []) (wpAny_of_eq (a:=()) (by first | rfl | (unfold Builtin.Dict.addKeywords;rfl)) ?_)
  refine wpAny_pure ?_;have e1:ps.drop items.size = []:=y4e (by rw[hp.1];exact y08 _)
  rw[e1] at hq;have hd':h'.DictOf knd d kvs:=by
   obtain⟨o,es,ep,ho,r⟩:=hd;exact⟨o,es,ep,eb d o hdi ho,r⟩
  exact hq h' s.toks hd' λb o _ hb ho=>eb b o hb ho
 | succ n ih =>
  intro i kvs hn hi hz A R s hA hit hl hd hp ht hq;unfold Builtin.«dict.update.loop»;have hlt:i<items.size:=by omega
  have hpi:ps[i]?=some (ps[i]'(by rw[←hp.1];exact hlt)):=y02 _
  generalize ps[i]'(by rw[←hp.1];exact hlt)=p at hpi
  obtain⟨t,key,h1,h2,h3⟩:=hp.2 i p hpi;refine wpAny_bind (wpAny_pyNext_list_item hit hl h1 λh' hit' sb=>?_);have tne:=ht i t h1;have keep:∀b o,b≠it->s.heap.get? b=some o->h'.get? b=some o:=λb o hb ho=>(sb.2 b hb).trans ho
  obtain⟨ot,hot,hct,nt,hdt⟩:=h2;have hot':h'.get? t=some ot:=keep t ot tne.2 hot;refine wpAny_bind (wpAny_holding ?_);refine wpAny_bind (wpAny_tryCatch ?_);unfold Builtin.Dict.pairItems;refine wpAny_bind (wpAny_typeOf (T:="tuple") ⟨_,hot',hct⟩ ?_);rw[if_pos (by decide)]
  refine wpAny_bind (wpAny_seqItems hot' hdt ?_);refine wpAny_pure ?_;show wpAny _ _ (holding [key,p.2] (dictSet d key p.2)) _ _ _;have hd1:h'.DictOf knd d kvs:=by
   obtain⟨o,es,ep,ho,r⟩:=hd;exact⟨o,es,ep,keep d o hdi ho,r⟩
  refine wpAny_holding (wpAny_dictSet_pairs h3 hd1 (λh2 hd2 sb2=>?_) (by omega))
  have keep2:∀b o,b≠d->b≠it->s.heap.get? b=some o->h2.get? b=some o:=λb o hb hb2 ho=>(sb2.2 b hb).trans (keep b o hb2 ho);have hit2:h2.IsListIter it l (i+1):=hit'.at λo ho=>(sb2.2 it (Ne.symm hdi)).trans ho
  have hl2:h2.IsList l items:=hl.at λo ho=>keep2 l o (Ne.symm hdl) (Ne.symm hil) ho;have hp2:z5i knd h2 items ps:=⟨hp.1,λj q hj=>by
   obtain⟨t',k',g1,g2,g3⟩:=hp.2 j q hj;have:=ht j t' g1;exact⟨t',k',g1,g2.at λo ho=>keep2 t' o this.1 this.2 ho,g3⟩⟩
  have ap:=z54 kvs p.1 p.2;refine wpAny_pure ⟨plainId_quiet z10 _,codeAny_builtin z2i ?_⟩;rw[Around.under_plainId z10 _];have hc:((i:Int)+1)=((i+1:Nat):Int):=by push_cast;rfl
  rw[hc];refine ih (i+1) (stored kvs p.1 p.2) (by omega) (by omega) (by omega) A R _ hA hit2 hl2 hd2 hp2 ht λh3 tk hd3 k3=>?_
  ·have e:z24 kvs (ps.drop i)=z24 (stored kvs p.1 p.2) (ps.drop (i+1)):=by
    obtain⟨g1,g2⟩:=y01.mp hpi;rw[y24 g1,g2];rfl
   rw[e] at hq;exact hq h3 tk hd3 λb o hb hb2 ho=>k3 b o hb hb2 (keep2 b o hb hb2 ho)
theorem z4e {A:Around}{E:Value->Shared->Prop}{s:Shared}{l:Addr}{items:Array Value}{n:Nat}{ps:List (K×Value)}{Q:Value->Shared->Prop}(hA:A.handled=none)(hl:s.heap.get? l=some { cls:=.type "list",data:=.seq items n })(hp:z5i knd s.heap items ps)(hz:items.size≤sizeLine)
  (h:∀h' tk,h'.DictOf knd s.heap.objs.size (z24 [] ps)->(∀b o,s.heap.get? b=some o->h'.get? b=some o)->Q (.ref s.heap.objs.size) { s with heap:=h',toks:=tk }) :
  wpAny (model prog w) A (call (.type "dict") [.ref l]) Q E s:=by
 refine callType_codes (Q₁:=λobj s₁=>obj = .ref s.heap.objs.size/\s₁ = { s with heap:=s.heap.push { cls:=.type "dict",data:=.dict #[] } }) F.kt_called_dict (F.kt_typeCall_dict_1 _) F.entry_dict_init (kt_code_dict_new _ ⟨rfl,rfl⟩) ?_
 rintro obj s₁ ⟨rfl,rfl⟩;have aU:(s.heap.push { cls:=.type "dict",data:=.dict #[] }).DictOf knd s.heap.objs.size []:=Heap.DictOf.new s.heap;refine⟨aU.typeIs,F.args_dict_init_2 _ _,?_⟩;unfold Builtin.«dict.__init__»;refine wpAny_bind ?_;unfold Builtin.Dict.selfAndRest;refine wpAny_bind (wpAny_notOrdered_dict aU.typeIs ?_);show wpAny _ _ (pure (s.heap.objs.size,[Value.ref l])) _ _ _;refine wpAny_pure ?_;show wpAny _ _ (Builtin.Dict.updateFrom "dict.__init__" s.heap.objs.size (.ref l) [] .none) _ _ _;unfold Builtin.Dict.updateFrom;have hl1:(s.heap.push { cls:=.type "dict",data:=.dict #[] }).get? l=some { cls:=.type "list",data:=.seq items n }:=Heap.get?_push_of_some _ hl
 refine wpAny_bind (wpAny_typeOf (T:="list") ⟨_,hl1,rfl⟩ ?_);rw[if_pos (by decide)]
 refine wpAny_bind (getAttr?_keys_list hl1 (by first | exact hA | (show _=none;exact hA)) λh2 tk2 k2=>?_)
 rw[if_pos (show(none:Option Value).isNone=true from rfl)]
 refine wpAny_bind (wpAny_rule ?_);have hl2:h2.get? l=some { cls:=.type "list",data:=.seq items n }:=k2 _ _ hl1;have isl2:h2.IsList l items:=⟨_,hl2,rfl,n,rfl⟩
 refine wpAny_bind (wpAny_pyIter_list isl2 ?_);refine wpAny_pure ⟨plainId_quiet z10 _,codeAny_builtin z2i ?_⟩;rw[Around.under_plainId z10 _];have hsz:s.heap.objs.size<h2.objs.size:=by
  obtain⟨o,es,ep,ho,r⟩:=aU;exact Heap.lt_size (k2 _ _ ho)
 have hd2:(h2.push { cls:=.type "list_iterator",data:=.fields #[.ref l,.int 0 0] }).DictOf knd s.heap.objs.size []:=by
  obtain⟨o,es,ep,ho,r⟩:=aU;exact⟨o,es,ep,Heap.get?_push_of_some _ (k2 _ _ ho),r⟩
 have old:∀b o,s.heap.get? b=some o->(h2.push { cls:=.type "list_iterator",data:=.fields #[.ref l,.int 0 0] }).get? b=some o:=λb o ho=>Heap.get?_push_of_some _ (k2 _ _ (Heap.get?_push_of_some _ ho));have low:∀b o,s.heap.get? b=some o->b<s.heap.objs.size:=λb o ho=>Heap.lt_size ho
 have llt:=low _ _ hl;refine zg0 s.heap.objs.size h2.objs.size l items ps (y06 hsz) (y1j llt) (y1j (y4k llt hsz)) _ 0 [] rfl (y2s _) (by simpa using hz) A.in1 _ _ hA ⟨_,Heap.get?_push_size _ rfl,rfl,rfl⟩ (isl2.at λo ho=>Heap.get?_push_of_some _ ho) hd2 ⟨hp.1,λj p hj=>?_⟩ (λj t hj=>?_) λh3 tk hd3 k3=>?_
 ·obtain⟨t,key,g1,g2,g3⟩:=hp.2 j p hj;exact⟨t,key,g1,g2.at λo ho=>old t o ho,g3⟩
 ·have hjs:j<items.size:=(y2m.mp hj).1;obtain⟨t',key,g1,g2,g3⟩:=hp.2 j _ (y02 (show j<ps.length by rw[←hp.1];exact hjs))
  rw[hj] at g1;cases g1;obtain⟨o,ho,_⟩:=g2;have:=low _ _ ho;exact⟨y06 this,y06 (y4k this hsz)⟩
 ·refine⟨rfl,h h3 tk hd3 λb o ho=>k3 b o (y06 (low _ _ ho)) (y06 (y4k (low _ _ ho) hsz)) (old b o ho)⟩
end
end PySem
set_option linter.all false
namespace My
end My
set_option Elab.async false
set_option linter.all false
set_option maxRecDepth 100000
namespace My
open PySem L2 L2.EX
structure Blt (mg:Str->Option Value):Prop where
 abs:mg "abs"=none
 any:mg "any"=none
 bool:mg "bool"=none
 dict:mg "dict"=none
 enumerate:mg "enumerate"=none
 int:mg "int"=none
 isinstance:mg "isinstance"=none
 len:mg "len"=none
 list:mg "list"=none
 max:mg "max"=none
 min:mg "min"=none
 range:mg "range"=none
 reversed:mg "reversed"=none
 sorted:mg "sorted"=none
 str:mg "str"=none
 sum:mg "sum"=none
 tuple:mg "tuple"=none
 zip:mg "zip"=none
def del (H:Hp)(l:Addr):Hp:=λb=>if b=l then none else H b
structure Grow (K:y00)(H H':Hp)(l:Addr)(vs:List V)(ds:List PyData):Prop where
 old:Same H (del H' l)
 here:H' l=some (.lst vs)
 all:IsAll K (del H' l) vs ds
def zuw (ps:List (Int×Int)):PyData:=.list (ps.map λp=>zmj p.1 p.2)
def qs (ps:List (Int×Int)):Int×Int:=ps.foldl (λs p=>(s.1*p.2+p.1*s.2,s.2*p.2)) (0,1)
def Low (p:Int×Int):Prop:=1≤p.2/\Int.gcd p.1 p.2=1
end My
set_option Elab.async false
set_option linter.all false
set_option maxRecDepth 100000
namespace L2.EX
open PySem PySem.Spec PyProof.Rows
section
variable {X:Cx}{aa:List (Addr×Obj)}{σ:St}{H:Hp}{s:Shared}
def z0v (kvs:List (Key×V))(ps:List (Key×V)):List (Key×V):=ps.foldl (λacc p=>z26 acc p.1 p.2) kvs
theorem z2c:∀{ps:List (Key×V)} {qs:List (Key×Value)} {kvs:List (Key×V)} {vs:List (Key×Value)},KV ps qs->KV kvs vs->KV (z0v kvs ps) (z24 vs qs)
 | [],qs,kvs,vs,h,r=>by
  cases h;exact r
 | p::ps,qs,kvs,vs,h,r=>by
  cases h with
  | cons h1 h2 =>
   rename_i q qs;show KV (z0v (z26 kvs p.1 p.2) ps) (z24 (stored vs q.1 q.2) qs);rw[←h1.1];exact z2c h2 (r.put p.1 h1.2)
theorem zes (kvs:List (Key×V))(k:Key)(v:V):(z26 kvs k v).length≤kvs.length+1:=by
 unfold z26
 split<;>simp
theorem z28:∀(ps kvs:List (Key×V)),(z0v kvs ps).length≤kvs.length+ps.length
 | [],kvs=>by simp[z0v]
 | p::ps,kvs=>by
  have a:=z28 ps (z26 kvs p.1 p.2);have b:=zes kvs p.1 p.2
  show(z0v (z26 kvs p.1 p.2) ps).length≤_;simp;omega
theorem z8x (I:Inv X aa σ H s):∀{ps:List (Key×V)} {ts:List Addr},ts.length=ps.length->(∀(j:Nat) t p,ts[j]?=some t->ps[j]?=some p->SqT X.K H t [kV p.1,p.2]) ->
  ∃qs:List (Key×Value),KV ps qs/\∀(j:Nat) q,qs[j]?=some q->∃t key,ts[j]?=some t/\s.heap.IsTuple t #[key,q.2]/\z7z q.1 key=true
 | [],ts,_,_=>⟨[],.nil,λj q hj=>by simp at hj⟩
 | p::ps,[],h,_=>by simp at h
 | p::ps,t::ts,hl,h=>by
  obtain⟨qs,r,f⟩:=z8x I (ps:=ps) (ts:=ts) (by simpa using hl) λj t' p' h1 h2=>h (j+1) t' p' (by simpa using h1) (by simpa using h2)
  have h0:=h 0 t p rfl rfl;obtain⟨its,rv,pt,_⟩:=I.tuple h0;obtain⟨u1,u2,rfl,r1,r2⟩:=rv.two;refine⟨(p.1,u2)::qs,.cons ⟨rfl,r2⟩ r,λj q hj=>?_⟩;cases j with
  | zero =>
   simp at hj;subst hj;exact⟨t,u1,rfl,pt,z65 (P:=X.prog) (w:=X.w) r1⟩
  | succ j =>
   obtain⟨t',key,g1,g2,g3⟩:=f j q (by simpa using hj)
   exact⟨t',key,by simpa using g1,g2,g3⟩
def zhz (K:y00)(xs:List V)(H:Hp)(Q:VK):Prop:=∃(l:Addr) (ts:List Addr) (ps:List (Key×V)),xs = [.ref l]/\H l=some (.lst (ts.map V.ref))/\ts.length=ps.length/\(∀(j:Nat) t p,ts[j]?=some t->ps[j]?=some p->SqT K H t [kV p.1,p.2])/\∀d,H d=none->Q (.ref d) (upd H d (.dK (z0v [] ps)))
theorem zez (hc:X.calm=true:=by rfl):CallR X (.type "dict") (zhz X.K):=by
 intro aa s σ H xs us Q I r h;obtain⟨l,ts,ps,rfl,hl,ap,ht,q⟩:=h;obtain⟨u,rfl,rx⟩:=z29 r;cases rx;obtain⟨z,its,n,rv,hll,e⟩:=I.lstM hl;obtain⟨qs,rk,f⟩:=z8x I ap ht;have hkl:=rk.length;rw[y0e] at hll z;have hp:z5i (z0d X.prog X.w) s.heap its.toArray qs:=⟨by rw[y07];omega,λj p hj=>by
  obtain⟨t,key,g1,g2,g3⟩:=f j p hj;obtain⟨u,hu,ru⟩:=rv.get (i:=j) (x:=.ref t) (by rw[y0g,g1];rfl)
  cases ru;exact⟨t,key,by simpa using hu,g2,g3⟩⟩
 refine z4e (knd:=z0d X.prog X.w) (I.ok.hd hc) e hp (by rw[y07];omega) λh' tk hd kp=>?_
 have hlen2:=z28 ps [];simp at hlen2;refine⟨.ref s.heap.objs.size,_,I.laid kp (y08 _) (show ObjOk X.prog X.w _ h' _ (.dK (z0v [] ps)) from ⟨by omega,?_,_,z2c rk .nil,hd⟩),rfl,q _ (I.hok.fresh (y08 _))⟩
 exact beq_eq_false_iff_ne.mpr (y1j I.big)
@[reducible] def zy8 (xs:List V)(H:Hp)(Q:VK):Prop:=match xs with
 | [.ref l]=>∃(ts:List Addr) (ps:List (Key×V)),H l=some (.lst (ts.map V.ref))/\ts.length=ps.length/\(∀(j:Nat) t p,ts[j]?=some t->ps[j]?=some p->H t=some (.tup [kV p.1,p.2]))/\∀d,H d=none->Q (.ref d) (upd H d (.dK (z0v [] ps)))
 | _=>False
@[reducible] def zyr (x y:V)(H:Hp)(Q:VK):Prop:=match x,y with
 | .int n,.ref d=>∃kvs,H d=some (.dK kvs)/\Q (.bl (z69 kvs (.inl n)).isSome) H
 | .str n,.ref d=>∃kvs,H d=some (.dK kvs)/\Q (.bl (z69 kvs (.inr n)).isSome) H
 | _,_=>False
theorem hu1 {k:Nat}{A:Around}(hr:Room k A):A.units+1<cLine:=by have:=zry hr;omega
@[reducible] def zyi (x y:V)(H:Hp)(Q:VK):Prop:=match x,y with
 | .ref d,.int n=>∃kvs v,H d=some (.dK kvs)/\z69 kvs (.inl n)=some v/\Q v H
 | .ref d,.str n=>∃kvs v,H d=some (.dK kvs)/\z69 kvs (.inr n)=some v/\Q v H
 | _,_=>False
end
end L2.EX
set_option Elab.async false
set_option linter.all false
set_option maxRecDepth 100000
namespace L2.EX
open PySem PySem.Spec PyProof.Rows
theorem zj1 {P:Program}{w:World}{k:Key}{u:Value}(h:(z0d P w).is k u=true):RelV (kV k) u:=by
 rcases z0j h with ⟨i,t,rfl,rfl⟩ | ⟨x,t,rfl,rfl⟩
 ·exact⟨t,rfl⟩
 ·exact⟨t,rfl⟩
section
variable {X:Cx}{aa:List (Addr×Obj)}{σ:St}{H:Hp}{s:Shared}{a:Addr}{kvs:List (Key×V)}
theorem zct (I:Inv X aa σ H s)(e:H a=some (.dK kvs)):∃o,Inv X aa σ (upd H a (.frz o (.dK kvs))) s:=by
 obtain⟨z,hd,vs,r,d⟩:=zan I.hok e;obtain⟨o,es,ep,h1,h2⟩:=id d;exact⟨o,z3t (h':=s.heap) (t':=s.toks) I (by rw[e];exact True.intro) (Heap.SameBut.refl ..) ⟨o,h1⟩ ⟨h1,z,hd,vs,r,d⟩⟩
@[reducible] def xFz (te:TE)(σ:St)(H:Hp)(Q:VK):Prop:=te σ H λx H1=>match x with
 | .ref a=>∃kvs,H1 a=some (.dK kvs)/\∀o,Q (.ref a) (upd H1 a (.frz o (.dK kvs)))
 | _=>False
theorem zhy {e:Expr}{te:TE}(he:PE X e te):PE X e (xFz te):=by
 intro aa s σ H Q I h;refine thn ((z0f he) aa s σ H _ I ⟨_,h,λv H1 q=>q⟩) λu s1 ⟨x,H1,I1,rx,q1⟩=>?_;dsimp only at q1
 split at q1
 ·obtain⟨kvs,e,q⟩:=q1;obtain⟨o,I2⟩:=zct I1 e;exact⟨_,_,I2,rx,q o⟩
 ·exact q1.elim
end
def Itk (a:Addr)(o:Obj)(kvs:List (Key×V)):It :=
 ⟨λi H=>H a=some (.frz o (.dK kvs))/\i<kvs.length,λi H x H'=>H'=H/\∃p,kvs[i]?=some p/\x=kV p.1,λi H=>H a=some (.frz o (.dK kvs))/\kvs.length≤i⟩
theorem zij {P:Program}{w:World}{H:Hp}{h:Heap}{a:Addr}{o:Obj}{kvs:List (Key×V)}{es0:Array DictEntry}{ep:Nat}(ok:HOk P w H h)(e:H a=some (.frz o (.dK kvs)))(hd:o.data = .dict es0 ep) :
  (a==sysModules)=false/\∃vs,KV kvs vs/\h.DictAt (z0d P w) a vs ep:=by
 obtain⟨h1,z,hs,vs,r,o2,es,ep2,h2,h3,h4,h5⟩:=ok a _ e;rw[h1] at h2;cases h2;rw[hd] at h4;cases h4;exact⟨hs,vs,r,o,es0,h1,h3,hd,h5⟩
theorem zb6 {kvs:List (Key×V)}{vs:List (Key×Value)}(r:KV kvs vs){i:Nat}{p:Key×V}(h:kvs[i]?=some p):∃v,vs[i]?=some (p.1,v)/\RelV p.2 v:=by
 induction r generalizing i with
 | nil=>simp at h
 | @cons a b as bs hh t ih =>
  cases i with
  | zero =>
   simp at h;subst h;exact⟨b.2,by simp[hh.1],hh.2⟩
  | succ i=>exact ih (by simpa using h)
theorem zay {P:Program}{w:World}{K:y00}{tg:Expr}{o:Obj}{kvs:List (Key×V)}{es0:Array DictEntry}{ep:Nat}(a it:Addr)(hdat:o.data = .dict es0 ep) :
  Turn P w K tg (Itk a o kvs) [it] it (λi h=>h.IsKeyIter it a i kvs.length ep) where
 mem:=by simp
 obj:=λi h st b hb=>by
  have e:b=it:=by simpa using hb
  subst e;obtain⟨o,e,c,d⟩:=st;exact⟨o,e,λv z=>by rw[d] at z;cases z⟩
 keep:=λi h h' st k=>st.at λo e=>k it (by simp) o e
 item:=by
  intro X hP hw hK hc i aa s σ H E I hf st hg;subst hP hw hK;obtain⟨hq,hi⟩:=hg;obtain⟨hs,vs,r,da⟩:=zij I.hok hq hdat;obtain⟨p,hp⟩:∃p,kvs[i]?=some p:=⟨kvs[i],by simp[hi]⟩
  obtain⟨v,hv,rv⟩:=zb6 r hp;obtain⟨f0,f1,f2,f3,f4,f5⟩:=hf it (by simp)
  rw[r.length] at st;refine wpAny_pyNext_dict_item st da hv λkey h' hk st' sb=>?_;have I1:Inv X aa σ H { s with heap:=h' }:=I.turned (t':=s.toks) (λb o hb e=>(sb.2 b hb).trans e) f0 f1 f3 f4 f5
  rw[←r.length] at st';obtain⟨o2,e,c,d⟩:=id st';exact⟨key,rfl,zco (s:={ s with heap:=h' }) e c d (by decide) ⟨kV p.1,H,I1,zj1 hk,⟨rfl,p,hp,rfl⟩,st',λb hb=>(hf b hb).1⟩⟩
 done:=by
  intro X hP hw hK hc i aa s σ H E I hf st hg;subst hP hw hK;obtain⟨hq,hi⟩:=hg;obtain⟨hs,vs,r,da⟩:=zij I.hok hq hdat;obtain⟨f0,f1,f2,f3,f4,f5⟩:=hf it (by simp)
  rw[r.length] at st hi;exact wpAny_pyNext_dict_end (I.ok.hd hc) st da (by simp[hi]) λh' eb=>⟨rfl,I.turned (t':=s.toks) (λb o hb e=>eb b o hb e) f0 f1 f3 f4 f5⟩
 self:=λ_ _ _ _ _ st h=>wpAny_pyIter_keyiter st h
section
variable {X:Cx}{tg:Expr}
def zno (tl:TE)(σ:St)(H:Hp)(R:It->Hp->Prop):Prop:=tl σ H λx H1=>match x with
 | .ref a=>∃o kvs,H1 a=some (.frz o (.dK kvs))/\R (Itk a o kvs) H1
 | _=>False
theorem zk3 {l:Expr}{tl:TE}(hl:PE X l tl):PI X tg l (zno tl):=by
 intro aa s σ H R I h;refine thn ((z0f hl) aa s σ H _ I ⟨_,h,λv H1 q=>q⟩) λv s1 ⟨x,H1,I1,r1,q1⟩=>?_;dsimp only at q1
 split at q1
 ·rename_i a;cases r1;obtain⟨o,kvs,e,q⟩:=q1;obtain⟨h1,z,hs,vs,r,o2,es,ep,h2,h3,h4,h5⟩:=I1.hok a _ e;rw[h1] at h2;cases h2;refine wpAny_pyIter_dict hs ⟨o,es,h1,h3,h4,h5⟩ ?_;refine⟨s1.heap.objs.size,[s1.heap.objs.size],_,_,H1,rfl,I1.kept (t':=s1.toks) λb o e=>Heap.get?_push_of_some _ e,zay a _ h4,⟨_,Heap.get?_push_size _ rfl,rfl,by rw[r.length];rfl⟩,λb hb=>?_,q⟩
  have e:b=s1.heap.objs.size:=by simpa using hb
  subst e;exact I1.fpOk (y08 _) (I1.hok.fresh (y08 _))
 ·exact q1.elim
end
section
variable {g:TG}{tb:TS}{D:Ends}{σ:St}{H:Hp}{a:Addr}{o:Obj}{kvs:List (Key×V)}
variable {tt:TT}{te:TE}{σ0:St}{Q:VK}
end
end L2.EX
set_option Elab.async false
set_option linter.all false
set_option maxRecDepth 100000
namespace L2.RX
open PySem PySem.Spec PyProof.Rows L2.EX
inductive D where
 | non | bl (b:Bool) | int (i:Int) | str (x:Str) | lst (ds:List D) | tup (ds:List D) | dic (ks:List Key) (ds:List D) | at (i:Nat) | fn (k:Nat)
inductive TM where
 | ml (ds:List D) | mr (ns:List Int) | md (ks:List Key) (ds:List D) | mi (c:Nat) (ds:List D) | mx (c:Nat) | mf (k:Nat) | no
abbrev TH:=List TM
abbrev DEn:=List (Option D)
structure Lam where
 qual:Str
 params:Arguments
 body:Expr
 scope:Scope
structure CT where
 K:y00
 cl:Nat->Addr
 nm:Nat->List Str
 xc:Nat->Addr
 fa:Nat->Addr
 lm:Nat->Lam
 tb:Nat->Addr
 nl:Nat
structure Sx where
 ι:List Addr
 h:TH
 H:Hp
def z3d (h:TH)(i:Nat):Prop:=∃o,h[i]?=some o/\o ≠ .no
def zah (C:CT)(s:Sx)(a:Addr):Prop:=(∃i,s.ι[i]?=some a/\z3d s.h i)∨∃k,k<C.nl/\C.tb k=a
open Classical in
noncomputable def cut (C:CT) (s:Sx):Hp:=λa=>if zah C s a then none else s.H a
mutual
def DIs (C:CT)(ι:List Addr)(M:Hp):D->V->Prop
 | .non,v=>v = .non
 | .bl b,v=>v = .bl b
 | .int i,v=>v = .int i
 | .str x,v=>v = .str x
 | .lst ds,v=>∃a xs,v = .ref a/\M a=some (.lst xs)/\DAll C ι M ds xs
 | .tup ds,v=>∃a xs,v = .ref a/\SqT C.K M a xs/\DAll C ι M ds xs
 | .dic ks ds,v=>∃a o xs,v = .ref a/\M a=some (.frz o (.dK (ks.zip xs)))/\ks.length=ds.length/\DAll C ι M ds xs
 | .at i,v=>∃a,ι[i]?=some a/\v = .ref a
 | .fn k,v=>v = .ref (C.fa k)
def DAll (C:CT)(ι:List Addr)(M:Hp):List D->List V->Prop
 | [],xs=>xs = []
 | d::ds,xs=>∃v vs,xs=v::vs/\DIs C ι M d v/\DAll C ι M ds vs
end
abbrev Pre (ι ι':List Addr):Prop:=∃l,ι' = ι++l
theorem Pre.get {i:Nat}(p:Pre ι ι')(h:ι[i]?=some a):ι'[i]?=some a:=by
 obtain⟨l,rfl⟩:=p;rw[y0x (y01.mp h).1];exact h
mutual
theorem DIs.go {C:CT}{ι ι':List Addr}{M M':Hp}(p:∀(i:Nat) a,ι[i]?=some a->ι'[i]?=some a)(s:Same M M'):∀(d:D) {v:V},DIs C ι M d v->DIs C ι' M' d v
 | .non,_,h=>h
 | .bl _,_,h=>h
 | .int _,_,h=>h
 | .str _,_,h=>h
 | .fn _,_,h=>h
 | .lst ds,_,⟨a,xs,e,q,r⟩=>⟨a,xs,e,s _ _ q,DAll.go p s ds r⟩
 | .tup ds,_,⟨a,xs,e,q,r⟩=>⟨a,xs,e,Same.tup s q,DAll.go p s ds r⟩
 | .dic ks ds,_,⟨a,o,xs,e,q,l,r⟩=>⟨a,o,xs,e,s _ _ q,l,DAll.go p s ds r⟩
 | .at _,_,⟨a,q,e⟩=>⟨a,p _ _ q,e⟩
theorem DAll.go {C:CT}{ι ι':List Addr}{M M':Hp}(p:∀(i:Nat) a,ι[i]?=some a->ι'[i]?=some a)(s:Same M M'):∀(ds:List D) {xs:List V},DAll C ι M ds xs->DAll C ι' M' ds xs
 | [],_,h=>h
 | d::ds,_,⟨v,vs,e,q,r⟩=>⟨v,vs,e,DIs.go p s d q,DAll.go p s ds r⟩
end
section
variable {C:CT}{ι ι':List Addr}{M:Hp}{s s' s'':Sx}{d:D}{v:V}{a p:Addr}{o:HO}
theorem DAll.len:∀{ds:List D} {xs:List V},DAll C ι M ds xs->ds.length=xs.length
 | [],xs,h=>by cases (show xs = [] from h);rfl
 | d::ds,_,⟨v,vs,e,_,r⟩=>by rw[e,y0u,y0u,DAll.len r]
theorem DAll.get:∀{ds:List D} {xs:List V} {i:Nat} {d:D},DAll C ι M ds xs->ds[i]?=some d->∃x,xs[i]?=some x/\DIs C ι M d x
 | _::_,_,0,_,⟨v,vs,e,q,_⟩,h=>by cases h;exact⟨v,by rw[e];rfl,q⟩
 | _::_,_,i+1,d,⟨v,vs,e,_,r⟩,h=>by
  obtain⟨x,h1,h2⟩:=DAll.get (i:=i) (d:=d) r (by simpa using h)
  exact⟨x,by rw[e];simpa using h1,h2⟩
theorem DAll.of_get:∀{ds:List D} {xs:List V},ds.length=xs.length->(∀(i:Nat) d,ds[i]?=some d->∃x,xs[i]?=some x/\DIs C ι M d x)->DAll C ι M ds xs
 | [],[],_,_=>rfl
 | [],_::_,l,_=>by cases l
 | _::_,[],l,_=>by cases l
 | d::ds,x::xs,l,A=>by
  obtain⟨x',h1,h2⟩:=A 0 d rfl;cases h1;exact⟨x,xs,rfl,h2,DAll.of_get (by simpa using l) λi d' h=>by
   obtain⟨x',h1,h2⟩:=A (i+1) d' (by simpa using h);exact⟨x',by simpa using h1,h2⟩⟩
theorem DAll.set (q:DIs C ι M d v):∀{ds:List D} {xs:List V} (i:Nat),DAll C ι M ds xs->DAll C ι M (ds.set i d) (xs.set i v)
 | [],_,_,h=>by rw[show _ = [] from h];rfl
 | _::_,_,0,⟨_,vs,e,_,r⟩=>by rw[e];exact⟨v,vs,rfl,q,r⟩
 | _::_,_,i+1,⟨w,vs,e,q',r⟩=>by rw[e];exact⟨w,_,rfl,q',DAll.set q i r⟩
theorem DAll.app (g:DAll C ι M es ys):∀{ds:List D} {xs:List V},DAll C ι M ds xs->DAll C ι M (ds++es) (xs++ys)
 | [],_,h=>by rw[show _ = [] from h];exact g
 | _::_,_,⟨w,vs,e,q',r⟩=>by rw[e];exact⟨w,_,rfl,q',DAll.app g r⟩
theorem DAll.one (q:DIs C ι M d v):DAll C ι M [d] [v]:=⟨v,[],rfl,q,rfl⟩
theorem DAll.single (A:DAll C ι M [d] xs):∃v,xs = [v]/\DIs C ι M d v:=by
 obtain⟨w,vs,rfl,iw,z⟩:=A;cases (show vs = [] from z)
 exact⟨w,rfl,iw⟩
theorem DAll.take:∀{ds:List D} {xs:List V} (n:Nat),DAll C ι M ds xs->DAll C ι M (ds.take n) (xs.take n)
 | _,_,0,_=>rfl
 | [],_,_+1,h=>by rw[show _ = [] from h];rfl
 | _::_,_,n+1,⟨w,vs,e,q,r⟩=>by rw[e];exact⟨w,_,rfl,q,DAll.take n r⟩
theorem DAll.drop:∀{ds:List D} {xs:List V} (n:Nat),DAll C ι M ds xs->DAll C ι M (ds.drop n) (xs.drop n)
 | _,_,0,h=>h
 | [],_,_+1,h=>by rw[show _ = [] from h];rfl
 | _::_,_,n+1,⟨w,vs,e,_,r⟩=>by rw[e];exact DAll.drop n r
theorem DAll.rep (q:DIs C ι M d v):∀n:Nat,DAll C ι M (y0b n d) (y0b n v)
 | 0=>rfl
 | n+1=>⟨v,_,rfl,q,DAll.rep q n⟩
theorem z0x:Same (cut C s) s.H:=λb o h=>by
 unfold cut at h;split at h
 ·cases h
 ·exact h
theorem z0p (h:¬zah C s a):cut C s a=s.H a:=by unfold cut;rw[if_neg h]
theorem z2l (h:cut C s a=some o):¬zah C s a:=λz=>by unfold cut at h;rw[if_pos z] at h;cases h
def z4o (c:Addr)(q:Str):HO:=.ext λh=>h.CodeRec (.ref c) q
def zhb (a:Addr)(L:Lam)(pm:Value)(c:Addr)(ctv:Value):HO:=.ext λh=>h.get? a=some (y2w "<lambda>" L.qual L.params L.body L.scope [] pm c ctv)
def MAt (C:CT)(ι:List Addr)(M H:Hp)(a:Addr):TM->Prop
 | .ml ds=>∃xs,H a=some (.lst xs)/\DAll C ι M ds xs
 | .mr ns=>∃o,H a=some (.frz o (.lst (ns.map V.int)))
 | .md ks ds=>∃xs,H a=some (.dK (ks.zip xs))/\ks.length=ds.length/\DAll C ι M ds xs
 | .mi c ds=>∃dx xs,H a=some (.ins (C.cl c) dx ((C.nm c).zip xs))/\DAll C ι M ds xs
 | .mx c=>H a=some (z9x a (C.xc c))
 | .mf k=>∃pm c ctv,H a=some (zhb a (C.lm k) pm c ctv)/\M c=some (z4o c (C.lm k).qual)
 | .no=>True
def zg7 (M H:Hp)(a:Addr)(q:Str):Prop:=∃ps,H a=some (.tbl ps)/\TriplesOk ps.toList/\∀pos c,codeAmong pos ps.toList=some c->∃c',c = .ref c'/\M c'=some (z4o c' q)
theorem MAt.go {M' H H':Hp}(p:∀(i:Nat) a,ι[i]?=some a->ι'[i]?=some a)(s:Same M M')(e:H a=H' a):∀{o:TM},MAt C ι M H a o->MAt C ι' M' H' a o
 | .ml ds,⟨xs,q,r⟩=>⟨xs,e▸q,r.go p s⟩
 | .mr ns,⟨o,q⟩=>⟨o,e▸q⟩
 | .md ks ds,⟨xs,q,l,r⟩=>⟨xs,e▸q,l,r.go p s⟩
 | .mi c ds,⟨dx,xs,q,r⟩=>⟨dx,xs,e▸q,r.go p s⟩
 | .mx c,q=>e.symm.trans q
 | .mf k,⟨pm,c,ctv,q,r⟩=>⟨pm,c,ctv,e▸q,s _ _ r⟩
 | .no,_=>trivial
theorem MAt.ex (z:t ≠ .no)(m:MAt C ι M H a t):H a≠none:=λy=>by
 cases t with
 | ml _=>obtain⟨_,q,_⟩:=m;rw[q] at y;cases y
 | mr _=>obtain⟨_,q⟩:=m;rw[q] at y;cases y
 | md _ _=>obtain⟨_,q,_⟩:=m;rw[q] at y;cases y
 | mi _ _=>obtain⟨_,_,q,_⟩:=m;rw[q] at y;cases y
 | mx _=>rw[show H a=_ from m] at y;cases y
 | mf _=>obtain⟨_,_,_,q,_⟩:=m;rw[q] at y;cases y
 | no=>exact z rfl
structure Rl (C:CT)(s:Sx):Prop where
 len:s.ι.length=s.h.length
 nd:∀(i j:Nat) a,z3d s.h i->z3d s.h j->s.ι[i]?=some a->s.ι[j]?=some a->i=j
 at_:∀(i:Nat) o a,s.h[i]?=some o->s.ι[i]?=some a->MAt C s.ι (cut C s) s.H a o
 tab:∀k,k<C.nl->zg7 (cut C s) s.H (C.tb k) (C.lm k).qual
 ntb:∀(i:Nat) a k,z3d s.h i->s.ι[i]?=some a->k<C.nl->C.tb k≠a
abbrev Is (C:CT)(s:Sx)(d:D)(v:V):Prop:=DIs C s.ι (cut C s) d v
abbrev All (C:CT)(s:Sx)(d:List D)(v:List V):Prop:=DAll C s.ι (cut C s) d v
structure Go (C:CT)(s s':Sx):Prop where
 pre:Pre s.ι s'.ι
 same:Same (cut C s) (cut C s')
 rl:Rl C s'
theorem Go.refl (R:Rl C s):Go C s s:=⟨⟨[],by simp⟩,Same.refl _,R⟩
theorem Go.trans (x:Go C s s')(y:Go C s' s''):Go C s s'':=by
 obtain⟨⟨l,e⟩,q,_⟩:=x;obtain⟨⟨m,f⟩,r,t⟩:=y;exact⟨⟨l++m,by rw[f,e,y32]⟩,q.trans r,t⟩
theorem Go.is (x:Go C s s')(q:Is C s d v):Is C s' d v:=q.go (λ_ _=>x.pre.get) x.same
theorem Go.all (x:Go C s s')(q:All C s ds xs):All C s' ds xs:=q.go (λ_ _=>x.pre.get) x.same
theorem Rl.ex (R:Rl C s)(z:zah C s a):s.H a≠none:=by
 rcases z with ⟨i,e,o,e2,n⟩ | ⟨k,hk,rfl⟩
 ·exact(R.at_ i o a e2 e).ex n
 ·obtain⟨ps,q,_⟩:=R.tab k hk;intro y;rw[q] at y;cases y
theorem Rl.new (R:Rl C s)(hp:s.H p=none):¬zah C s p:=λz=>R.ex z hp
theorem Rl.with (R:Rl C s){H':Hp}(sm:Same (cut C s) (cut C ⟨s.ι,s.h,H'⟩))(e:∀a,zah C s a->s.H a=H' a):Go C s ⟨s.ι,s.h,H'⟩ :=
 ⟨⟨[],by simp⟩,sm,R.len,R.nd,λi o a h1 h2=>by
  by_cases z:o = .no
  ·subst z;trivial
  ·exact(R.at_ i o a h1 h2).go (λ_ _ q=>q) sm (e a (.inl ⟨i,h2,o,h1,z⟩)),λk hk=>by
  obtain⟨ps,q,t,r⟩:=R.tab k hk;exact⟨ps,(e _ (.inr ⟨k,hk,rfl⟩)).symm.trans q,t,λpos c hc=>let ⟨c',e',q'⟩:=r pos c hc;⟨c',e',sm _ _ q'⟩⟩,R.ntb⟩
theorem zkz (h:¬zah C s p){H':Hp}(hH:∀b,b≠p->H' b=s.H b)(o:HO)(hp:s.H p=none):Same (cut C s) (cut C ⟨s.ι,s.h,H'⟩):=λb u z=>by
 have nb:=z2l z;rw[z0p nb] at z;rw[z0p (s:=⟨s.ι,s.h,H'⟩) nb];show H' b=_;rw[hH b (by rintro rfl;rw[hp] at z;cases z)];exact z
theorem Rl.imm (R:Rl C s)(hp:s.H p=none)(o:HO):Go C s ⟨s.ι,s.h,upd s.H p o⟩/\cut C ⟨s.ι,s.h,upd s.H p o⟩ p=some o:=by
 have hn:=R.new hp;refine⟨R.with (zkz hn (λb=>z04) o hp) λa z=>(z04 (by rintro rfl;exact hn z)).symm,?_⟩
 rw[z0p (s:=⟨s.ι,s.h,upd s.H p o⟩) hn];exact z08
theorem z1l {h:TH}{i:Nat}{t:TM}(lt:i<h.length):z3d (h ++ [t]) i↔z3d h i:=by unfold z3d;rw[y0x lt]
theorem z45 {α:Type}{l:List α}{x y:α}{i:Nat}(e:(l ++ [x])[i]?=some y):(i<l.length/\l[i]?=some y)∨(i=l.length/\y=x):=by
 rcases y3m i l.length with z | z
 ·rw[y0x z] at e;exact .inl ⟨z,e⟩
 ·rw[y20 z] at e;have:=(y01.mp e).1;have h0:i - l.length=0:=by simp at this;omega
  rw[h0] at e;exact .inr ⟨by omega,by simpa using e.symm⟩
theorem Rl.mut (R:Rl C s)(hp:s.H p=none){t:TM}{u:HO}(ht:t ≠ .no)(hm:MAt C s.ι (cut C s) (upd s.H p u) p t):Go C s ⟨s.ι ++ [p],s.h ++ [t],upd s.H p u⟩:=by
 have hn:=R.new hp;have mu:∀b,zah C ⟨s.ι ++ [p],s.h ++ [t],upd s.H p u⟩ b↔b=p∨zah C s b:=λb=>by
  constructor
  ·rintro(⟨i,e,l⟩ | z)
   ·rcases z45 e with ⟨lt,e⟩ | ⟨_,rfl⟩
    ·exact .inr (.inl ⟨i,e,(z1l (R.len▸lt)).mp l⟩)
    ·exact .inl rfl
   ·exact .inr (.inr z)
  ·rintro(rfl | ⟨i,e,l⟩ | z)
   ·exact .inl ⟨s.ι.length,by simp,t,by simp[R.len],ht⟩
   ·have lt:=(y01.mp e).1;exact .inl ⟨i,by rw[y0x lt];exact e,(z1l (R.len▸lt)).mpr l⟩
   ·exact .inr z
 have ec:cut C ⟨s.ι ++ [p],s.h ++ [t],upd s.H p u⟩=cut C s:=by
  funext b;unfold cut
  by_cases z:b=p
  ·subst z;rw[if_pos ((mu b).mpr (.inl rfl)),if_neg hn,hp]
  ·by_cases y:zah C s b
   ·rw[if_pos y,if_pos ((mu b).mpr (.inr y))]
   ·rw[if_neg y,if_neg λk=>((mu b).mp k).elim z y];exact z04 z
 have pr:∀(i:Nat) a,s.ι[i]?=some a->(s.ι ++ [p])[i]?=some a:=λi a e=>Pre.get ⟨[p],rfl⟩ e;have nep:∀{i:Nat} {a},z3d s.h i->s.ι[i]?=some a->a≠p:=λ{i a} l e z=>hn (.inl ⟨i,z▸e,l⟩)
 refine⟨⟨[p],rfl⟩,by rw[ec];exact Same.refl _,by simp[R.len],?_,?_,?_,?_⟩
 ·intro i j a li lj ei ej;rcases z45 ei with ⟨h1,e1⟩ | ⟨h1,e1⟩<;>rcases z45 ej with ⟨h2,e2⟩ | ⟨h2,e2⟩
  ·exact R.nd i j a ((z1l (R.len▸h1)).mp li) ((z1l (R.len▸h2)).mp lj) e1 e2
  ·exact absurd e2 (nep ((z1l (R.len▸h1)).mp li) e1)
  ·exact absurd e1 (nep ((z1l (R.len▸h2)).mp lj) e2)
  ·rw[h1,h2]
 ·intro i o a eo ea;rw[ec];rcases z45 ea with ⟨h1,e1⟩ | ⟨h1,e1⟩
  ·rcases z45 eo with ⟨h2,e2⟩ | ⟨h2,_⟩
   ·by_cases z:o = .no
    ·subst z;trivial
    ·exact(R.at_ i o a e2 e1).go pr (Same.refl _) (z04 (nep ⟨o,e2,z⟩ e1)).symm
   ·exact absurd h1 (by rw[h2,R.len];exact y1c _)
  ·rcases z45 eo with ⟨h2,_⟩ | ⟨_,e2⟩
   ·exact absurd h2 (by rw[h1,R.len];exact y1c _)
   ·subst e1 e2;exact hm.go pr (Same.refl _) rfl
 ·intro k hk;obtain⟨ps,q,r⟩:=R.tab k hk;exact⟨ps,by show upd s.H p u _=_;rw[z04 (by rintro rfl;exact hn (.inr ⟨k,hk,rfl⟩))];exact q,by rw[ec];exact r⟩
 ·intro i a k l e hk;rcases z45 e with ⟨h1,e1⟩ | ⟨_,rfl⟩
  ·exact R.ntb i a k ((z1l (R.len▸h1)).mp l) e1 hk
  ·exact λz=>hn (.inr ⟨k,hk,z⟩)
theorem Rl.put (R:Rl C s){i:Nat}{t:TM}{u:HO}(ei:s.ι[i]?=some a)(li:z3d s.h i)(hm:t ≠ .no->MAt C s.ι (cut C s) (upd s.H a u) a t):Go C s ⟨s.ι,s.h.set i t,upd s.H a u⟩:=by
 have lt:i<s.h.length:=by rw[←R.len];exact(y01.mp ei).1
 have lv:∀{j:Nat},z3d (s.h.set i t) j->z3d s.h j:=λ{j} ⟨o,e1,e2⟩=>by
  by_cases z:i=j
  ·subst z;exact li
  ·rw[y0h z] at e1;exact⟨o,e1,e2⟩
 have ne:∀{j:Nat} {b},z3d s.h j->s.ι[j]?=some b->i≠j->b≠a:=λ{j b} l e n z=>n (R.nd i j a li l ei (z▸e));have sm:Same (cut C s) (cut C ⟨s.ι,s.h.set i t,upd s.H a u⟩):=λb o z=>by
  have nb:=z2l z;rw[z0p nb] at z;have na:b≠a:=by rintro rfl;exact nb (.inl ⟨i,ei,li⟩)
  rw[z0p (s:=⟨s.ι,s.h.set i t,upd s.H a u⟩) λk=>nb (k.elim (λ⟨j,e,l⟩=>.inl ⟨j,e,lv l⟩) .inr)];show upd s.H a u b=_;rw[z04 na];exact z
 refine⟨⟨[],by simp⟩,sm,by simp[R.len],λj k b l1 l2=>R.nd j k b (lv l1) (lv l2),?_,?_,λj b k l=>R.ntb j b k (lv l)⟩
 ·intro j o b eo eb
  by_cases z:i=j
  ·subst z;rw[ei] at eb;cases eb;rw[y0z lt] at eo;cases eo
   by_cases zn:t = .no
   ·subst zn;trivial
   ·exact(hm zn).go (λ_ _ q=>q) sm rfl
  ·rw[y0h z] at eo
   by_cases zn:o = .no
   ·subst zn;trivial
   ·exact(R.at_ j o b eo eb).go (λ_ _ q=>q) sm (z04 (ne ⟨o,eo,zn⟩ eb z)).symm
 ·intro k hk;obtain⟨ps,q,t,r⟩:=R.tab k hk;exact⟨ps,by show upd s.H a u _=_;rw[z04 (R.ntb i a k li ei hk)];exact q,t,λpos c hc=>let ⟨c',e',q'⟩:=r pos c hc;⟨c',e',sm _ _ q'⟩⟩
theorem Rl.gone (R:Rl C s){i:Nat}{u:HO}(ei:s.ι[i]?=some a)(li:z3d s.h i):Go C s ⟨s.ι,s.h.set i .no,upd s.H a u⟩/\cut C ⟨s.ι,s.h.set i .no,upd s.H a u⟩ a=some u:=by
 refine⟨R.put ei li λz=>absurd rfl z,?_⟩;rw[z0p]
 ·exact z08
 rintro(⟨j,e,o,e2,n⟩ | ⟨k,hk,e⟩)
 ·by_cases z:i=j
  ·subst z;rw[show(s.h.set i .no)[i]?=some TM.no from y0z (by rw[←R.len];exact(y01.mp ei).1)] at e2
   cases e2;exact n rfl
  ·have e2:s.h[j]?=some o:=by rw[←y0h z];exact e2
   exact z (R.nd i j a li ⟨o,e2,n⟩ ei e)
 ·exact R.ntb i a k li ei hk e
end
end L2.RX
set_option Elab.async false
set_option linter.all false
set_option maxRecDepth 100000
namespace L2.RX
open PySem PySem.Spec PyProof.Rows L2.EX
noncomputable def eg {α:Type} (l:List α) (n:Nat):Option α:=y0l (motive:=λ_=>Nat->Option α) (λ_=>none) (λv _ ih n=>y36 (motive:=λ_=>Option α) (some v) (λm _=>ih m) n) l n
theorem z0r {α:Type}:∀(l:List α) (n:Nat),eg l n=l[n]?
 | [],n=>by simp[eg]
 | v::l,0=>rfl
 | v::l,n+1=>by rw[List.getElem?_cons_succ,←z0r l n];rfl
noncomputable def est {α:Type} (l:List α) (n:Nat) (x:α):List α:=y0l (motive:=λ_=>Nat->List α) (λ_=>[]) (λv t ih n=>y36 (motive:=λ_=>List α) (x::t) (λm _=>v::ih m) n) l n
theorem z14 {α:Type}(x:α):∀(l:List α) (n:Nat),est l n x=l.set n x
 | [],n=>rfl
 | v::l,0=>rfl
 | v::l,n+1=>by rw[List.set_cons_succ,←z14 x l n];rfl
noncomputable def eap {α:Type} (l m:List α):List α:=y0l (motive:=λ_=>List α) m (λv _ ih=>v::ih) l
theorem z1s {α:Type}(m:List α):∀l:List α,eap l m=l++m
 | []=>rfl
 | v::l=>by rw[y48,←z1s m l];rfl
noncomputable def eln {α:Type} (l:List α):Nat:=y0l (motive:=λ_=>Nat) 0 (λ_ _ ih=>y3n ih) l
theorem z06 {α:Type}:∀l:List α,eln l=l.length
 | []=>rfl
 | v::l=>by rw[y0u,←z06 l];rfl
noncomputable def emap {α β:Type} (f:α->Option β) (l:List α):Option (List β):=y0l (motive:=λ_=>Option (List β)) (some []) (λv _ ih=>match f v with
 | some x=>match ih with
  | some xs=>some (x::xs)
  | none=>none
 | none=>none) l
theorem emap_cons {α β:Type}{f:α->Option β}{v:α}{l:List α}{ys:List β}:emap f (v::l)=some ys↔∃x xs,f v=some x/\emap f l=some xs/\ys=x::xs:=by
 show(match f v with
  | some x=>match emap f l with
   | some xs=>some (x::xs)
   | none=>none
  | none=>none)=some ys↔_
 constructor
 ·intro e
  split at e
  ·rename_i x h1
   split at e
   ·rename_i xs h2;cases e;exact⟨x,xs,h1,h2,rfl⟩
   ·cases e
  ·cases e
 ·rintro⟨x,xs,h1,h2,rfl⟩;rw[h1];simp only;rw[h2]
def iLt:Int->Int->Bool
 | .ofNat a,.ofNat b=>y16 a b
 | .ofNat _,.negSucc _=>false
 | .negSucc _,.ofNat _=>true
 | .negSucc a,.negSucc b=>y16 b a
theorem z1e:∀x y:Int,iLt x y=decide (x<y)
 | .ofNat a,.ofNat b=>by rw[y0d];simp[iLt,y0y]
 | .ofNat _,.negSucc _=>by rw[y0d];simp[iLt];omega
 | .negSucc _,.ofNat _=>by rw[y0d];simp[iLt];omega
 | .negSucc a,.negSucc b=>by rw[y0d];simp[iLt,y0y];omega
def iEq:Int->Int->Bool
 | .ofNat a,.ofNat b=>y17 a b
 | .negSucc a,.negSucc b=>y17 a b
 | _,_=>false
theorem z3a:∀x y:Int,iEq x y=decide (x=y)
 | .ofNat a,.ofNat b=>by rw[y0d];simp[iEq];omega
 | .ofNat _,.negSucc _=>by rw[y0d];simp[iEq]
 | .negSucc _,.ofNat _=>by rw[y0d];simp[iEq]
 | .negSucc a,.negSucc b=>by rw[y0d];simp[iEq]
noncomputable def nEq (x y:List Nat):Bool:=y0l (motive:=λ_=>List Nat->Bool) (λl=>match l with
 | []=>true
 | _=>false) (λa _ ih l=>match l with
 | []=>false
 | b::l=>y17 a b&&ih l) x y
theorem zhn:∀x y:List Nat,nEq x y=decide (x=y)
 | [],[]=>rfl
 | [],_::_=>rfl
 | _::_,[]=>rfl
 | a::x,b::y=>by
  show(y17 a b&&nEq x y)=_;rw[zhn x y,y0d];simp
noncomputable def sEq (x y:Str):Bool:=nEq x.cps.toList y.cps.toList
theorem z40 (x y:Str):sEq x y=decide (x=y):=by
 unfold sEq;rw[zhn];congr 1;rw[eq_iff_iff];constructor
 ·intro h;cases x;cases y;congr 1;exact y5n.mp h
 ·rintro rfl;rfl
noncomputable def eat {α:Type} (l:List α):Int->Option α
 | .ofNat k=>eg l k
 | .negSucc k=>bif y16 k (eln l) then eg l (eln l - (k+1)) else none
theorem zi9 {α:Type}{l:List α}{i:Int}{x:α}(h:eat l i=some x):∃j,ixN l.length i=some j/\l[j]?=some x:=by
 cases i with
 | ofNat k =>
  have e:l[k]?=some x:=by rw[←z0r];exact h
  have lt:=(y01.mp e).1;exact⟨k,by unfold ixN;rw[if_pos (by simp),if_pos (by simpa using lt)];rfl,e⟩
 | negSucc k =>
  have h:(bif y16 k l.length then eg l (l.length - (k+1)) else none)=some x:=by rw[←z06];exact h
  cases hb:y16 k l.length with
  | false=>rw[hb] at h;cases h
  | true =>
   rw[hb] at h;have e:l[l.length - (k+1)]?=some x:=by rw[←z0r];exact h
   have lt:=y0y.mp hb;refine⟨_,?_,e⟩;unfold ixN;rw[if_neg (by omega),if_pos (by omega)]
   congr 1;omega
inductive R (α:Type) where
 | ok (a:α) (h:TH) | ex (c:Nat) (h:TH) | no
inductive Fl where
 | nx (ρ:DEn) | rt (v:D)
abbrev RE:=DEn->TH->R D
abbrev RA:=DEn->TH->R (List D)
abbrev RT:=DEn->TH->R Bool
abbrev RS:=DEn->TH->R Fl
def R.bnd {α β:Type}(r:R α)(k:α->TH->R β):R β:=match r with
 | .ok a h=>k a h
 | .ex c h=>.ex c h
 | .no=>.no
def R.sat {α:Type}(r:R α)(P:α->TH->Prop)(E:Nat->TH->Prop):Prop:=match r with
 | .ok a h=>P a h
 | .ex c h=>E c h
 | .no=>False
theorem R.sat.bnd {α β:Type}{r:R α}{k:α->TH->R β}{P:β->TH->Prop}{E:Nat->TH->Prop}(q:(r.bnd k).sat P E):r.sat (λa h=>(k a h).sat P E) E:=by cases r<;>exact q
theorem R.sat.mono {α:Type}{r:R α}{P P':α->TH->Prop}{E:Nat->TH->Prop}(q:r.sat P E)(f:∀a h,P a h->P' a h):r.sat P' E:=by
 cases r with
 | ok a h=>exact f a h q
 | ex c h=>exact q
 | no=>exact q
theorem R.sat.go {α β:Type}{r:R α}{k:α->TH->R β}{P:β->TH->Prop}{P':α->TH->Prop}{E:Nat->TH->Prop}(q:(r.bnd k).sat P E)(f:∀a h,(k a h).sat P E->P' a h):r.sat P' E:=q.bnd.mono f
def ofO {α:Type}(o:Option α)(k:α->R β):R β:=match o with
 | some a=>k a
 | none=>.no
theorem R.sat.o {o:Option α}{k:α->R β}{P:β->TH->Prop}{E:Nat->TH->Prop}(q:(ofO o k).sat P E):∃a,o=some a/\(k a).sat P E:=by
 cases o with
 | none=>exact q.elim
 | some a=>exact⟨a,rfl,q⟩
def z18 {β:Type}(c:Bool)(k:R β):R β:=bif c then k else .no
theorem R.sat.i {c:Bool}{k:R β}{P:β->TH->Prop}{E:Nat->TH->Prop}(q:(z18 c k).sat P E):c=true/\k.sat P E:=by
 cases c with
 | false=>exact q.elim
 | true=>exact⟨rfl,q⟩
structure Ct where
 c:CT
 b:Sx
 W:Nat->Sx->Prop
structure En (C:CT)(s:Sx)(ρ:DEn)(σ:St):Prop where
 len:ρ.length = σ.length
 is:∀(i:Nat) d,ρ[i]?=some (some d)->∃v,σ[i]?=some (some v)/\Is C s d v
structure At (Z:Ct)(s:Sx)(ρ:DEn)(σ:St):Prop where
 g:Go Z.c Z.b s
 en:En Z.c s ρ σ
def CK (Z:Ct)(s:Sx)(Q:VK)(v:D)(h':TH):Prop:=∀{ι H w},Go Z.c s ⟨ι,h',H⟩->Is Z.c ⟨ι,h',H⟩ v w->Q w H
def CA (Z:Ct)(s:Sx)(Q:List V->Hp->Prop)(v:List D)(h':TH):Prop:=∀{ι H w},Go Z.c s ⟨ι,h',H⟩->All Z.c ⟨ι,h',H⟩ v w->Q w H
def CB {α:Type}(Z:Ct)(s:Sx)(Q:α->Hp->Prop)(v:α)(h':TH):Prop:=∀{ι H},Go Z.c s ⟨ι,h',H⟩->Q v H
def CF (Z:Ct)(s:Sx)(E:Ends)(f:Fl)(h':TH):Prop:=∀{ι H},Go Z.c s ⟨ι,h',H⟩->match f with
 | .nx ρ=>∀{σ},En Z.c ⟨ι,h',H⟩ ρ σ->E.nx σ H
 | .rt v=>∀{w},Is Z.c ⟨ι,h',H⟩ v w->E.rt w H
def XK (Z:Ct)(c:Nat)(h':TH):Prop:=∀{ι H},Go Z.c Z.b ⟨ι,h',H⟩->Z.W c ⟨ι,h',H⟩
def Sm (Z:Ct)(t:TE)(f:RE):Prop:=∀{s ρ σ Q},At Z s ρ σ->(f ρ s.h).sat (CK Z s Q) (XK Z)->t σ s.H Q
def SmA (Z:Ct)(t:TA)(f:RA):Prop:=∀{s ρ σ Q},At Z s ρ σ->(f ρ s.h).sat (CA Z s Q) (XK Z)->t σ s.H Q
def SmT (Z:Ct)(t:TT)(f:RT):Prop:=∀{s ρ σ Q},At Z s ρ σ->(f ρ s.h).sat (CB Z s Q) (XK Z)->t σ s.H Q
def SmS (Z:Ct)(t:TS)(f:RS):Prop:=∀{s ρ σ E},At Z s ρ σ->(f ρ s.h).sat (CF Z s E) (XK Z)->t E σ s.H
def Sm1 (Z:Ct)(r:V->Hp->VK->Prop)(g:D->TH->R D):Prop:=∀{s x a Q},Go Z.c Z.b s->Is Z.c s x a->(g x s.h).sat (CK Z s Q) (XK Z)->r a s.H Q
def Sm2 (Z:Ct)(r:R2)(g:D->D->TH->R D):Prop:=∀{s x y a b Q},Go Z.c Z.b s->Is Z.c s x a->Is Z.c s y b->(g x y s.h).sat (CK Z s Q) (XK Z)->r a b s.H Q
def SmN (Z:Ct)(r:List V->Hp->VK->Prop)(g:List D->TH->R D):Prop:=∀{s x a Q},Go Z.c Z.b s->All Z.c s x a->(g x s.h).sat (CK Z s Q) (XK Z)->r a s.H Q
def xR (Z:Ct)(f:RE):TE:=fun σ H Q=>∃s ρ,s.H=H/\At Z s ρ σ/\(f ρ s.h).sat (CK Z s Q) (XK Z)
def xA (Z:Ct)(f:RA):TA:=fun σ H Q=>∃s ρ,s.H=H/\At Z s ρ σ/\(f ρ s.h).sat (CA Z s Q) (XK Z)
def xB (Z:Ct)(f:RT):TT:=fun σ H Q=>∃s ρ,s.H=H/\At Z s ρ σ/\(f ρ s.h).sat (CB Z s Q) (XK Z)
def xS (Z:Ct)(f:RS):TS:=λE σ H=>∃s ρ,s.H=H/\At Z s ρ σ/\(f ρ s.h).sat (CF Z s E) (XK Z)
section
variable {Z:Ct}{X:Cx}{e:Expr}{st:Stmt}{sts:List Stmt}{es:List Expr}{s s1:Sx}{ρ:DEn}{σ:St}{ta tb tc:TE}{fa fb fc:RE}{t:TA}{f:RA}{tt uu:TT}{fT fU:RT}{ts us:TS}{fs fu:RS}
theorem sx:Sm Z (xR Z fa) fa:=λ{s ρ σ Q} A q=>⟨s,ρ,rfl,A,q⟩
theorem sxa:SmA Z (xA Z f) f:=λ{s ρ σ Q} A q=>⟨s,ρ,rfl,A,q⟩
theorem sxt:SmT Z (xB Z fT) fT:=λ{s ρ σ Q} A q=>⟨s,ρ,rfl,A,q⟩
theorem sxs:SmS Z (xS Z fs) fs:=λ{s ρ σ Q} A q=>⟨s,ρ,rfl,A,q⟩
theorem re (h:PE X e ta)(k:Sm Z ta fa):PE X e (xR Z fa):=z3c h fun σ H Q ⟨s,ρ,e,A,q⟩=>by subst e;exact k A q
theorem ra (h:PA X es t)(k:SmA Z t f):PA X es (xA Z f):=λpos aa s' σ H Q I ⟨s,ρ,e,A,q⟩=>h pos aa s' σ H Q I (by subst e;exact k A q)
theorem rt (h:PT X e tt)(k:SmT Z tt fT):PT X e (xB Z fT):=zqy h fun σ H Q ⟨s,ρ,e,A,q⟩=>by subst e;exact k A q
theorem rw_ (h:PW X e tt)(k:SmT Z tt fT):PW X e (xB Z fT):=λwh aa s' σ H Q I ⟨s,ρ,e,A,q⟩=>h wh aa s' σ H Q I (by subst e;exact k A q)
theorem rs (h:PS X st ts)(k:SmS Z ts fs):PS X st (xS Z fs):=zb4 h λE σ H ⟨s,ρ,e,A,q⟩=>by subst e;exact k A q
theorem rss (h:PSs X sts ts)(k:SmS Z ts fs):PSs X sts (xS Z fs):=λaa s' σ H E I ⟨s,ρ,e,A,q⟩=>h aa s' σ H E I (by subst e;exact k A q)
theorem En.go (E:En C s ρ σ)(x:Go C s s1):En C s1 ρ σ:=⟨E.len,λi d e=>let ⟨v,e1,q⟩:=E.is i d e;⟨v,e1,x.is q⟩⟩
theorem En.set (E:En C s ρ σ){d:D}{v:V}(q:Is C s d v)(j:Nat):En C s (ρ.set j (some d)) (σ.set j (some v)):=by
 refine⟨by simp[E.len],λi d' e=>?_⟩
 by_cases z:j=i
 ·subst z;have lt:j < ρ.length:=by have:=(y01.mp e).1;simpa using this
  rw[y0z lt] at e;cases e;exact⟨v,y0z (E.len▸lt),q⟩
 ·rw[y0h z] at e;obtain⟨w,e1,e2⟩:=E.is i d' e;exact⟨w,by rw[y0h z];exact e1,e2⟩
theorem At.go (A:At Z s ρ σ)(x:Go Z.c s s1):At Z s1 ρ σ:=⟨A.g.trans x,A.en.go x⟩
theorem CK.go {Q:VK}{v:D}{h:TH}(x:Go Z.c s s1)(q:CK Z s Q v h):CK Z s1 Q v h:=λg=>q (x.trans g)
theorem CB.go {α:Type}{Q:α->Hp->Prop}{v:α}{h:TH}(x:Go Z.c s s1)(q:CB Z s Q v h):CB Z s1 Q v h:=λg=>q (x.trans g)
theorem CF.go {E:Ends}{v:Fl}{h:TH}(x:Go Z.c s s1)(q:CF Z s E v h):CF Z s1 E v h:=λg=>q (x.trans g)
theorem CK.now {Q:VK}{v:D}{w:V}(q:CK Z s Q v s.h)(R:Rl Z.c s)(i:Is Z.c s v w):Q w s.H:=q (ι:=s.ι) (H:=s.H) (.refl R) i
theorem zj2:∀{σ:St} {i:Nat} {v:V},σ[i]?=some (some v)->sg σ i=some v
 | _::_,0,_,h=>by cases h;rfl
 | _ :: σ,i+1,v,h=>zj2 (σ:=σ) (i:=i) (v:=v) (by simpa using h)
noncomputable def rV (i:Nat):RE:=fun ρ h=>match eg ρ i with
 | some (some v)=>.ok v h
 | _=>.no
theorem zvs (i:Nat):Sm Z (xV i) (rV i):=λ{s ρ σ Q} A q=>by
 unfold rV at q
 split at q
 ·rename_i v e;rw[z0r] at e;obtain⟨w,e1,i1⟩:=A.en.is i _ e;unfold xV;rw[zj2 e1];exact CK.now q A.g.rl i1
 ·exact q.elim
def rC (d:D):RE:=λ_ h=>.ok d h
theorem zpp {d:D}{v:V}(i:∀s,Is Z.c s d v):Sm Z (tC v) (rC d):=λA q=>CK.now q A.g.rl (i _)
def rOp (g:D->D->TH->R D)(fa fb:RE):RE:=fun ρ h=>(fa ρ h).bnd λx h=>(fb ρ h).bnd λy h=>g x y h
theorem zcc {r:R2}{g:D->D->TH->R D}(k:Sm2 Z r g)(sa:Sm Z ta fa)(sb:Sm Z tb fb):Sm Z (tOp r ta tb) (rOp g fa fb):=λA q =>
 sa A <| q.go λx h1 q _ _ _ g1 i1=>sb (A.go g1) <| q.go λy h2 q _ _ _ g2 i2=>k (A.g.trans (g1.trans g2)) (g2.is i1) i2 <| q.mono λ_ _ q=>q.go (g1.trans g2)
def rUn (g:D->TH->R D)(fa:RE):RE:=fun ρ h=>(fa ρ h).bnd λx h=>g x h
theorem ztb {r:V->Hp->VK->Prop}{g:D->TH->R D}(k:Sm1 Z r g)(sa:Sm Z ta fa):Sm Z (tUn r ta) (rUn g fa):=λA q =>
 sa A <| q.go λx h1 q _ _ _ g1 i1=>k (A.g.trans g1) i1 <| q.mono λ_ _ q=>q.go g1
def z01:RA:=λ_ h=>.ok [] h
def z00 (fa:RE)(f:RA):RA:=fun ρ h=>(fa ρ h).bnd λx h=>(f ρ h).bnd λxs h=>.ok (x::xs) h
theorem zra:SmA Z zw1 z01:=λ{s ρ σ Q} A q=>q (ι:=s.ι) (H:=s.H) (.refl A.g.rl) rfl
theorem zkc (sa:Sm Z ta fa)(sr:SmA Z t f):SmA Z (zpg ta t) (z00 fa f):=λA q =>
 sa A <| q.go λx h1 q _ _ _ g1 i1=>sr (A.go g1) <| q.go λy h2 q _ _ _ g2 i2=>q (g1.trans g2) ⟨_,_,rfl,g2.is i1,i2⟩
def rCB (g:List D->TH->R D)(f:RA):RE:=fun ρ h=>(f ρ h).bnd λxs h=>g xs h
theorem zke {r:List V->Hp->VK->Prop}{g:List D->TH->R D}(k:SmN Z r g)(sa:SmA Z t f):Sm Z (tCB r t) (rCB g f):=λA q =>
 sa A <| q.go λx h1 q _ _ _ g1 i1=>k (A.g.trans g1) i1 <| q.mono λ_ _ q=>q.go g1
def z0b (fa:RE):RT:=fun ρ h=>(fa ρ h).bnd λx h=>match x with
 | .bl b=>.ok b h
 | _=>.no
theorem zi3 (sa:Sm Z ta fa):SmT Z (xT ta) (z0b fa):=λA q=>sa A <| q.go λx h1 q _ _ _ g1 i1=>by
 split at q
 ·rw[show _=V.bl _ from i1];exact q g1
 ·exact q.elim
def ze3 (fT fU:RT):RT:=fun ρ h=>(fT ρ h).bnd λb h=>bif b then fU ρ h else .ok false h
def rOr (fT fU:RT):RT:=fun ρ h=>(fT ρ h).bnd λb h=>bif b then .ok true h else fU ρ h
def z6e (fT:RT):RT:=fun ρ h=>(fT ρ h).bnd λb h=>.ok (!b) h
theorem zoc (s1:SmT Z tt fT)(s2:SmT Z uu fU):SmT Z (zwv tt uu) (ze3 fT fU):=λA q=>s1 A <| q.go λb h1 q _ _ g1=>by
 cases b with
 | true=>rw[if_pos rfl];exact s2 (A.go g1) <| q.mono λ_ _ q=>q.go g1
 | false=>rw[if_neg (by decide)];exact q g1
theorem ztc (s1:SmT Z tt fT)(s2:SmT Z uu fU):SmT Z (tOr tt uu) (rOr fT fU):=λA q=>s1 A <| q.go λb h1 q _ _ g1=>by
 cases b with
 | false=>rw[if_neg (by decide)];exact s2 (A.go g1) <| q.mono λ_ _ q=>q.go g1
 | true=>rw[if_pos rfl];exact q g1
theorem zpo (s1:SmT Z tt fT):SmT Z (zwc tt) (z6e fT):=λA q=>s1 A <| q.go λb h1 q _ _ g1=>q g1
def rIf (fT:RT)(fa fb:RE):RE:=fun ρ h=>(fT ρ h).bnd λb h=>bif b then fa ρ h else fb ρ h
theorem zsv (s1:SmT Z tt fT)(sa:Sm Z ta fa)(sb:Sm Z tb fb):Sm Z (tIf tt ta tb) (rIf fT fa fb):=λA q=>s1 A <| q.go λb h1 q _ _ g1=>by
 cases b with
 | true=>rw[if_pos rfl];exact sa (A.go g1) <| q.mono λ_ _ q=>q.go g1
 | false=>rw[if_neg (by decide)];exact sb (A.go g1) <| q.mono λ_ _ q=>q.go g1
def z3x (fa fb:RE):RE:=fun ρ h=>(fa ρ h).bnd λx h=>match x with
 | .bl b=>bif b then fb ρ h else .ok (.bl false) h
 | _=>.no
def zsh (fa fb:RE):RE:=fun ρ h=>(fa ρ h).bnd λx h=>match x with
 | .bl b=>bif b then .ok (.bl true) h else fb ρ h
 | _=>.no
def zjb (fa:RE):RE:=fun ρ h=>(fa ρ h).bnd λx h=>match x with
 | .bl b=>.ok (.bl (!b)) h
 | _=>.no
theorem zmd (sa:Sm Z ta fa)(sb:Sm Z tb fb):Sm Z (zvt ta tb) (z3x fa fb):=λA q=>sa A <| q.go λx h1 q _ _ _ g1 i1=>by
 split at q
 ·rename_i b;rw[show _=V.bl _ from i1]
  cases b with
  | true=>exact sb (A.go g1) <| q.mono λ_ _ q=>q.go g1
  | false=>exact q g1 rfl
 ·exact q.elim
theorem zt6 (sa:Sm Z ta fa)(sb:Sm Z tb fb):Sm Z (xOr ta tb) (zsh fa fb):=λA q=>sa A <| q.go λx h1 q _ _ _ g1 i1=>by
 split at q
 ·rename_i b;rw[show _=V.bl _ from i1]
  cases b with
  | false=>exact sb (A.go g1) <| q.mono λ_ _ q=>q.go g1
  | true=>exact q g1 rfl
 ·exact q.elim
theorem zpx (sa:Sm Z ta fa):Sm Z (zx6 ta) (zjb fa):=λA q=>sa A <| q.go λx h1 q _ _ _ g1 i1=>by
 split at q
 ·rw[show _=V.bl _ from i1];exact q g1 rfl
 ·exact q.elim
def z03 (fs fu:RS):RS:=fun ρ h=>(fs ρ h).bnd λx h=>match x with
 | .nx ρ=>fu ρ h
 | .rt v=>.ok (.rt v) h
theorem zqi (s1:SmS Z ts fs)(s2:SmS Z us fu):SmS Z (zwl ts us) (z03 fs fu):=λA q=>s1 A <| q.go λx h1 q ι H g1=>by
 cases x with
 | nx ρ=>exact λE=>s2 (s:=⟨ι,h1,H⟩) ⟨A.g.trans g1,E⟩ <| q.mono λ_ _ q=>q.go g1
 | rt v=>exact q g1
def z09:RS:=fun ρ h=>.ok (.nx ρ) h
theorem zdr:SmS Z zkv z09:=λ{s ρ σ E} A q=>q (ι:=s.ι) (H:=s.H) (.refl A.g.rl) A.en
def z0h (fa:RE):RS:=fun ρ h=>(fa ρ h).bnd λx h=>.ok (.rt x) h
theorem zqt (sa:Sm Z ta fa):SmS Z (zw6 ta) (z0h fa):=λA q=>sa A <| q.go λx h1 q _ _ _ g1 i1=>q g1 i1
def rDo (fa:RE):RS:=fun ρ h=>(fa ρ h).bnd λ_ h=>.ok (.nx ρ) h
theorem zj3 (sa:Sm Z ta fa):SmS Z (zq2 ta) (rDo fa):=λA q=>sa A <| q.go λx h1 q _ _ _ g1 i1=>q g1 (A.en.go g1)
def z0q (fT:RT)(fs fu:RS):RS:=fun ρ h=>(fT ρ h).bnd λb h=>bif b then fs ρ h else fu ρ h
theorem zss (s1:SmT Z tt fT)(sa:SmS Z ts fs)(sb:SmS Z us fu):SmS Z (zw5 tt ts us) (z0q fT fs fu):=λA q=>s1 A <| q.go λb h1 q _ _ g1=>by
 cases b with
 | true=>rw[if_pos rfl];exact sa (A.go g1) <| q.mono λ_ _ q=>q.go g1
 | false=>rw[if_neg (by decide)];exact sb (A.go g1) <| q.mono λ_ _ q=>q.go g1
abbrev RG:=D->DEn->Option DEn
def SmG (Z:Ct)(g:TG)(f:RG):Prop:=∀{s ρ ρ' σ d v} {Q:St->Hp->Prop},At Z s ρ σ->Is Z.c s d v->f d ρ=some ρ'->(∀{σ'},En Z.c s ρ' σ'->Q σ' s.H)->g v σ s.H Q
noncomputable def rN (i:Nat):RG:=λd ρ=>some (est ρ i (some d))
theorem z0z (i:Nat):SmG Z (z1m i) (rN i):=λA i1 e q=>by
 cases e;exact q (by rw[z14];exact A.en.set i1 i)
@[irreducible] noncomputable def rN2 (i j:Nat):RG:=λd ρ=>match d with
 | .tup [x,y]=>some (est (est ρ i (some x)) j (some y))
 | _=>none
theorem z4r (i j:Nat):SmG Z (xT2 Z.c.K i j) (rN2 i j):=λA i1 e q=>by
 unfold rN2 at e
 split at e
 ·cases e;obtain⟨a,xs,rfl,s,v1,vs,rfl,q1,v2,ws,rfl,q2,z⟩:=i1;cases (show ws = [] from z)
  exact⟨v1,v2,Same.tup z0x s,q (by rw[z14,z14];exact(A.en.set q1 i).set q2 j)⟩
 ·cases e
@[irreducible] noncomputable def rN3 (i j k:Nat):RG:=λd ρ=>match d with
 | .tup [x,y,z]=>some (est (est (est ρ i (some x)) j (some y)) k (some z))
 | _=>none
theorem zfd (i j k:Nat):SmG Z (xT3 Z.c.K i j k) (rN3 i j k):=λA i1 e q=>by
 unfold rN3 at e
 split at e
 ·cases e;obtain⟨a,xs,rfl,s,v1,vs,rfl,q1,v2,ws,rfl,q2,v3,us,rfl,q3,z⟩:=i1;cases (show us = [] from z)
  exact⟨v1,v2,v3,Same.tup z0x s,q (by rw[z14,z14,z14];exact((A.en.set q1 i).set q2 j).set q3 k)⟩
 ·cases e
def z07 (fa:RE)(fg:RG):RS:=fun ρ h=>(fa ρ h).bnd λx h=>ofO (fg x ρ) fun ρ=>.ok (.nx ρ) h
theorem z9t {g:TG}{fg:RG}(sa:Sm Z ta fa)(sg:SmG Z g fg):SmS Z (zi7 ta g) (z07 fa fg):=λA q=>sa A <| q.go λx h1 q _ _ _ g1 i1=>by
 obtain⟨ρ',e,q⟩:=q.o;exact sg (A.go g1) i1 e λE=>q g1 E
end
end L2.RX
set_option Elab.async false
set_option linter.all false
set_option maxRecDepth 100000
namespace My
open PySem L2 L2.EX
def pr (p:Nat×Nat):PyData:=.tuple [.int (p.1:Int),.int (p.2:Int)]
def zon (l:List Nat):PyData:=.list (l.map λ(n:Nat)=>.int (n:Int))
def zt7 (l:List Nat):List V:=l.map λ(n:Nat)=>.int (n:Int)
structure Fix (K:y00)(C:Addr)(F:Hp)(me:Addr)(N:PM.Net)(aS aP:Addr):Prop where
 obj:∃dx fs aT aA,F me=some (.ins C dx fs)/\fs.lookup ("many_gives":Str)=some (.int (N.G:Int))/\fs.lookup ("tie_ends":Str)=some (.ref aT)/\fs.lookup ("sent":Str)=some (.ref aS)/\fs.lookup ("spare":Str)=some (.ref aP)/\fs.lookup ("ties_at":Str)=some (.ref aA) /\
  Is K F (.ref aT) (.list (N.ends.map pr))/\Is K F (.ref aA) (.list (N.at'.map zon)) /\
  (∀m:Str,m∈(["far_end","may_go","gives_with_rest","has_room","steps_to_room","row_behind","send_by_steps","way_from","skip_dead_ties","leads_on","send_along","fill"]:List Str)->fs.lookup m=none)
structure PourAt (K:y00)(C:Addr)(H:Hp)(me:Addr)(N:PM.Net)(aS aP:Addr)(am aj:List Int)(M:List Addr):Prop where
 ok:∃F,Same F H/\F aS=none/\F aP=none/\(∀m∈M,F m=none)/\Fix K C F me N aS aP
 mu:∀m∈M,m≠aS/\m≠aP
 st:H aS=some (.lst (am.map V.int))
 sp:H aP=some (.lst (aj.map V.int))
 ne:aS≠aP
 wf:N.WF
 ls:am.length=N.ends.length
 lp:aj.length=N.nE
 sm:N.nE≤1000
 sk:N.ends.length≤1000
section
variable {K:y00}{C:Addr}{H H':Hp}{me:Addr}{N:PM.Net}{aS aP:Addr}{am aj:List Int}{M:List Addr}
end
def rest (N:PM.Net)(aj:List Int):List Nat:=(y0s N.G).filter λg=>decide (0<aj.getD g 0)
section
variable (K:y00)(C:Addr)
end
section
variable (K:y00)(C:Addr)
end
section
variable (K:y00)(C:Addr)
end
section
variable (K:y00)(C:Addr)
end
section
variable (K:y00)(C:Addr)
def zn2 (ae:List Int):List Bool:=ae.map λs=>decide (0≤s)
end
def zxw (ae:List Int)(i:Nat):List Nat:=(y0s i).filter λe=>decide (0≤PM.Lv ae e)
structure FF (fs:List (Str×V))(n:Nat)(g:Str->Option V):Prop where
 len:fs.length≤n
 get:∀m,fs.lookup m=g m
def zn1 (G:Nat)(aE:List (Nat×Nat)):List (Nat×Nat):=aE.map λp=>(p.1,G+p.2)
structure Aprt (x lT lS lP lA:Addr)(as:List Addr):Prop where
 Px:lP≠x
 PT:lP≠lT
 PS:lP≠lS
 PA:lP≠lA
 inP:lP ∉ as
 inx:x ∉ as
 inT:lT ∉ as
 inS:lS ∉ as
 inA:lA ∉ as
 nd:as.Nodup
structure IniAt (K:y00)(C:Addr)(H:Hp)(x dx lT lS lP lA:Addr)(fs:List (Str×V))(tl:List V)(E:List (Nat×Nat))(ss:List Int)(as:List Addr)(n:Nat)(sf:Nat->Int)(af:Nat->List Nat):Prop where
 me:H x=some (.ins C dx fs)
 te:H lT=some (.lst tl)
 al:IsAll K H tl (E.map pr)
 st:H lS=some (.lst (ss.map V.int))
 ta:H lA=some (.lst (as.map V.ref))
 sp:H lP=some (.lst (((y0s n).map sf).map V.int))
 tt:∀(e:Nat) (a:Addr),as[e]?=some a->H a=some (.lst (zt7 (af e)))
section
variable {K:y00}{C:Addr}{H H':Hp}{x dx lT lS lP lA:Addr}{fs:List (Str×V)}{tl:List V}{E:List (Nat×Nat)}{ss:List Int}{as:List Addr}{n:Nat}{sf:Nat->Int}{af:Nat->List Nat}
end
section
variable (K:y00)(C:Addr)
end
section
variable (K:y00)
end
end My
set_option Elab.async false
set_option linter.all false
set_option maxRecDepth 100000
namespace My
open PySem L2 L2.EX
end My
set_option Elab.async false
set_option linter.all false
set_option maxRecDepth 100000
namespace My
open PySem L2 L2.EX
section
variable {gs ts am aj ae:List Int}{aE:List (Nat×Nat)}
end
def p1 (gv:List Bool):List Bool->List (Nat×Nat)->List Bool
 | tk,p::ps=>p1 gv (if gv.getD p.1 false=true then tk.set p.2 true else tk) ps
 | tk,[]=>tk
def p2 (tk:List Bool):List Bool->List (Nat×Nat)->List Int->List Bool
 | gv,p::ps,s::ss=>p2 tk (if tk.getD p.2 false=true/\0<s then gv.set p.1 true else gv) ps ss
 | gv,_,_=>gv
def rnd (aE:List (Nat×Nat))(ss:List Int)(x:List Bool×List Bool):List Bool×List Bool:=(p2 (p1 x.1 x.2 aE) x.1 aE ss,p1 x.1 x.2 aE)
def its (aE:List (Nat×Nat))(ss:List Int):Nat->List Bool×List Bool->List Bool×List Bool
 | 0,x=>x
 | n+1,x=>rnd aE ss (its aE ss n x)
structure Mk (G T:Nat)(x:List Bool×List Bool):Prop where
 l1:x.1.length=G
 l2:x.2.length=T
section
variable {G T:Nat}{aE:List (Nat×Nat)}{ss:List Int}
end
section
variable {gs ts am aj ae:List Int}{aE:List (Nat×Nat)}
end
structure TellsP (H:Hp)(p q aS n1 n2:Addr)(G:Nat)(am ae:List Int):Prop where
 h1:H p=some (.tup [.ref aS,.ref q])
 h2:H q=some (.tup [.ref n1,.ref n2])
 h3:H aS=some (.lst (am.map V.int))
 h4:H n1=some (.lst (((zn2 ae).take G).map V.bl))
 h5:H n2=some (.lst (((zn2 ae).drop G).map V.bl))
structure AsksP (K:y00)(H:Hp)(ag ak ai:Addr)(gs ts:List Int)(aE:List (Nat×Nat)):Prop where
 g:H ag=some (.lst (gs.map V.int))
 t:H ak=some (.lst (ts.map V.int))
 i:Is K H (.ref ai) (.list (aE.map pr))
 ok:∀p∈aE,p.1<gs.length/\p.2<ts.length
 sm:gs.length+ts.length≤400
 sk:aE.length≤400
 nn:∀g∈gs++ts,0≤g
 bd:∀g∈gs++ts,Bd 1200 g
def zlx (gs ts:List Int)(aE:List (Nat×Nat))(ss:List Int)(e:Nat):Int:=(gs++ts).getD e 0 - PM.load (zn1 gs.length aE) ss e
structure Fits (gs ts:List Int)(aE:List (Nat×Nat))(ss:List Int):Prop where
 len:ss.length=aE.length
 nn:∀(k:Nat) s,ss[k]?=some s->0≤s
 rm:∀e<gs.length+ts.length,0≤zlx gs ts aE ss e
section
variable {gs ts ss am aj ae sent' aY steps':List Int}{aE:List (Nat×Nat)}
end
end My
set_option Elab.async false
set_option linter.all false
set_option maxRecDepth 100000
namespace L2.EX
open PySem PySem.Spec PyProof.Rows
section
variable {X:Cx}{e:Expr}{te:TE}{p p2 pos aF:Pos}
def zck (te:TE)(σ:St)(H:Hp)(Q:VK):Prop:=te σ H λx H1=>match x with
 | .int j=>(0≤j/\j≤1000)/\∀l,H1 l=none->Q (.ref l) (upd H1 l (.lst ((y0s j.toNat).map λ(i:Nat)=>V.int (i:Int))))
 | _=>False
theorem z7r {j:Int}(h0:0≤j)(h1:j≤1000):Builtin.Range.small 0 j 1=true:=zg5 (by decide) (by decide) (by omega) (by omega) (by decide) (by decide)
theorem z8g {j:Int}(h0:0≤j):Builtin.Range.rangeSize 0 j 1=(j.toNat:Int):=by
 unfold Builtin.Range.rangeSize;rw[if_pos (by decide)]
 split
 ·have:(j - 0 - 1) / 1=j - 1:=by rw[Int.ediv_one];omega
  omega
 ·omega
theorem zaw (hl:X.mg "list"=none)(hm:X.mg "range"=none)(he:PE X e te)(hg:Gl X "list":=by rfl)(hg2:Gl X "range":=by rfl)
  (hs:starEach [Expr.Call (.Name "range" p2) [e] [] aF] X.env = [(false,eval (Expr.Call (.Name "range" p2) [e] [] aF) X.env)]:=by rfl) (hs2:starEach [e] X.env = [(false,eval e X.env)]:=by rfl) (hc:X.calm=true:=by rfl) :
  PE X (.Call (.Name "list" p) [.Call (.Name "range" p2) [e] [] aF] [] pos) (zck te):=by
 intro aa s σ H Q I h;refine wpAny_Call_Name_kw (z16 I hg hl z88 ?_);refine y0f ?_ hs rfl;rw[hs];show wpAny _ _ (spliced [(false,eval (Expr.Call (.Name "range" p2) [e] [] aF) X.env)]) _ _ s;refine Calls.spliced_cons ?_;refine wpAny_Call_Name_kw (z16 I hg2 hm boot_range (y0f (thn ((z0l (z0f he) z1w hs2) aF aa s σ H (λvs H1=>∃x,vs = [x]/\(match x with
  | .int j=>(0≤j/\j≤1000)/\∀l,H1 l=none->Q (.ref l) (upd H1 l (.lst ((y0s j.toNat).map λ(i:Nat)=>V.int (i:Int))))
  | _=>False)) I ⟨_,h,λv H1 q=>⟨v,rfl,q⟩⟩) λus s1 h1=>?_) hs2 rfl))
 obtain⟨vs,H1,I1,r1,x,rfl,q1⟩:=h1;obtain⟨u,rfl,rx⟩:=z29 r1
 split at q1
 ·rename_i j;obtain⟨t,rfl⟩:=rx;obtain⟨⟨j0,j1⟩,q⟩:=q1;refine call_range_1 ?_;refine Calls.spliced_nil ?_;have I2:Inv X aa σ H1 { s1 with heap:=s1.heap.push { cls:=.type "range",data:=.fields #[.int 0 s1.toks,.int j t,.int 1 (s1.toks+1)] },toks:=s1.toks+1+1 }:=I1.kept λb o e=>Heap.get?_push_of_some _ e
  refine call_list_range (n:=j.toNat) (I1.ok.hd hc) (Heap.get?_push_size _ rfl) (z7r j0 j1) (z8g j0) (by omega) λh' tk acc c' hk hS hit=>?_
  refine⟨.ref _,_,I2.laid (t':=tk) hk (y08 _) (show ObjOk X.prog X.w _ h' _ (.lst ((y0s j.toNat).map λ(i:Nat)=>V.int (i:Int))) from ⟨?_,acc.toList,c',?_,by simpa using hS⟩),rfl,q _ (I2.hok.fresh (y08 _))⟩
  ·have:1000≤sizeLine:=by decide
   simp;omega
  ·refine z5q (by simp[hit.1]) λi x u hx hu=>?_
   have hil:i<j.toNat:=by
    have:=(y01.mp hx).1;simpa using this
   rw[y0g,List.getElem?_range hil] at hx;cases hx;obtain⟨t',ht'⟩:=hit.2 i u (by simpa using hu)
   exact⟨t',by rw[ht'];simp⟩
 ·exact q1.elim
end
end L2.EX
set_option Elab.async false
set_option linter.all false
set_option maxRecDepth 100000
namespace L2.EX
open PySem PySem.Spec PyProof.Rows
section
variable {X:Cx}
@[reducible] def zvk (K:y00)(xs:List V)(H:Hp)(Q:VK):Prop:=match xs with
 | [.ref l]=>∃ns:List Int,SqL K H l (ns.map V.int)/\ns.length<64/\∀ms:List Int,ms.Perm ns->ms.Pairwise (·≤·)->∀p,H p=none->Q (.ref p) (upd H p (.lst (ms.map V.int)))
 | _=>False
end
end L2.EX
set_option Elab.async false
set_option linter.all false
set_option maxRecDepth 100000
namespace My
open PySem L2 L2.EX
def zqm (drs:List (List Nat)):PyData:=.list (drs.map zon)
structure AsksC (K:y00)(H:Hp)(aw ad:Addr)(ws:List Int)(drs:List (List Nat)):Prop where
 w:H aw=some (.lst (ws.map V.int))
 d:Is K H (.ref ad) (zqm drs)
 len:drs.length=ws.length
 few:ws.length≤20
 row:∀r∈drs,r.length≤20
 pos:∀x∈ws,1≤x
 bd:∀x∈ws,Bd 300 x
def zqx (ws:List Int)(ao:List Nat):Int:=(ao.map λc=>ws.getD c 0).sum
structure CrowdOk (n m:Nat)(aI ao:List Nat):Prop where
 nd:aI.Nodup
 hl:aI.length≤20
 cl:ao.length≤20
 ci:∀c∈ao,c<n
def takesIn (ws:List Int)(aI ao:List Nat):List Int:=y0b aI.length (zqx ws ao)
def pick {α:Type}(xs:List α)(bs:List Bool)(w:Bool):List α:=((xs.zip bs).filter λp=>p.2==w).map (·.1)
def zo4 (ws:List Int)(c:Nat):Int:=if c<ws.length then ws.getD c 0 else 1
def zoh (drs:List (List Nat))(c:Nat):List Nat:=drs.getD c []
structure DoOk (ws:List Int)(drs:List (List Nat))(aq:Nat):Prop where
 few:aq≤20
 some:∀c<ws.length,zoh drs c ≠ []
 lt:∀c<ws.length,∀h∈zoh drs c,h<aq
section
variable {ws:List Int}{drs:List (List Nat)}{c:PM.Cr}{am aj ae:List Int}
end
def zyn (ws:List Int)(drs:List (List Nat))(c:PM.Cr):Prop:=PM.Hi (zo4 ws) (zoh drs) c (PM.tot (zo4 ws) c) c.1.length
def zsq (H:Hp)(a b:Addr):Hp:=del (del H a) b
structure Two (K:y00)(H H':Hp)(a b:Addr)(vs us:List V)(ds es:List PyData):Prop where
 ne:a≠b
 old:Same H (zsq H' a b)
 h1:H' a=some (.lst vs)
 h2:H' b=some (.lst us)
 a1:IsAll K (zsq H' a b) vs ds
 a2:IsAll K (zsq H' a b) us es
section
variable {K:y00}{H H' H'':Hp}{a b:Addr}{vs us:List V}{ds es:List PyData}
end
structure LayOk (ws:List Int)(L:List PM.Cr)(ps:List (Int×Int)):Prop where
 len:ps.length=L.length
 at_:∀(i:Nat) c p,L[i]?=some c->ps[i]?=some p->Low p/\p.1*(c.1.length:Int)=PM.tot (zo4 ws) c*p.2
structure CrOk (ws:List Int)(drs:List (List Nat))(aq:Nat)(L:List PM.Cr):Prop where
 none:aq=0->L = []
 cr:0<aq->PM.Crowds (zo4 ws) (zoh drs) aq ws.length L
 rst:∀c∈L,zyn ws drs c
structure LoadOk (aq:Nat)(L:List PM.Cr)(ps qs:List (Int×Int)):Prop where
 len:qs.length=aq
 at_:∀(i:Nat) c p,L[i]?=some c->ps[i]?=some p->∀h∈c.1,qs[h]?=some p
def zrg (n aq:Nat)(drs:List (List Nat)):Prop:=drs.length=n/\∀r∈drs,r ≠ []/\r.Pairwise (· < ·)/\∀h∈r,h<aq
end My
set_option Elab.async false
set_option linter.all false
set_option maxRecDepth 100000
namespace My
open PySem L2 L2.EX
section
variable {ws:List Int}{drs:List (List Nat)}{aq:Nat}{L:List PM.Cr}{ps:List (Int×Int)}
end
end My
set_option Elab.async false
set_option linter.all false
set_option maxRecDepth 100000
namespace My
open PySem L2 L2.EX
end My
set_option linter.all false
namespace PM
def SH (aq:Nat)(T:Nat->Bool)(x:Nat->Int):Int:=((y0s aq).map λh=>if T h then x h else 0).sum
def IW (wk:Nat->Int)(dr:Nat->List Nat)(ao:Nat)(T:Nat->Bool):Int:=((y0s ao).map λk=>if (dr k).all T then wk k else 0).sum
structure Sol (wk:Nat->Int)(dr:Nat->List Nat)(aq ao:Nat)(M:Int)(L:List Cr)(x:Nat->Int):Prop where
 hp:(L.flatMap (·.1)).Perm (y0s aq)
 cp:(L.flatMap (·.2)).Perm (y0s ao)
 hi:∀c∈L,Hi wk dr c (tot wk c) c.1.length
 ne:∀c∈L,c.1 ≠ []
 eq:∀c∈L,∀h∈c.1,x h*c.1.length=tot wk c*M
 up:∀(i:Nat) c,L[i]?=some c->∀k∈c.2,∀h∈dr k,∃(j:Nat) (d:Cr),j≤i/\L[j]?=some d/\h∈d.1
 fall:∀(i:Nat) c d,L[i]?=some c->L[i+1]?=some d->∀h∈c.1,∀g∈d.1,x g<x h
 wp:∀k,0<wk k
 mp:0<M
section
variable {wk:Nat->Int}{dr:Nat->List Nat}{aq ao:Nat}{M:Int}{L L':List Cr}{x x':Nat->Int}
end
end PM
set_option Elab.async false
set_option linter.all false
set_option maxRecDepth 100000
namespace My
open PySem L2 L2.EX
def xOf (qs:List (Int×Int))(M:Int)(h:Nat):Int:=(qs.getD h (0,1)).1*(M / (qs.getD h (0,1)).2)
variable {ws:List Int}{drs:List (List Nat)}{aq:Nat}{L L':List PM.Cr}{ps ps' qs qs':List (Int×Int)}
end My
set_option Elab.async false
set_option linter.all false
set_option maxRecDepth 100000
namespace My
open PySem L2 L2.EX
section
variable {H H' H'':Hp}{vs us:List V}{l:Addr}{o:HO}
end
end My
namespace My
open PySem L2 L2.EX
def zw9 (aq:Nat)(row:List Nat):List Nat:=(y0s aq).filter λh=>!decide (h∈row)
variable {L:List PM.Cr}{aq:Nat}
end My
namespace My
open PySem L2 L2.EX
end My
set_option linter.all false
namespace PM
def ab (l:List Int)(T:Int):Int:=(l.map λx=>if T<x then x - T else 0).sum
section
variable {wk:Nat->Int}{dr:Nat->List Nat}{aq ao:Nat}{M:Int}{L:List Cr}{x o:Nat->Int}
end
end PM
set_option Elab.async false
set_option linter.all false
set_option maxRecDepth 100000
namespace My
open PySem L2 L2.EX
section
variable {X:Cx}{o e:Expr}{es:List Expr}{ta:TE}{t:TA}{ah ac:Pos}
end
def vl (M:Int)(p:Int×Int):Int:=p.1*(M / p.2)
def FOk (p:Int×Int):Prop:=1≤p.2/\p.2≤60/\0≤p.1/\Bd 400 p.1
def zyc (lv a p:Int×Int):Int×Int:=if 0<p.1*lv.2 - lv.1*p.2 then (a.1*p.2*lv.2+(p.1*lv.2 - lv.1*p.2)*a.2,a.2*p.2*lv.2) else a
def zx5 (qs:List (Int×Int))(lv:Int×Int):Int×Int:=qs.foldl (zyc lv) (0,1)
structure SS (way c size j:Nat)(lf:Int)(ss:List Int):Prop where
 len:ss.length=size
 nn:∀x∈ss,0≤x
 sum:ss.sum+lf=60
 lf0:0≤lf
 zero:∀i,j≤i->i<size->ss[i]?=some 0
 w1:way=1->lf=if c<j then 0 else 60
 w2:way=2->lf=60 - (j:Int)*(60 / (size:Int))
def zs (T:Nat->Bool)(w:Int)(l:List (Nat×Int)):Int:=(l.map λp=>if T p.1 then w*p.2 else 0).sum
structure Cmp (M:Int)(qs oq:List (Int×Int))(ws:List Int):Prop where
 hM:0<M
 qok:∀p∈qs,FOk p/\p.2∣M
 ook:∀p∈oq,FOk p/\p.2∣M
 len:qs.length=oq.length
 ab:∀T,PM.ab (qs.map (vl M)) T≤PM.ab (oq.map (vl M)) T
 sq:(qs.map λp=>vl M p*vl M p).sum≤(oq.map λp=>vl M p*vl M p).sum
 tot:(zx5 qs (0,1)).1=ws.sum*(zx5 qs (0,1)).2
end My
set_option Elab.async false
set_option linter.all false
set_option maxRecDepth 100000
namespace My
open PySem L2 L2.EX
structure Turned (gs ts:List Int)(aE:List (Nat×Nat))(bg bt:List Nat)(m:Nat)(gs2 ts2:List Int)(turned some':List (Nat×Nat)):Prop where
 hbg:bg.Perm (y0s gs.length)
 hbt:bt.Perm (y0s ts.length)
 lg:gs2.length=gs.length+m
 lt:ts2.length=ts.length+m
 g1:∀e<gs.length,gs2.getD e 0=gs.getD (bg.getD e 0) 0
 g2:∀e,gs.length≤e->gs2.getD e 0=0
 t1:∀e<ts.length,ts2.getD e 0=ts.getD (bt.getD e 0) 0
 t2:∀e,0≤ts2.getD e 0
 hA:∀p'∈turned,∃p∈aE,bg[p'.1]?=some p.1/\bt[p'.2]?=some p.2
 hB:∀p∈aE,∃p'∈turned,bg[p'.1]?=some p.1/\bt[p'.2]?=some p.2
 hs:∀p∈some',gs.length≤p.1/\p.1<gs.length+m/\p.2<ts.length
section
variable {gs ts gs2 ts2 am aj ae sent' aY steps':List Int}{aE turned some':List (Nat×Nat)}{bg bt:List Nat}{m:Nat}
end
structure TurnP (aE:List (Nat×Nat))(bg bt bi:List Nat)(tn:List (Nat×Nat)):Prop where
 at_:∀(k:Nat) p',tn[k]?=some p'->∃(a:Nat) (p:Nat×Nat),bi[k]?=some a/\aE[a]?=some p/\bg[p'.1]?=some p.1/\bt[p'.2]?=some p.2
end My
set_option linter.all false
namespace PM
structure Ev (own:(Nat->Bool)->Int)(aq:Nat)(x:Nat->Int):Prop where
 borne:∀T,own T≤SH aq T x
 tight:∀v:Int,SH aq (λh=>decide (v≤x h)) x≤own λh=>decide (v≤x h)
section
variable {wk:Nat->Int}{dr:Nat->List Nat}{ao:Nat}
end
end PM
set_option Elab.async false
set_option linter.all false
set_option maxRecDepth 100000
namespace L2.EX
section
variable {X:Cx}
open PySem
def zuf (x y:V)(H:Hp)(Q:VK):Prop:=match y with
 | .non=>Q (.bl (!decide (x = .non))) H
 | _=>False
theorem zf8:OpR X (compareOp .IsNot) zuf:=by
 intro aa s σ H x y v u Q I rx ry h;unfold zuf at h
 split at h
 ·exact ziw aa s σ H _ _ v u Q I rx ry ⟨rfl,h⟩
 ·exact h.elim
end
end L2.EX
namespace My
open PySem L2 L2.EX
def zy9 (ws:List Int)(drs:List (List Nat))(M:Int)(T:Nat->Bool):Int:=PM.IW (zo4 ws) (zoh drs) ws.length T*M
def zyj (p:Int×Int):Prop:=Low p/\0≤p.1/\p.2≤20/\Bd 400 p.1
structure Borns (ws:List Int)(drs:List (List Nat))(aq:Nat)(qs:List (Int×Int)):Prop where
 len:qs.length=aq
 ok:∀q∈qs,zyj q
 ev:∃D:Int,0<D/\(∀q∈qs,q.2∣D)/\∀M:Int,0<M->D∣M->PM.Ev (zy9 ws drs M) aq (xOf qs M)
section
variable {ws ws':List Int}{drs drs':List (List Nat)}{aq:Nat}{qs qs':List (Int×Int)}
end
structure TArgs (K:y00)(H:Hp)(a aw ad al:Addr)(ns ws:List Int)(drs:List (List Nat))(aq:Nat)(qs:List (Int×Int)):Prop where
 s:SqL K H a (ns.map V.int)
 ask:AsksC K H aw ad ws drs
 rows:zrg ws.length aq drs
 works:∀x∈ws,x≤10^60+1000
 h0:0<aq
 h5:aq≤5
 few:ws.length≤6
 isf:Is K H (.ref al) (zuw qs)
 b:Borns ws drs aq qs
end My
set_option Elab.async false
set_option linter.all false
set_option maxRecDepth 100000
namespace L2.RX
open PySem PySem.Spec PyProof.Rows L2.EX
noncomputable def eL (h:TH):D->Option (List D)
 | .lst ds=>some ds
 | .at i=>match eg h i with
  | some (.ml ds)=>some ds
  | _=>none
 | _=>none
noncomputable def eS (h:TH):D->Option (List D)
 | .tup ds=>some ds
 | .lst ds=>some ds
 | .at i=>match eg h i with
  | some (.ml ds)=>some ds
  | some (.mr ns)=>some (ns.map .int)
  | _=>none
 | _=>none
noncomputable def hn (h:TH):Nat:=eln h
noncomputable def hp (h:TH) (o:TM):TH:=eap h [o]
noncomputable def hs (h:TH) (i:Nat) (o:TM):TH:=est h i o
noncomputable def mk (m:Bool) (ds:List D) (h:TH):R D:=bif m then .ok (.at (hn h)) (hp h (.ml ds)) else .ok (.lst ds) h
section
variable {C:CT}{Z:Ct}{s:Sx}{d x y:D}{v:V}{ds:List D}{xs:List V}{p a:Addr}{Q:VK}{E:Nat->TH->Prop}
theorem z3e (R:Rl C s)(q:Is C s d v)(e:eL s.h d=some ds):∃a xs,v = .ref a/\s.H a=some (.lst xs)/\All C s ds xs:=by
 unfold eL at e
 split at e
 ·cases e;obtain⟨a,xs,e1,e2,e3⟩:=q;exact⟨a,xs,e1,z0x _ _ e2,e3⟩
 ·split at e
  ·rename_i e1;cases e;obtain⟨a,e2,rfl⟩:=q;rw[z0r] at e1;obtain⟨xs,e3,e4⟩:=R.at_ _ _ a e1 e2;exact⟨a,xs,rfl,e3,e4⟩
  ·cases e
 ·cases e
def z11:D->Bool
 | .tup _=>true
 | _=>false
theorem z8q {C:CT}{ι:List Addr}{M:Hp}:∀ns:List Int,DAll C ι M (ns.map .int) (ns.map .int)
 | []=>rfl
 | n::ns=>⟨_,_,rfl,rfl,z8q ns⟩
theorem z20 (R:Rl C s)(q:Is C s d v)(e:eS s.h d=some ds):∃a xs,v = .ref a/\(bif z11 d then SqT C.K s.H a xs else SqL C.K s.H a xs)/\All C s ds xs:=by
 unfold eS at e
 split at e
 ·cases e;obtain⟨a,xs,e1,e2,e3⟩:=q;exact⟨a,xs,e1,Same.tup z0x e2,e3⟩
 ·cases e;obtain⟨a,xs,e1,e2,e3⟩:=q;exact⟨a,xs,e1,SqL.of (z0x _ _ e2),e3⟩
 ·obtain⟨a,e2,rfl⟩:=q
  split at e
  ·rename_i e1;cases e;rw[z0r] at e1;obtain⟨xs,e3,e4⟩:=R.at_ _ _ a e1 e2;exact⟨a,xs,rfl,SqL.of e3,e4⟩
  ·rename_i e1;cases e;rw[z0r] at e1;obtain⟨o,e3⟩:=R.at_ _ _ a e1 e2;exact⟨a,_,rfl,.inl (.inr ⟨o,e3⟩),z8q _⟩
  ·cases e
 ·cases e
theorem zgn (R:Rl C s)(q:Is C s d v)(e:eS s.h d=some ds):∃a xs,v = .ref a/\(SqL C.K s.H a xs∨SqT C.K s.H a xs)/\All C s ds xs:=by
 obtain⟨a,xs,h1,h2,h3⟩:=z20 R q e;refine⟨a,xs,h1,?_,h3⟩;cases e:z11 d with
 | true=>rw[e] at h2;exact .inr h2
 | false=>rw[e] at h2;exact .inl h2
theorem ztj (R:Rl C s)(A:All C s ds xs)(hp:s.H p=none):Go C s ⟨s.ι,s.h,upd s.H p (.lst xs)⟩/\Is C ⟨s.ι,s.h,upd s.H p (.lst xs)⟩ (.lst ds) (.ref p):=by
 obtain⟨g,e1⟩:=R.imm hp (.lst xs);exact⟨g,p,xs,rfl,e1,g.all A⟩
theorem zet (R:Rl C s)(A:All C s ds xs)(hp:s.H p=none):Go C s ⟨s.ι,s.h,upd s.H p (.tup xs)⟩/\Is C ⟨s.ι,s.h,upd s.H p (.tup xs)⟩ (.tup ds) (.ref p):=by
 obtain⟨g,e1⟩:=R.imm hp (.tup xs);exact⟨g,p,xs,rfl,SqT.of e1,g.all A⟩
theorem z74 (R:Rl C s):(s.ι ++ [p])[hn s.h]?=some p:=by unfold hn;rw[z06,←R.len];simp
theorem zda {h:TH}{t:TM}:hp h t=h ++ [t]:=z1s _ _
theorem z3r {h:TH}{i:Nat}{t:TM}:hs h i t=h.set i t:=z14 _ _ _
theorem zvi (R:Rl C s)(A:All C s ds xs)(hq:s.H p=none):Go C s ⟨s.ι ++ [p],hp s.h (.ml ds),upd s.H p (.lst xs)⟩/\Is C ⟨s.ι ++ [p],hp s.h (.ml ds),upd s.H p (.lst xs)⟩ (.at (hn s.h)) (.ref p):=by
 rw[zda];exact⟨R.mut hq (t:=.ml ds) (u:=.lst xs) (by intro z;cases z) ⟨xs,z08,A⟩,p,z74 R,rfl⟩
theorem z4z {m:Bool}(R:Rl Z.c s)(A:All Z.c s ds xs)(q:(mk m ds s.h).sat (CK Z s Q) E)(hp:s.H p=none):Q (.ref p) (upd s.H p (.lst xs)):=by
 cases m with
 | true=>obtain⟨g,i⟩:=zvi R A hp;exact q g i
 | false=>obtain⟨g,i⟩:=ztj R A hp;exact q g i
noncomputable def big {α:Type} (l:List α):Bool:=y1m (eln l) 16777216
theorem zd5 {α:Type}{l:List α}(e:big l=true):l.length≤sizeLine:=by
 unfold big at e;rw[z06] at e;exact y1i.mp e
noncomputable def rTup (f:RA):RE:=fun ρ h=>(f ρ h).bnd λxs h=>z18 (big xs) (.ok (.tup xs) h)
noncomputable def rLst (m:Bool) (f:RA):RE:=fun ρ h=>(f ρ h).bnd λxs h=>z18 (big xs) (mk m xs h)
theorem zll {t:TA}{f:RA}(k:SmA Z t f):Sm Z (zvz t) (rTup f):=λA q=>k A <| q.go λx h1 q _ _ _ g1 i1=>by
 obtain⟨eb,q⟩:=q.i;refine⟨by rw[←i1.len];exact zd5 eb,λp hp=>?_⟩
 obtain⟨g2,i2⟩:=zet g1.rl i1 hp;exact q (g1.trans g2) i2
theorem znh {t:TA}{f:RA}{m:Bool}(k:SmA Z t f):Sm Z (zwb t) (rLst m f):=λA q=>k A <| q.go λx h1 q ι H _ g1 i1=>by
 obtain⟨eb,q⟩:=q.i;exact⟨by rw[←i1.len];exact zd5 eb,λp hp=>z4z (s:=⟨ι,h1,H⟩) g1.rl i1 (q.mono λ_ _ q=>q.go g1) hp⟩
def gI (p:Int->Int->Bool)(g:Int->Int->D)(x y:D)(h:TH):R D:=match x,y with
 | .int i,.int j=>z18 (p i j) (.ok (g i j) h)
 | _,_=>.no
theorem z4g {r:R2}{p:Int->Int->Bool}{g:Int->Int->D}{G:Int->Int->V}(hg:∀i j s,Is Z.c s (g i j) (G i j))(hr:∀i j H (Q:VK),p i j=true->Q (G i j) H->r (.int i) (.int j) H Q):Sm2 Z r (gI p g):=λg i1 i2 q=>by
 unfold gI at q
 split at q
 ·obtain⟨hp,q⟩:=q.i;rw[show _=V.int _ from i1,show _=V.int _ from i2]
  exact hr _ _ _ _ hp (CK.now q g.rl (hg _ _ _))
 ·exact q.elim
def pT (_ _:Int):Bool:=true
def zea (i j:Int):Bool:=y16 i.natAbs (2^4096)&&y16 j.natAbs (2^4096)
def zrx (_ j:Int):Bool:=!iEq j 0&&y16 j.natAbs.log2 9000
def zrt (_ j:Int):Bool:=iLt 0 j
def zsz (i j:Int):Bool:=!iLt j 0&&y1m (i.natAbs.log2*j.natAbs+j.natAbs) 100000
abbrev z9r:=gI pT λi j=>.int (i - j)
abbrev z19:=gI zrx λi j=>.int (i.fdiv j)
abbrev z1c:=gI zrt λi j=>.int (i % j)
theorem zs7:Sm2 Z zv3 z9r:=z4g (G:=λi j=>.int (i - j)) (by intros;rfl) λ_ _ _ _ _ q=>q
theorem zs9:Sm2 Z zuc z19:=z4g (G:=λi j=>.int (i.fdiv j)) (by intros;rfl) λi j _ _ hp q=>by
 unfold zrx at hp;rw[y09,y0y,z3a] at hp;exact⟨by simpa using hp.1,hp.2,q⟩
theorem zuy:Sm2 Z zsc z1c:=z4g (G:=λi j=>.int (i % j)) (by intros;rfl) λi j _ _ hp q=>by
 unfold zrt at hp;rw[z1e] at hp;exact⟨by simpa using hp,q⟩
noncomputable def gAdd (m:Bool) (x y:D) (h:TH):R D:=match x,y with
 | .int i,.int j=>.ok (.int (i+j)) h
 | .str i,.str j=>z18 (y1m (eln i.cps.toList+eln j.cps.toList) 16777216) (.ok (.str ⟨⟨eap i.cps.toList j.cps.toList⟩⟩) h)
 | x,y=>ofO (eL h x) λa=>ofO (eL h y) λb=>z18 (y1m (eln a+eln b) 16777216) (mk m (eap a b) h)
theorem zkm (i j:Str):(⟨⟨eap i.cps.toList j.cps.toList⟩⟩:Str)=i++j:=by
 rw[z1s];show _=(⟨i.cps++j.cps⟩:Str);congr 1;exact y5n.mp (by simp)
theorem zue {m:Bool}:Sm2 Z zs0 (gAdd m):=λ{s x y a b Q} g i1 i2 q=>by
 unfold gAdd at q
 split at q
 ·rw[show _=V.int _ from i1,show _=V.int _ from i2];exact CK.now q g.rl rfl
 ·rename_i i j;obtain⟨eb,q⟩:=q.i;rw[show _=V.str _ from i1,show _=V.str _ from i2]
  rw[zkm] at q;rw[z06,z06] at eb;exact⟨y1i.mp eb,CK.now q g.rl rfl⟩
 ·obtain⟨ds,e1,q⟩:=q.o;obtain⟨es,e2,q⟩:=q.o;obtain⟨eb,q⟩:=q.i;obtain⟨c,xs,rfl,s1,A1⟩:=z3e g.rl i1 e1;obtain⟨c',ys,rfl,s2,A2⟩:=z3e g.rl i2 e2;rw[z06,z06,A1.len,A2.len] at eb;rw[z1s] at q;exact⟨xs,ys,s1,s2,y1i.mp eb,λp hp=>z4z g.rl (A2.app A1) q hp⟩
noncomputable def eRep (n:Nat) (d:D):List D:=y36 (motive:=λ_=>List D) [] (λ_ ih=>d::ih) n
theorem zdn (d:D):∀n,eRep n d=y0b n d
 | 0=>rfl
 | n+1=>by rw[y1d,←zdn d n];rfl
theorem zbm {α:Type}(x:α):∀n:Nat,(y0b n [x]).flatten=y0b n x
 | 0=>rfl
 | n+1=>by rw[y1d,y1d,y2i,zbm x n];rfl
noncomputable def gMul (m:Bool) (x y:D) (h:TH):R D:=match x,y with
 | .int i,.int j=>z18 (zea i j) (.ok (.int (i*j)) h)
 | x,.int (.ofNat n)=>ofO (eL h x) λl=>match l with
  | [d]=>z18 (y1m n 16777216) (mk m (eRep n d) h)
  | _=>.no
 | _,_=>.no
theorem zur {m:Bool}:Sm2 Z ztr (gMul m):=λ{s x y a b Q} g i1 i2 q=>by
 unfold gMul at q
 split at q
 ·obtain⟨hp,q⟩:=q.i;rw[show _=V.int _ from i1,show _=V.int _ from i2]
  unfold zea at hp;rw[y09,y0y,y0y] at hp;exact⟨zth hp.1 hp.2 (by decide),CK.now q g.rl rfl⟩
 ·rename_i n _;obtain⟨l,e1,q⟩:=q.o
  split at q
  ·obtain⟨eb,q⟩:=q.i;have eb:=y1i.mp eb;rw[show b=V.int n from i2]
   obtain⟨c,xs,rfl,s1,A1⟩:=z3e g.rl i1 e1;obtain⟨w,rfl,iw⟩:=A1.single;rw[zdn] at q;refine⟨[w],s1,by omega,by omega,by simp;exact eb,λp hp=>?_⟩
   rw[show(n:Int).toNat=n from rfl,zbm]
   exact z4z g.rl (DAll.rep iw n) q hp
  ·exact q.elim
 ·exact q.elim
theorem zf0 {i j:Int}(h:zsz i j=true):0≤j/\(Builtin.Int.intBits i:Int)*j≤2^27:=by
 unfold zsz at h;rw[y09,z1e,y3v,decide_eq_false_iff_not] at h;have h2:=y1i.mp h.2;have h0:0≤j:=by omega
 refine⟨h0,?_⟩;have hb:Builtin.Int.intBits i≤i.natAbs.log2+1:=intBits_le_iff.mpr (show i.natAbs<_ from Nat.lt_log2_self)
 have:Builtin.Int.intBits i*j.natAbs≤100000:=y0j (Nat.mul_le_mul_right _ hb) (by rw[Nat.add_mul,Nat.one_mul];exact h2)
 have e:(j.natAbs:Int)=j:=by omega
 have h4:((Builtin.Int.intBits i*j.natAbs:Nat):Int)≤((100000:Nat):Int):=Int.ofNat_le.mpr this;rw[Int.natCast_mul,e] at h4;omega
abbrev zlk:=gI zsz λi j=>.int (i^j.natAbs)
theorem zvh:Sm2 Z zu7 zlk:=z4g (G:=λi j=>.int (i^j.natAbs)) (by intros;rfl) λi j _ _ hp q=>by
 obtain⟨h1,h2⟩:=zf0 hp;exact⟨h1,h2,by rw[show j.toNat=j.natAbs by omega];exact q⟩
def z5a (x:D)(h:TH):R D:=match x with
 | .int i=>.ok (.int (-i)) h
 | _=>.no
theorem zsj:Sm1 Z zs5 z5a:=λg i1 q=>by
 unfold z5a at q
 split at q
 ·rw[show _=V.int _ from i1];exact CK.now q g.rl rfl
 ·exact q.elim
noncomputable def nLt (x y:List Nat):Bool:=y0l (motive:=λ_=>List Nat->Bool) (λl=>match l with
 | []=>false
 | _=>true) (λa _ ih l=>match l with
 | []=>false
 | b::l=>y16 a b||(y17 a b&&ih l)) x y
theorem zh9:∀x y:List Nat,nLt x y=decide (x<y)
 | [],[]=>by simp[nLt]
 | [],b::y=>by simp[nLt]
 | a::x,[]=>by simp[nLt]
 | a::x,b::y=>by
  show(y16 a b||(y17 a b&&nLt x y))=_
  rw[zh9 x y,y0d,y3c,y09,y0y,Nat.beq_eq,decide_eq_true_iff,decide_eq_true_iff,List.cons_lt_cons_iff]
def zw3 (x y:V)(H:Hp)(Q:VK):Prop:=∃i j,x = .str i/\y = .str j/\Q (.bl (!decide (j.cps.toList<i.cps.toList))) H
theorem zn8 {X:Cx}:OpR X (compareOp .LtE) zw3:=by
 intro aa s σ H x y v u Q I rx ry h;obtain⟨i,j,rfl,rfl,q⟩:=h;obtain⟨t,rfl⟩:=rx;obtain⟨t',rfl⟩:=ry;exact PySem.P.le_str (zbh I q rfl)
def rLe (x y:V)(H:Hp)(Q:VK):Prop:=uLe x y H Q∨zw3 x y H Q
theorem zou {X:Cx}:OpR X (compareOp .LtE) rLe:=uo_le.or zn8
noncomputable def gLt:D->D->TH->R D:=gI pT λi j=>.bl (iLt i j)
noncomputable def gGt:D->D->TH->R D:=gI pT λi j=>.bl (iLt j i)
noncomputable def gGe:D->D->TH->R D:=gI pT λi j=>.bl (!iLt i j)
noncomputable def gLe (x y:D) (h:TH):R D:=match x,y with
 | .int i,.int j=>.ok (.bl (!iLt j i)) h
 | .str i,.str j=>.ok (.bl (!nLt j.cps.toList i.cps.toList)) h
 | _,_=>.no
theorem zy1:Sm2 Z uLt gLt:=z4g (G:=λi j=>.bl (decide (i<j))) (λi j _=>by rw[←z1e];rfl) λ_ _ _ _ _ q=>q
theorem zxs:Sm2 Z uGt gGt:=z4g (G:=λi j=>.bl (decide (j<i))) (λi j _=>by rw[←z1e];rfl) λ_ _ _ _ _ q=>q
theorem zxf:Sm2 Z uGe gGe:=z4g (G:=λi j=>.bl (decide (j≤i))) (λi j _=>by
 show V.bl _=V.bl _;congr 1;rw[z1e,y0d];simp) λ_ _ _ _ _ q=>q
theorem zyk:Sm2 Z rLe gLe:=λg i1 i2 q=>by
 unfold gLe at q
 split at q
 ·rename_i i j;rw[show _=V.int _ from i1,show _=V.int _ from i2]
  exact .inl (CK.now q g.rl (by show V.bl _=V.bl _;congr 1;rw[z1e,y0d];simp))
 ·exact .inr ⟨_,_,i1,i2,CK.now q g.rl (by show V.bl _=V.bl _;rw[zh9])⟩
 ·exact q.elim
def isN:D->Bool
 | .non=>true
 | _=>false
theorem zhw {ι:List Addr}{M:Hp}:∀{d:D} {v:V},DIs C ι M d v->decide (v = .non)=isN d
 | .non,_,h=>by cases (show _=_ from h);rfl
 | .bl _,_,h=>by cases (show _=_ from h);rfl
 | .int _,_,h=>by cases (show _=_ from h);rfl
 | .str _,_,h=>by cases (show _=_ from h);rfl
 | .fn _,_,h=>by cases (show _=_ from h);rfl
 | .at _,_,⟨_,_,h⟩=>by cases h;rfl
 | .lst _,_,⟨_,_,h,_⟩=>by cases h;rfl
 | .tup _,_,⟨_,_,h,_⟩=>by cases h;rfl
 | .dic _ _,_,⟨_,_,_,h,_⟩=>by cases h;rfl
def gIs (n:Bool)(x y:D)(h:TH):R D:=match y with
 | .non=>.ok (.bl (n ^^ isN x)) h
 | _=>.no
theorem zy4:Sm2 Z uIs (gIs false):=λg i1 i2 q=>by
 unfold gIs at q
 split at q
 ·cases (show _=V.non from i2)
  exact CK.now q g.rl (by show V.bl _=V.bl _;rw[zhw i1,y5t])
 ·exact q.elim
theorem zut:Sm2 Z zuf (gIs true):=λg i1 i2 q=>by
 unfold gIs at q
 split at q
 ·cases (show _=V.non from i2)
  exact CK.now q g.rl (by show V.bl _=V.bl _;rw[zhw i1,y5w])
 ·exact q.elim
end
end L2.RX
set_option Elab.async false
set_option linter.all false
set_option maxRecDepth 100000
namespace L2.RX
open PySem PySem.Spec PyProof.Rows L2.EX
theorem z1k {α β:Type}{f:α->Option β}:∀{l:List α} {m:List β},emap f l=some m->m.length=l.length/\∀(i:Nat) x,l[i]?=some x->∃y,m[i]?=some y/\f x=some y
 | [],m,e=>by cases e;exact⟨rfl,λi x h=>by simp at h⟩
 | a::l,m,e=>by
  obtain⟨x,xs,h1,h2,rfl⟩:=emap_cons.mp e;obtain⟨h3,h4⟩:=z1k h2;refine⟨by simp[h3],λi y h=>?_⟩
  cases i with
  | zero=>cases h;exact⟨x,rfl,h1⟩
  | succ i=>obtain⟨z,g1,g2⟩:=h4 i y (by simpa using h);exact⟨z,by simpa using g1,g2⟩
def onO {α β:Type}(o:Option α)(k:α->β):Option β:=match o with
 | some a=>some (k a)
 | none=>none
theorem z0t {o:Option α}{k:α->β}{y:β}(e:onO o k=some y):∃a,o=some a/\y=k a:=by
 cases o with
 | none=>cases e
 | some a=>cases e;exact⟨a,rfl,rfl⟩
noncomputable def fz (h:TH) (n:Nat) (m:Nat):D->Option D:=y36 (motive:=λ_=>D->Option D) (λ_=>none) (λ_ ih d=>match d with
 | .lst ds=>onO (emap ih ds) .lst
 | .tup ds=>onO (emap ih ds) .tup
 | .dic ks ds=>onO (emap ih ds) (.dic ks)
 | .at i=>bif y16 i n then some (.at i) else match eg h i with
  | some (.ml ds)=>onO (emap ih ds) .lst
  | _=>none
 | d=>some d) m
noncomputable def fzo (h:TH) (n:Nat):TM->Option TM
 | .ml ds=>onO (emap (fz h n 9) ds) .ml
 | .md ks ds=>onO (emap (fz h n 9) ds) (.md ks)
 | .mi c ds=>onO (emap (fz h n 9) ds) (.mi c)
 | t=>some t
noncomputable def etk {α:Type} (n:Nat) (l:List α):List α:=y36 (motive:=λ_=>List α->List α) (λ_=>[]) (λ_ ih l=>match l with
 | []=>[]
 | a::l=>a::ih l) n l
theorem zgx {α:Type}:∀(n:Nat) (l:List α),etk n l=l.take n
 | 0,l=>by rw[List.take_zero];rfl
 | n+1,[]=>rfl
 | n+1,a::l=>by rw[List.take_succ_cons,←zgx n l];rfl
noncomputable def trunc (n:Nat) (v:D) (h:TH):R D:=bif y17 (eln h) n then .ok v h else ofO (emap (fzo h n) (etk n h)) λh0=>ofO (fz h n 9 v) λv=>.ok v h0
noncomputable def truncX (n c:Nat) (h:TH):R D:=bif y17 (eln h) n then .ex c h else ofO (emap (fzo h n) (etk n h)) λh0=>.ex c h0
section
variable {C:CT}{Z:Ct}{s s0:Sx}{d e:D}{v:V}{ds:List D}{xs:List V}{p a:Addr}{Q:VK}{h0:TH}{ι0:List Addr}{n:Nat}
theorem z8u (p:Pre s0.ι s.ι)(eH:s0.H=s.H)(lv:∀i,i<s0.ι.length->z3d s0.h i->z3d s.h i):Same (cut C s) (cut C s0):=λb o z=>by
 have nb:=z2l z;rw[z0p nb] at z;rw[z0p,eH];exact z;rintro(⟨i,e,l⟩ | y)
 ·exact nb (.inl ⟨i,p.get e,lv i (y01.mp e).1 l⟩)
 ·exact nb (.inr y)
theorem zox (R:Rl C s)(pr:Pre s0.ι s.ι)(eH:s0.H=s.H)(lv:∀i,i<s0.ι.length->z3d s0.h i->z3d s.h i)(hl:s0.ι.length=n):∀(m:Nat) {d e:D} {v:V},Is C s d v->fz s.h n m d=some e->Is C s0 e v:=by
 have sm:Same (cut C s) (cut C s0):=z8u pr eH lv;intro m
 induction m with
 | zero=>intro d e v q z;cases z
 | succ m ih =>
  intro d e v q z;have all:∀{ds es xs},All C s ds xs->emap (fz s.h n m) ds=some es->All C s0 es xs:=λ{ds es xs} A z=>by
   obtain⟨l,k⟩:=z1k z;refine DAll.of_get (by rw[l,A.len]) λi e he=>?_
   have li:i<ds.length:=by rw[←l];exact(y01.mp he).1
   obtain⟨e',h1,h2⟩:=k i ds[i] (y02 li);rw[he] at h1;cases h1;obtain⟨x,h3,h4⟩:=A.get (y02 li);exact⟨x,h3,ih h4 h2⟩
  cases d with
  | non=>cases z;exact q
  | bl b=>cases z;exact q
  | int i=>cases z;exact q
  | str i=>cases z;exact q
  | fn i=>cases z;exact q
  | lst ds =>
   obtain⟨xs,e1,rfl⟩:=z0t z;obtain⟨a,ys,rfl,e2,A⟩:=q;exact⟨a,ys,rfl,sm _ _ e2,all A e1⟩
  | tup ds =>
   obtain⟨xs,e1,rfl⟩:=z0t z;obtain⟨a,ys,rfl,e2,A⟩:=q;exact⟨a,ys,rfl,Same.tup sm e2,all A e1⟩
  | dic ks ds =>
   obtain⟨xs,e1,rfl⟩:=z0t z;obtain⟨a,o,ys,rfl,e2,l,A⟩:=q;exact⟨a,o,ys,rfl,sm _ _ e2,by rw[l,(z1k e1).1],all A e1⟩
  | «at» i =>
   replace z:(bif y16 i n then some (D.at i) else match eg s.h i with
    | some (.ml ds)=>onO (emap (fz s.h n m) ds) D.lst
    | _=>none)=some e:=z
   obtain⟨a,e2,rfl⟩:=q;cases hb:y16 i n with
   | true =>
    rw[hb] at z;cases z;have lt:=y0y.mp hb;obtain⟨l,el⟩:=pr;rw[el,y0x (by omega)] at e2
    exact⟨a,e2,rfl⟩
   | false =>
    rw[hb] at z;simp only[cond_false] at z;have ge:¬i<n:=λy=>by rw[y0y.mpr y] at hb;cases hb
    split at z
    ·rename_i ds e0;obtain⟨xs,e1,rfl⟩:=z0t z;rw[z0r] at e0;obtain⟨ys,e3,A⟩:=R.at_ _ _ a e0 e2;have li:z3d s.h i:=⟨_,e0,by intro z;cases z⟩
     refine⟨a,ys,rfl,?_,all A e1⟩;rw[z0p,eH]
     ·exact e3
     ·rintro(⟨j,ej,l⟩ | ⟨k,hk,y⟩)
      ·have lt:=(y01.mp ej).1;have:=R.nd i j a li (lv j lt l) e2 (pr.get ej)
       omega
      ·exact R.ntb i a k li e2 hk y
    ·cases z
theorem zo1 {h:TH}{t t':TM}(e:fzo h n t=some t')(hn:t' ≠ .no):t ≠ .no:=by
 rintro rfl;cases e;exact hn rfl
theorem z93 (g:Go C s0 s)(e:emap (fzo s.h n) (etk n s.h)=some h0)(hn:n=s0.h.length)(R0:Rl C s0):Go C s0 ⟨s0.ι,h0,s.H⟩/\∀{d e w},Is C s d w->fz s.h n 9 d=some e->Is C ⟨s0.ι,h0,s.H⟩ e w:=by
 obtain⟨l,k⟩:=z1k e;rw[zgx] at l k;have R:=g.rl;have hnι:s0.ι.length=n:=by rw[hn,R0.len]
 have hle:n≤s.h.length:=by
  obtain⟨m,hm⟩:=g.pre;rw[←R.len,hm,y0k,hnι];omega
 have l0:h0.length=n:=by rw[l,y2b];omega
 have back:∀(i:Nat) t',h0[i]?=some t'->∃t,s.h[i]?=some t/\fzo s.h n t=some t':=λi t' h=>by
  have lt:i<n:=by rw[←l0];exact(y01.mp h).1
  have e1:s.h[i]?=some (s.h[i]'(by omega)):=y02 _
  obtain⟨y,h1,h2⟩:=k i _ (by rw[y3u lt];exact e1)
  rw[h] at h1;cases h1;exact⟨_,e1,h2⟩
 have lv:∀i,i<s0.ι.length->z3d h0 i->z3d s.h i:=λi _ ⟨t',h1,h2⟩=>let ⟨t,h3,h4⟩:=back i t' h1;⟨t,h3,zo1 h4 h2⟩
 have sm:Same (cut C s) (cut C ⟨s0.ι,h0,s.H⟩):=z8u (s0:=⟨s0.ι,h0,s.H⟩) g.pre rfl lv;have fi:∀{d e w},Is C s d w->fz s.h n 9 d=some e->Is C ⟨s0.ι,h0,s.H⟩ e w:=λ{d e w}=>zox (s0:=⟨s0.ι,h0,s.H⟩) R g.pre rfl lv hnι 9
 have lt0:∀{i:Nat},z3d h0 i->i<s0.ι.length:=λ{i} ⟨t,h,_⟩=>by rw[hnι,←l0];exact(y01.mp h).1
 refine⟨⟨⟨[],by simp⟩,g.same.trans sm,by simp[hnι,l0],λi j a li lj ei ej=>R.nd i j a (lv i (lt0 li) li) (lv j (lt0 lj) lj) (g.pre.get ei) (g.pre.get ej),?_,λk hk=>?_,λi a k li ei hk=>R.ntb i a k (lv i (lt0 li) li) (g.pre.get ei) hk⟩,fi⟩
 ·intro i t' a ht ha;obtain⟨t,h1,h2⟩:=back i t' ht;have m:=R.at_ i t a h1 (g.pre.get ha);have all:∀{ds es xs},All C s ds xs->emap (fz s.h n 9) ds=some es->All C ⟨s0.ι,h0,s.H⟩ es xs:=λ{ds es xs} A z=>by
   obtain⟨l,k⟩:=z1k z;refine DAll.of_get (by rw[l,A.len]) λi e he=>?_
   have li:i<ds.length:=by rw[←l];exact(y01.mp he).1
   obtain⟨e',h1,h2⟩:=k i ds[i] (y02 li);rw[he] at h1;cases h1;obtain⟨x,h3,h4⟩:=A.get (y02 li);exact⟨x,h3,fi h4 h2⟩
  cases t with
  | ml ds=>obtain⟨es,e1,rfl⟩:=z0t h2;obtain⟨xs,q,A⟩:=m;exact⟨xs,q,all A e1⟩
  | mr ns=>cases h2;exact m
  | md ks ds=>obtain⟨es,e1,rfl⟩:=z0t h2;obtain⟨xs,q,l,A⟩:=m;exact⟨xs,q,by rw[l,(z1k e1).1],all A e1⟩
  | mi c ds=>obtain⟨es,e1,rfl⟩:=z0t h2;obtain⟨dx,xs,q,A⟩:=m;exact⟨dx,xs,q,all A e1⟩
  | mx c=>cases h2;exact m
  | mf k=>cases h2;obtain⟨pm,c,ctv,q,r⟩:=m;exact⟨pm,c,ctv,q,sm _ _ r⟩
  | no=>cases h2;trivial
 ·obtain⟨ps,q,t,r⟩:=R.tab k hk;exact⟨ps,q,t,λpos c hc=>let ⟨c',e',q'⟩:=r pos c hc;⟨c',e',sm _ _ q'⟩⟩
end
mutual
def py:D->PyData
 | .non=>.none
 | .bl b=>.bool b
 | .int i=>.int i
 | .str x=>.str x
 | .lst ds=>.list (pys ds)
 | .tup ds=>.tuple (pys ds)
 | .dic _ _=>.none
 | .at _=>.none
 | .fn _=>.none
def pys:List D->List PyData
 | []=>[]
 | d::ds=>py d::pys ds
end
noncomputable def flat (n:Nat):D->Bool:=y36 (motive:=λ_=>D->Bool) (λ_=>false) (λ_ ih d=>match d with
 | .lst ds=>y0l (motive:=λ_=>Bool) true (λd _ r=>ih d&&r) ds
 | .tup ds=>y0l (motive:=λ_=>Bool) true (λd _ r=>ih d&&r) ds
 | .dic _ _=>false
 | .at _=>false
 | .fn _=>false
 | .str x=>y0l (motive:=λ_=>Bool) true (λc _ r=>y16 c 1114112&&r) x.cps.toList
 | _=>true) n
noncomputable def flats (n:Nat) (ds:List D):Bool:=y0l (motive:=λ_=>Bool) true (λd _ r=>flat n d&&r) ds
theorem z21 {n:Nat}{d:D}{ds:List D}:flats n (d::ds)=(flat n d&&flats n ds):=rfl
theorem z8n:∀l:List Nat,(y0l (motive:=λ_=>Bool) true (λc _ r=>y16 c 1114112&&r) l:Bool)=l.all (·<0x110000)
 | []=>rfl
 | c::l=>by
  rw[y3z,←z8n l];show(y16 c 1114112&&_)=_;congr 1;rw[y0d,y0y,decide_eq_true_iff]
mutual
theorem z4h:∀(n:Nat) (d:D),flat n d=true->Sh n (py d)
 | 0,d,h=>by cases h
 | n+1,.non,h=>⟨by simp only[py,PyData.canLay0],by simp only[py,PyData.depth];omega⟩
 | n+1,.bl b,h=>by simp only[py];exact zk6 b
 | n+1,.int i,h=>by simp only[py];exact z9u i
 | n+1,.str x,h=>⟨by
   simp only[py,PyData.canLay0];have z:(y0l (motive:=λ_=>Bool) true (λc _ r=>y16 c 1114112&&r) x.cps.toList:Bool)=true:=h;rw[z8n] at z;unfold PyData.strOk;rw[←Array.all_toList];exact z,by simp only[py,PyData.depth];omega⟩
 | n+1,.lst ds,h=>by simp only[py];exact zjz (z5x n ds h)
 | n+1,.tup ds,h=>by simp only[py];exact zed (z5x n ds h)
 | n+1,.dic _ _,h=>by cases h
 | n+1,.at _,h=>by cases h
 | n+1,.fn _,h=>by cases h
theorem z5x:∀(n:Nat) (ds:List D),flats n ds=true->∀d∈pys ds,Sh n d
 | n,[],_,d,hd=>by simp[pys] at hd
 | n,e::ds,h,d,hd=>by
  rw[z21,y09] at h;simp only[pys,y0a] at hd;rcases hd with rfl | hd
  ·exact z4h n e h.1
  ·exact z5x n ds h.2 d hd
end
section
variable {X:Cx}{aa:List (Addr×Obj)}{σ:St}{H M:Hp}{s:Shared}{C:CT}{ι:List Addr}
mutual
theorem DIs.reads (hK:C.K=X.K)(I:Inv X aa σ H s)(sm:Same M H):∀(n:Nat) (d:D) (v:V) (u:Value),flat n d=true->DIs C ι M d v->RelV v u->∃as,Reads s.heap u (py d) as
 | 0,d,v,u,f,h,r=>by cases f
 | n+1,.non,v,u,f,h,r=>by cases (show v=_ from h);cases r;simp only[py];exact⟨_,.none⟩
 | n+1,.bl b,v,u,f,h,r=>by cases (show v=_ from h);cases r;simp only[py];exact⟨_,.bool b⟩
 | n+1,.int i,v,u,f,h,r=>by cases (show v=_ from h);obtain⟨t,rfl⟩:=r;simp only[py];exact⟨_,.int i t⟩
 | n+1,.str x,v,u,f,h,r=>by cases (show v=_ from h);obtain⟨t,rfl⟩:=r;simp only[py];exact⟨_,.str x t⟩
 | n+1,.lst ds,v,u,f,h,r=>by
  obtain⟨a,xs,rfl,q,al⟩:=h;cases r;obtain⟨its,rv,⟨o,m,e,c,_,hd⟩,_⟩:=I.list (SqL.of (sm _ _ q));obtain⟨as,ra⟩:=DAll.reads hK I sm n ds xs its f al rv;simp only[py];exact⟨_,.list e c hd (by simpa using ra)⟩
 | n+1,.tup ds,v,u,f,h,r=>by
  obtain⟨a,xs,rfl,q,al⟩:=h;cases r;obtain⟨its,rv,⟨o,e,c,m,hd⟩,_⟩:=I.tuple (hK▸Same.tup sm q);obtain⟨as,ra⟩:=DAll.reads hK I sm n ds xs its f al rv;simp only[py];exact⟨_,.tuple e c hd (by simpa using ra)⟩
 | n+1,.dic _ _,v,u,f,h,r=>by cases f
 | n+1,.at _,v,u,f,h,r=>by cases f
 | n+1,.fn _,v,u,f,h,r=>by cases f
theorem DAll.reads (hK:C.K=X.K)(I:Inv X aa σ H s)(sm:Same M H):∀(n:Nat) (ds:List D) (xs:List V) (us:List Value),flats n ds=true->DAll C ι M ds xs->Vals xs us->∃as,ReadsAll s.heap us (pys ds) as
 | n,[],xs,us,f,h,r=>by cases (show xs=_ from h);cases r;simp only[pys];exact⟨_,.nil⟩
 | n,d::ds,xs,us,f,h,r=>by
  obtain⟨v,vs,rfl,q,al⟩:=h;rw[z21,y09] at f;cases r with
  | cons r1 r2 =>
   obtain⟨as,ra⟩:=DIs.reads hK I sm n d v _ f.1 q r1;obtain⟨bs,rb⟩:=DAll.reads hK I sm n ds vs _ f.2 al r2;simp only[pys];exact⟨_,.cons ra rb⟩
end
end
def zvj (neg:Bool)(C:CT)(x y:V)(H:Hp)(Q:VK):Prop:=∃M ι d e,Same M H/\DIs C ι M d x/\DIs C ι M e y/\flat 60 d=true/\flat 60 e=true/\Q (.bl (neg ^^ PyData.eqv (py d) (py e))) H
theorem zrb {X:Cx}{C:CT}(hK:C.K=X.K)(hr:Room k X.A):OpR X (compareOp .Eq) (zvj false C):=by
 intro aa s σ H x y v u Q I rx ry ⟨M,ι,d,e,sm,h1,h2,f1,f2,q⟩;obtain⟨as,ra⟩:=DIs.reads hK I sm 60 d x v f1 h1 rx;obtain⟨bs,rb⟩:=DIs.reads hK I sm 60 e y u f2 h2 ry;exact PySem.SeqAt.compareEq_shaped ra rb (z4h _ _ f1).shaped (z4h _ _ f2).shaped (zry hr) ⟨.bl (PyData.eqv (py d) (py e)),H,I,rfl,by simpa using q⟩
theorem zr5 {X:Cx}{C:CT}(hK:C.K=X.K)(hr:Room k X.A):OpR X (compareOp .NotEq) (zvj true C):=by
 intro aa s σ H x y v u Q I rx ry ⟨M,ι,d,e,sm,h1,h2,f1,f2,q⟩;obtain⟨as,ra⟩:=DIs.reads hK I sm 60 d x v f1 h1 rx;obtain⟨bs,rb⟩:=DIs.reads hK I sm 60 e y u f2 h2 ry;exact PySem.SeqAt.compareNe_shaped ra rb (z4h _ _ f1).shaped (z4h _ _ f2).shaped (zry hr) ⟨.bl (!PyData.eqv (py d) (py e)),H,I,rfl,by simpa using q⟩
noncomputable def dEqs (g:D->D->Option Bool) (ds es:List D):Option Bool:=y0l (motive:=λ_=>List D->Option Bool) (λes=>match es with
 | []=>some true
 | _=>some false) (λd _ ih es=>match es with
 | []=>some false
 | e::r=>match g d e with
  | some true=>ih r
  | some false=>some false
  | none=>none) ds es
def bEq (a b:Bool):Bool:=bif a then b else !b
noncomputable def dEq1 (ih:D->D->Option Bool) (d e:D):Option Bool:=match d,e with
 | .non,.non=>some true
 | .non,.str _=>some false
 | .str _,.non=>some false
 | .non,.tup _=>some false
 | .tup _,.non=>some false
 | .bl a,.bl b=>some (bEq a b)
 | .int i,.int j=>some (iEq i j)
 | .str x,.str y=>some (sEq x y)
 | .lst ds,.lst es=>dEqs ih ds es
 | .tup ds,.tup es=>dEqs ih ds es
 | _,_=>none
noncomputable def dEq (n:Nat):D->D->Option Bool:=y36 (motive:=λ_=>D->D->Option Bool) (λ_ _=>none) (λ_ ih=>dEq1 ih) n
theorem z8b {g:D->D->Option Bool}(hg:∀d e b,g d e=some b->PyData.eqv (py d) (py e)=b):∀{ds es:List D} {b:Bool},dEqs g ds es=some b->PyData.eqvAll (pys ds) (pys es)=b
 | [],[],b,z=>by cases z;rfl
 | [],e::es,b,z=>by cases z;simp[pys,PyData.eqvAll]
 | d::ds,[],b,z=>by cases z;simp[pys,PyData.eqvAll]
 | d::ds,e::es,b,z=>by
  replace z:(match g d e with
   | some true=>dEqs g ds es
   | some false=>some false
   | none=>none)=some b:=z
  simp only[pys,PyData.eqvAll]
  split at z
  ·rename_i e1;rw[hg _ _ _ e1,z8b hg z];rfl
  ·rename_i e1;cases z;rw[hg _ _ _ e1];rfl
  ·cases z
theorem zie:∀(n:Nat) {d e:D} {b:Bool},dEq n d e=some b->PyData.eqv (py d) (py e)=b
 | 0,_,_,_,z=>by cases z
 | n+1,d,e,b,z=>by
  have ih:∀d e b,dEq n d e=some b->PyData.eqv (py d) (py e)=b:=λd e b=>zie n;replace z:dEq1 (dEq n) d e=some b:=z;unfold dEq1 at z
  split at z<;>first | cases z | skip
  all_goals try (simp only[py,PyData.eqv];done)
  all_goals try (simp[py,PyData.eqv];done)
  ·rename_i a c;simp only[py,PyData.eqv];cases a<;>cases c<;>rfl
  ·simp only[py,PyData.eqv,z3a];rw[y0d];simp
  ·simp only[py,PyData.eqv,z40];rw[y0d];simp
  ·simp only[py,PyData.eqv];exact z8b ih z
  ·simp only[py,PyData.eqv];exact z8b ih z
noncomputable def gEq (neg:Bool) (x y:D) (h:TH):R D:=ofO (fz h 0 9 x) λx=>ofO (fz h 0 9 y) λy=>z18 (flat 60 x&&flat 60 y) (ofO (dEq 60 x y) λb=>.ok (.bl (neg ^^ b)) h)
section
variable {Z:Ct}{s:Sx}
theorem zi6 {d e:D}{v:V}{C:CT}(R:Rl C s)(q:Is C s d v)(z:fz s.h 0 9 d=some e):Is C ⟨[],[],s.H⟩ e v :=
 zox (s0:=⟨[],[],s.H⟩) R ⟨s.ι,rfl⟩ rfl (λi h=>absurd h (by simp)) rfl 9 q z
theorem zwj {neg:Bool}:Sm2 Z (zvj neg Z.c) (gEq neg):=λ{s x y a b Q} g i1 i2 q=>by
 obtain⟨x',e1,q⟩:=q.o;obtain⟨y',e2,q⟩:=q.o;obtain⟨eb,q⟩:=q.i;obtain⟨c,e3,q⟩:=q.o;rw[y09] at eb;refine⟨_,_,x',y',z0x (s:=⟨[],[],s.H⟩),zi6 g.rl i1 e1,zi6 g.rl i2 e2,eb.1,eb.2,?_⟩;rw[zie _ e3];exact CK.now q g.rl rfl
noncomputable def zlj:D->Option V
 | .non=>some .non
 | .bl b=>some (.bl b)
 | .int i=>some (.int i)
 | .str x=>some (.str x)
 | _=>none
theorem zdm {C:CT}{ι:List Addr}{M:Hp}{d:D}{v w:V}(q:DIs C ι M d v)(e:zlj d=some w):v=w/\z36 w=true:=by
 cases d<;>first | (cases e;exact⟨q,rfl⟩) | cases e
noncomputable def vEq:V->V->Bool
 | .non,.non=>true
 | .bl a,.bl b=>bEq a b
 | .int i,.int j=>iEq i j
 | .str x,.str y=>sEq x y
 | _,_=>false
noncomputable def vKind:V->Nat
 | .non=>0
 | .bl _=>1
 | .int _=>2
 | .str _=>3
 | _=>4
theorem zmv {x y:V}(h:vKind x=vKind y)(f:z36 x=true):vEq x y=eqV x y:=by
 cases x<;>cases y<;>first | exact Bool.noConfusion f | (exfalso;simp[vKind] at h;done) | skip
 ·rfl
 ·rename_i a b;cases a<;>cases b<;>rfl
 ·simp only[vEq,z3a];unfold eqV;rw[y0d];simp
 ·simp only[vEq,z40];unfold eqV;rw[y0d];simp
noncomputable def vIn (x:V) (ys:List V):Option Bool:=y0l (motive:=λ_=>Option Bool) (some false) (λy _ r=>bif y17 (vKind y) (vKind x) then onO r λr=>vEq y x||r else none) ys
theorem zgv {x:V}:∀{ys:List V} {b:Bool},(∀y∈ys,z36 y=true)->vIn x ys=some b->inV x ys=b
 | [],_,_,e=>by cases e;rfl
 | y::ys,b,f,e=>by
  replace e:(bif y17 (vKind y) (vKind x) then onO (vIn x ys) λr=>vEq y x||r else none)=some b:=e
  cases hb:y17 (vKind y) (vKind x) with
  | false=>rw[hb] at e;cases e
  | true =>
   rw[hb] at e;obtain⟨r,e1,rfl⟩:=z0t e;have:=zgv (λy h=>f y (y0c _ h)) e1;unfold inV at this ⊢
   rw[y1o,this,zmv (y13 hb) (f y y0p)]
noncomputable def gInS (neg:Bool) (x y:D) (h:TH):R D:=ofO (zlj x) λx=>ofO (eS h y) λds=>ofO (emap zlj ds) λvs=>ofO (vIn x vs) λb=>.ok (.bl (neg ^^ b)) h
theorem zup {neg:Bool}:Sm2 Z (rIn Z.c.K neg) (gInS neg):=λ{s x y a b Q} g i1 i2 q=>by
 obtain⟨x',e1,q1⟩:=q.o;obtain⟨ds,e2,q2⟩:=q1.o;obtain⟨vs,e3,q3⟩:=q2.o;obtain⟨c,e4,q4⟩:=q3.o;clear q q1 q2 q3;obtain⟨rfl,fx⟩:=zdm i1 e1;obtain⟨p,xs,rfl,sq,A⟩:=zgn g.rl i2 e2;obtain⟨l,k⟩:=z1k e3;have key:xs=vs/\∀v∈vs,z36 v=true:=by
  have at_:∀(i:Nat) v,vs[i]?=some v->xs[i]?=some v/\z36 v=true:=λi v hv=>by
   have li:i<ds.length:=by rw[←l];exact(y01.mp hv).1
   obtain⟨w,h1,h2⟩:=k i ds[i] (y02 li);rw[hv] at h1;cases h1;obtain⟨z,h3,h4⟩:=A.get (y02 li);obtain⟨rfl,f⟩:=zdm h4 h2;exact⟨h3,f⟩
  refine⟨y5f λi=>?_,λv hv=>?_⟩
  ·cases hv:vs[i]? with
   | some v=>exact(at_ i v hv).1
   | none =>
    rw[y0r] at hv ⊢
    rw[←A.len,←l];exact hv
  ·obtain⟨i,hi⟩:=y1u hv;exact(at_ i v hi).2
 obtain⟨rfl,fl⟩:=key;refine⟨p,xs,rfl,sq,fx,by rw[y1t];exact fl,?_⟩
 rw[zgv fl e4];cases neg with
 | false=>exact CK.now q4 g.rl (by show V.bl _=V.bl _;rw[y5t];rfl)
 | true=>exact CK.now q4 g.rl (by show V.bl _=V.bl _;rw[y5w];rfl)
end
end L2.RX
set_option Elab.async false
set_option linter.all false
set_option maxRecDepth 100000
namespace L2.RX
open PySem PySem.Spec PyProof.Rows L2.EX
noncomputable def kEq:Key->Key->Bool
 | .inl i,.inl j=>iEq i j
 | .inr x,.inr y=>sEq x y
 | _,_=>false
theorem z56:∀k j:Key,kEq k j=decide (k=j)
 | .inl i,.inl j=>by show iEq i j=_;rw[z3a,y0d];simp
 | .inr i,.inr j=>by show sEq i j=_;rw[z40,y0d];simp
 | .inl i,.inr j=>by rw[y0d];simp[kEq]
 | .inr i,.inl j=>by rw[y0d];simp[kEq]
def dk:D->Option Key
 | .int i=>some (.inl i)
 | .str x=>some (.inr x)
 | _=>none
def kd:Key->D
 | .inl i=>.int i
 | .inr x=>.str x
section
variable {C:CT}{Z:Ct}{s s1:Sx}{d x y:D}{v:V}{ds:List D}{ks:List Key}{k:Key}{xs:List V}{p a:Addr}{Q:VK}{E:Nat->TH->Prop}{ι:List Addr}{M:Hp}{X:Cx}
theorem z7y (q:DIs C ι M d v)(e:dk d=some k):v=kV k:=by
 cases d<;>first | (cases e;exact q) | cases e
theorem ziz:∀k:Key,DIs C ι M (kd k) (kV k)
 | .inl _=>rfl
 | .inr _=>rfl
noncomputable def eK (h:TH):D->Option (List Key×List D)
 | .dic ks ds=>some (ks,ds)
 | .at i=>match eg h i with
  | some (.md ks ds)=>some (ks,ds)
  | _=>none
 | _=>none
theorem z7h (R:Rl C s)(q:Is C s d v)(e:eK s.h d=some (ks,ds)):∃a xs,v = .ref a/\Rd s.H a (.dK (ks.zip xs))/\ks.length=ds.length/\All C s ds xs:=by
 unfold eK at e
 split at e
 ·cases e;obtain⟨a,o,xs,rfl,h,l,r⟩:=q;exact⟨a,xs,rfl,.inr ⟨o,z0x _ _ h⟩,l,r⟩
 ·obtain⟨a,e2,rfl⟩:=q
  split at e
  ·rename_i e1;cases e;rw[z0r] at e1;obtain⟨xs,h,l,r⟩:=R.at_ _ _ a e1 e2;exact⟨a,xs,rfl,.inl h,l,r⟩
  ·cases e
 ·cases e
noncomputable def eMd (h:TH):D->Option (Nat×List Key×List D)
 | .at i=>match eg h i with
  | some (.md ks ds)=>some (i,ks,ds)
  | _=>none
 | _=>none
theorem z5h {i:Nat}(R:Rl C s)(q:Is C s d v)(e:eMd s.h d=some (i,ks,ds)):d = .at i/\∃a xs,v = .ref a/\s.ι[i]?=some a/\z3d s.h i/\s.H a=some (.dK (ks.zip xs))/\ks.length=ds.length/\All C s ds xs:=by
 unfold eMd at e
 split at e
 ·obtain⟨a,e2,rfl⟩:=q
  split at e
  ·rename_i e1;cases e;rw[z0r] at e1;obtain⟨xs,h,l,r⟩:=R.at_ _ _ a e1 e2;exact⟨rfl,a,xs,rfl,e2,⟨_,e1,by intro z;cases z⟩,h,l,r⟩
  ·cases e
 ·cases e
noncomputable def lk (k:Key) (ks:List Key) (vs:List D):Option D:=y0l (motive:=λ_=>List D->Option D) (λ_=>none) (λd _ ih vs=>y0l (motive:=λ_=>Option D) none (λv t _=>bif kEq d k then some v else ih t) vs) ks vs
theorem zix {j:Key}:lk k (j::ks) (d::ds)=bif kEq j k then some d else lk k ks ds:=rfl
theorem zjw (k:Key):∀{ks:List Key} {ds:List D} {xs:List V},ks.length=ds.length->DAll C ι M ds xs->(lk k ks ds=none/\z69 (ks.zip xs) k=none)∨∃d v,lk k ks ds=some d/\z69 (ks.zip xs) k=some v/\DIs C ι M d v
 | [],[],_,_,A=>by cases (show _ = [] from A);exact .inl ⟨rfl,rfl⟩
 | [],_::_,_,l,_=>by cases l
 | _::_,[],_,l,_=>by cases l
 | j::ks,d::ds,_,l,⟨v,vs,rfl,q,A⟩=>by
  rw[zix,z56]
  by_cases z:j=k
  ·subst z;rw[decide_eq_true rfl];exact .inr ⟨d,v,rfl,by rw[y12];exact z3m rfl,q⟩
  ·rw[decide_eq_false z,y12,z3l z];exact zjw k (by simpa using l) A
theorem z7u (R:Rl C s)(q:Is C s d v)(e:eK s.h d=some (ks,ds))(k:Key):∃a o,v = .ref a/\ze8 s.H a (kV k) o/\IsD s.H a/\((lk k ks ds=none/\o=none)∨∃d' w,lk k ks ds=some d'/\o=some w/\Is C s d' w):=by
 obtain⟨a,xs,rfl,rd,l,A⟩:=z7h R q e;refine⟨a,z69 (ks.zip xs) k,rfl,.inl ⟨_,k,rd,rfl,rfl⟩,.inl ⟨_,rd⟩,?_⟩;rcases zjw k l A with ⟨h1,h2⟩ | ⟨d,w,h1,h2,h3⟩
 ·exact .inl ⟨h1,h2⟩
 ·exact .inr ⟨d,w,h1,h2,h3⟩
def rDG (x y:V)(H:Hp)(Q:VK):Prop:=∃a v,x = .ref a/\ze8 H a y (some v)/\Q v H
noncomputable def gIx (x y:D) (h:TH):R D:=match x,y with
 | .str z,.int i=>ofO (eat z.cps.toList i) λc=>z18 (y1m (eln z.cps.toList) 16777216) (.ok (.str ⟨⟨[c]⟩⟩) h)
 | x,.int i=>ofO (eS h x) λds=>ofO (eat ds i) λd=>.ok d h
 | _,_=>.no
theorem zy7:Sm2 Z (rIx Z.c.K) gIx:=λ{s x y a b Q} g i1 i2 q=>by
 unfold gIx at q
 split at q
 ·rename_i z i;obtain⟨c,e1,q⟩:=q.o;obtain⟨eb,q⟩:=q.i;obtain⟨j,e3,e4⟩:=zi9 e1;rw[z06] at eb;exact .inr (.inr ⟨z,i,c,i1,i2,y1i.mp eb,by unfold atI;rw[e3];exact e4,CK.now q g.rl rfl⟩)
 ·rename_i i _;obtain⟨ds,e1,q⟩:=q.o;obtain⟨d,e2,q⟩:=q.o;obtain⟨c,xs,rfl,sq,A⟩:=zgn g.rl i1 e1;obtain⟨j,e3,e4⟩:=zi9 e2;obtain⟨w,e5,e6⟩:=A.get e4;have e7:atI xs i=some w:=by unfold atI;rw[←A.len,e3];exact e5
  rcases sq with sq | sq
  ·exact .inl ⟨c,xs,i,w,rfl,i2,sq,e7,CK.now q g.rl e6⟩
  ·exact .inr (.inl ⟨c,xs,i,w,rfl,i2,sq,e7,CK.now q g.rl e6⟩)
 ·exact q.elim
noncomputable def gDg (x y:D) (h:TH):R D:=ofO (eK h x) λp=>ofO (dk y) λk=>ofO (lk k p.1 p.2) λd=>.ok d h
theorem zxc:Sm2 Z rDG gDg:=λ{s x y a b Q} g i1 i2 q=>by
 obtain⟨⟨ks,ds⟩,e1,q1⟩:=q.o;obtain⟨k,e2,q2⟩:=q1.o;obtain⟨d,e3,q3⟩:=q2.o;obtain⟨c,o,rfl,dg,_,z⟩:=z7u g.rl i1 e1 k;cases z7y i2 e2;rcases z with ⟨z,_⟩ | ⟨d',w,z1,rfl,i3⟩
 ·rw[e3] at z;cases z
 ·rw[e3] at z1;cases z1;exact⟨c,w,rfl,dg,CK.now q3 g.rl i3⟩
noncomputable def isD (x:D) (h:TH):Bool:=match eK h x with
 | some _=>true
 | none=>false
noncomputable def rAt (fa fb:RE):RE:=rOp (λx y h=>bif isD x h then gDg x y h else gIx x y h) fa fb
theorem zrh {r1 r2:R2}{g1 g2:D->D->TH->R D}{P:D->D->TH->Bool}{ta tb:TE}{fa fb:RE}(k1:Sm2 Z r1 g1)(k2:Sm2 Z r2 g2)(sa:Sm Z ta fa)(sb:Sm Z tb fb) :
  Sm Z (fun σ H Q=>tOp r1 ta tb σ H Q∨tOp r2 ta tb σ H Q) (rOp (λx y h=>bif P x y h then g1 x y h else g2 x y h) fa fb):=λ{s ρ σ Q} A q=>by
 have l:=zcc k1 sa sb A (Q:=Q);have r:=zcc k2 sa sb A (Q:=Q)
 unfold rOp at q l r;cases e1:fa ρ s.h with
 | no=>rw[e1] at q;exact q.elim
 | ex c h=>rw[e1] at q l;exact .inl (l q)
 | ok x h1 =>
  rw[e1] at q l r;simp only[R.bnd] at q l r;cases e2:fb ρ h1 with
  | no=>rw[e2] at q;exact q.elim
  | ex c h=>rw[e2] at q l;exact .inl (l q)
  | ok y h2 =>
   rw[e2] at q l r;simp only at q l r;cases e3:P x y h2 with
   | true=>rw[e3] at q;exact .inl (l q)
   | false=>rw[e3] at q;exact .inr (r q)
theorem zrn {ta tb:TE}{fa fb:RE}(sa:Sm Z ta fa)(sb:Sm Z tb fb):Sm Z (fun σ H Q=>tOp rDG ta tb σ H Q∨tOp (rIx Z.c.K) ta tb σ H Q) (rAt fa fb):=zrh (P:=λx _ h=>isD x h) zxc zy7 sa sb
theorem zhr {e:Expr}{t u:TE}(h:PE X e t)(k:PE X e u):PE X e (fun σ H Q=>t σ H Q∨u σ H Q):=λaa s σ H Q I q=>q.elim (h aa s σ H Q I) (k aa s σ H Q I)
def rDI (neg:Bool)(x y:V)(H:Hp)(Q:VK):Prop:=∃a o,y = .ref a/\ze8 H a x o/\Q (.bl (neg ^^ o.isSome)) H
def zta (neg:Bool)(K:y00)(x y:V)(H:Hp)(Q:VK):Prop:=rIn K neg x y H Q∨rDI neg x y H Q
theorem zvm {n:Nat}(hr:Room n X.A):OpR X (compareOp .In) (zta false X.K):=op_in_seq.or (by
 intro aa s σ H x y v u Q I rx ry ⟨a,o,e,g,q⟩;subst e;cases ry;exact zxq (hu1 hr) I g rx λs3 I3=>⟨.bl _,H,I3,rfl,by simpa using q⟩)
theorem zmt {n:Nat}(hr:Room n X.A):OpR X (compareOp .NotIn) (zta true X.K):=op_notIn_seq.or (by
 intro aa s σ H x y v u Q I rx ry ⟨a,o,e,g,q⟩;subst e;cases ry;exact zjy (hu1 hr) I g rx λs3 I3=>⟨.bl _,H,I3,rfl,by simpa using q⟩)
noncomputable def gIn (neg:Bool) (x y:D) (h:TH):R D:=match eK h y with
 | some p=>ofO (dk x) λk=>match lk k p.1 p.2 with
  | some _=>.ok (.bl (neg ^^ true)) h
  | none=>.ok (.bl (neg ^^ false)) h
 | none=>gInS neg x y h
theorem zw4 {neg:Bool}:Sm2 Z (zta neg Z.c.K) (gIn neg):=λ{s x y a b Q} g i1 i2 q=>by
 unfold gIn at q
 split at q
 ·rename_i p e1;obtain⟨k,e2,q2⟩:=q.o;cases z7y i1 e2;obtain⟨c,o,rfl,dg,_,z⟩:=z7u g.rl i2 e1 k;refine .inr ⟨c,o,rfl,dg,?_⟩;rcases z with ⟨z,rfl⟩ | ⟨d',w,z1,rfl,i3⟩
  ·rw[z] at q2;exact CK.now q2 g.rl rfl
  ·rw[z1] at q2;exact CK.now q2 g.rl rfl
 ·exact .inl (zup g i1 i2 q)
noncomputable def mkD (m:Bool) (ks:List Key) (ds:List D) (h:TH):R D:=bif m then .ok (.at (hn h)) (hp h (.md ks ds)) else .ok (.dic ks ds) h
def uFz (m:Bool)(Q:VK):VK:=λx H1=>bif m then Q x H1 else match x with
 | .ref a=>∃kvs,H1 a=some (.dK kvs)/\∀o,Q (.ref a) (upd H1 a (.frz o (.dK kvs)))
 | _=>False
theorem zjn {e:Expr}{te:TE}(m:Bool)(he:PE X e te):PE X e (fun σ H Q=>te σ H (uFz m Q)):=by
 cases m with
 | true=>exact he
 | false=>exact zhy he
theorem z9i {m:Bool}(R:Rl Z.c s)(l:ks.length=ds.length)(A:All Z.c s ds xs)(q:(mkD m ks ds s.h).sat (CK Z s Q) E)(hp:s.H p=none):uFz m Q (.ref p) (upd s.H p (.dK (ks.zip xs))):=by
 cases m with
 | true =>
  have g:Go Z.c s ⟨s.ι ++ [p],RX.hp s.h (.md ks ds),upd s.H p (.dK (ks.zip xs))⟩:=by
   rw[zda];exact R.mut hp (t:=.md ks ds) (u:=.dK (ks.zip xs)) (by intro z;cases z) ⟨xs,z08,l,A⟩
  exact q g ⟨p,z74 R,rfl⟩
 | false =>
  refine⟨_,z08,λo=>?_⟩;rw[zjx];obtain⟨g,e1⟩:=R.imm hp (.frz o (.dK (ks.zip xs)));exact q g ⟨p,o,xs,rfl,e1,l,g.all A⟩
noncomputable def rNewD (m:Bool):RE:=λ_ h=>mkD m [] [] h
theorem zld {m:Bool}:Sm Z (fun σ H Q=>zh4 σ H (uFz m Q)) (rNewD m):=λA q p hp=>z9i (xs:=[]) (ks:=[]) (ds:=[]) A.g.rl rfl rfl q hp
noncomputable def rFz (fa:RE):RE:=fun ρ h=>(fa ρ h).bnd λx h=>ofO (eMd h x) λp=>.ok (.dic p.2.1 p.2.2) (hs h p.1 .no)
theorem zsi {ta:TE}{fa:RE}(sa:Sm Z ta fa):Sm Z (xFz ta) (rFz fa):=λA q=>sa A <| q.go λx h1 q0 ι H w g1 i1=>by
 obtain⟨⟨i,ks,ds⟩,e1,q⟩:=q0.o;clear q0;obtain⟨rfl,a,xs,rfl,ei,li,e2,l,A2⟩:=z5h (s:=⟨ι,h1,H⟩) g1.rl i1 e1;refine⟨_,e2,λo=>?_⟩;obtain⟨g2,e3⟩:=g1.rl.gone (u:=.frz o (.dK (ks.zip xs))) ei li;have q:=@q ι (upd H a (.frz o (.dK (ks.zip xs)))) (.ref a);simp only[z3r] at q;exact q (g1.trans g2) ⟨a,o,xs,rfl,e3,l,g2.all A2⟩
noncomputable def putKs (k:Key) (ks:List Key):List Key:=y0l (motive:=λ_=>List Key) [k] (λj t ih=>bif kEq j k then j::t else j::ih) ks
noncomputable def putDs (k:Key) (e:D) (ks:List Key) (ds:List D):List D:=y0l (motive:=λ_=>List D->List D) (λ_=>[e]) (λj _ ih ds=>y0l (motive:=λ_=>List D) [e] (λd t _=>bif kEq j k then e::t else d::ih t) ds) ks ds
theorem zbb {k:Key}{w:V}:∀{ks:List Key} {vs:List V},k ∉ ks->(ks.zip vs).map (λkv=>if kv.1=k then (kv.1,w) else kv)=ks.zip vs
 | [],_,_=>by simp
 | j::ks,[],h=>by simp
 | j::ks,v::vs,h=>by
  rw[y12,y10,zbb (λz=>h (y0c _ z)),if_neg (λz:j=k=>h (by simp[z]))]
theorem z7s {e:D}{w:V}(hw:DIs C ι M e w):∀{ks:List Key} {ds:List D} {vs:List V},ks.Nodup->ks.length=ds.length->DAll C ι M ds vs ->
  ∃ys,z26 (ks.zip vs) k w=(putKs k ks).zip ys/\DAll C ι M (putDs k e ks ds) ys/\(putKs k ks).length=(putDs k e ks ds).length
 | [],[],_,_,_,r=>by cases (show _ = [] from r);exact⟨[w],rfl,.one hw,rfl⟩
 | [],_::_,_,_,h,_=>by simp at h
 | _::_,[],_,_,h,_=>by simp at h
 | j::ks,d::ds,_,nd,h,⟨v,vs,rfl,i,r⟩=>by
  have nd2:=y1g.mp nd;have e1:putKs k (j::ks)=bif kEq j k then j::ks else j::putKs k ks:=rfl
  have e2:putDs k e (j::ks) (d::ds)=bif kEq j k then e::ds else d::putDs k e ks ds:=rfl;rw[e1,e2,z56]
  by_cases z:j=k
  ·subst z;rw[decide_eq_true rfl];refine⟨w::vs,?_,⟨w,vs,rfl,hw,r⟩,by simpa using h⟩
   unfold z26;rw[y12,y1o,decide_eq_true rfl,Bool.true_or,if_pos rfl,y10,if_pos rfl,zbb nd2.1];rfl
  ·rw[decide_eq_false z];obtain⟨ys,h1,h2,h3⟩:=z7s hw nd2.2 (by simpa using h) r
   refine⟨v::ys,?_,⟨v,ys,rfl,i,h2⟩,by simpa using h3⟩
   have q:z26 ((j::ks).zip (v::vs)) k w=(j,v)::z26 (ks.zip vs) k w:=by
    unfold z26;rw[y12,y1o,decide_eq_false z,y58]
    split
    ·rw[y10,if_neg z]
    ·rfl
   rw[q,h1];rfl
noncomputable def kHas (k:Key) (ks:List Key):Bool:=y0l (motive:=λ_=>Bool) false (λd _ ih=>kEq d k||ih) ks
theorem zcu (k:Key):∀ks,kHas k ks=true↔k∈ks
 | []=>by simp[kHas]
 | d::ks=>by
  have:kHas k (d::ks)=(kEq d k||kHas k ks):=rfl
  rw[this,y3c,zcu k ks,z56,decide_eq_true_iff,y0a,eq_comm]
noncomputable def kNd (ks:List Key):Bool:=y0l (motive:=λ_=>Bool) true (λd t ih=>!kHas d t&&ih) ks
theorem z70:∀{ks:List Key},kNd ks=true->ks.Nodup
 | [],_=>List.nodup_nil
 | d::ks,e=>by
  replace e:(!kHas d ks&&kNd ks)=true:=e;rw[y09,y3v] at e;exact y1g.mpr ⟨λz=>(by rw[(zcu d ks).mpr z] at e;cases e.1),z70 e.2⟩
noncomputable def gDput (x y v:D) (ρ:DEn) (h:TH):R Fl:=ofO (eMd h x) λp=>ofO (dk y) λk=>z18 (kNd p.2.1&&y16 (eln p.2.1) 16777216) (.ok (.nx ρ) (hs h p.1 (.md (putKs k p.2.1) (putDs k v p.2.1 p.2.2))))
noncomputable def rDput (fv fx fy:RE):RS:=fun ρ h=>(fv ρ h).bnd λv h=>(fx ρ h).bnd λx h=>(fy ρ h).bnd λy h=>gDput x y v ρ h
theorem zkq {tv tx ty:TE}{fv fx fy:RE}(sv:Sm Z tv fv)(sx:Sm Z tx fx)(sy:Sm Z ty fy):SmS Z (zl2 tx ty tv) (rDput fv fx fy):=λ{s ρ σ E} A q =>
 sv A <| q.go λv h1 q _ _ w1 g1 i1=>sx (A.go g1) <| q.go λx h2 q _ _ w2 g2 i2=>sy (A.go (g1.trans g2)) <| q.go λy h3 q ι H w3 g3 i3=>by
 obtain⟨⟨i,ks,ds⟩,e1,q1⟩:=R.sat.o q;obtain⟨k,e2,q2⟩:=q1.o;obtain⟨eb,q3⟩:=q2.i;clear q q1 q2;rw[y09] at eb;cases z7y i3 e2;obtain⟨rfl,a,xs,rfl,ei,li,e4,l,A2⟩:=z5h (s:=⟨ι,h3,H⟩) g3.rl (g3.is i2) e1;obtain⟨ys,f1,f2,f3⟩:=z7s (k:=k) (g3.is (g2.is i1)) (z70 eb.1) l A2;have lt:(ks.zip xs).length<sizeLine:=by
  have:=y0y.mp eb.2;rw[z06] at this;rw[y1h,←A2.len,←l,y2h];exact this
 refine⟨a,_,rfl,DPut.k (k:=k) e4 lt,?_⟩;have g4:=g3.rl.put (t:=.md (putKs k ks) (putDs k v ks ds)) (u:=.dK (z26 (ks.zip xs) k w1)) ei li λ_=>⟨ys,by rw[z08,f1],f3,f2⟩
 have gg:=g1.trans (g2.trans (g3.trans g4));have q4:=q3 (ι:=ι) (H:=upd H a (.dK (z26 (ks.zip xs) k w1)))
 simp only[z3r] at q4;exact q4 gg (A.en.go gg)
noncomputable def rGet2 (fx fy fz:RE):RE:=fun ρ h=>(fx ρ h).bnd λx h=>z18 (isD x h) <| (fy ρ h).bnd λy h=>(fz ρ h).bnd λz h=>ofO (eK h x) λp=>ofO (dk y) λk=>match lk k p.1 p.2 with
 | some d=>.ok d h
 | none=>.ok z h
theorem zk5 {tx ty tz:TE}{fx fy fz:RE}(sx:Sm Z tx fx)(sy:Sm Z ty fy)(sz:Sm Z tz fz):Sm Z (zh6 tx ty tz) (rGet2 fx fy fz):=λ{s ρ σ Q} A q =>
 sx A <| q.go λx h1 q ι1 H1 w1 g1 i1=>by
 obtain⟨eb,q⟩:=q.i;unfold isD at eb
 split at eb
 ·rename_i p e0;obtain⟨a,xs,rfl,rd,_⟩:=z7h (s:=⟨ι1,h1,H1⟩) (ks:=p.1) (ds:=p.2) g1.rl i1 e0;refine⟨a,rfl,.inl ⟨_,rd⟩,sy (A.go g1) <| q.go λy h2 q _ _ w2 g2 i2=>sz (A.go (g1.trans g2)) <| q.go λz h3 q ι H w3 g3 i3=>?_⟩
  obtain⟨⟨ks,ds⟩,e1,q1⟩:=R.sat.o q;obtain⟨k,e2,q2⟩:=q1.o;clear q q1;cases z7y i2 e2;obtain⟨c,o,ec,dg,_,y⟩:=z7u (s:=⟨ι,h3,H⟩) g3.rl (g3.is (g2.is i1)) e1 k;cases ec;refine⟨o,dg,?_⟩;have gg:=g1.trans (g2.trans g3);rcases y with ⟨y,rfl⟩ | ⟨d',w,y1,rfl,i4⟩
  ·simp only[y] at q2;exact q2 gg i3
  ·simp only[y1] at q2;exact q2 gg i4
 ·cases eb
noncomputable def dropKs (k:Key) (ks:List Key):List Key:=y0l (motive:=λ_=>List Key) [] (λj _ ih=>bif kEq j k then ih else j::ih) ks
noncomputable def dropDs (k:Key) (ks:List Key) (ds:List D):List D:=y0l (motive:=λ_=>List D->List D) (λ_=>[]) (λj _ ih ds=>y0l (motive:=λ_=>List D) [] (λd t _=>bif kEq j k then ih t else d::ih t) ds) ks ds
theorem z9p (k:Key):∀{ks:List Key} {ds:List D} {vs:List V},ks.length=ds.length->DAll C ι M ds vs ->
  ∃ys,z5k (ks.zip vs) k=(dropKs k ks).zip ys/\DAll C ι M (dropDs k ks ds) ys/\(dropKs k ks).length=(dropDs k ks ds).length
 | [],[],_,_,r=>by cases (show _ = [] from r);exact⟨[],rfl,rfl,rfl⟩
 | [],_::_,_,h,_=>by simp at h
 | _::_,[],_,h,_=>by simp at h
 | j::ks,d::ds,_,h,⟨v,vs,rfl,i,r⟩=>by
  obtain⟨ys,e1,e2,e3⟩:=z9p k (ks:=ks) (by simpa using h) r
  have f1:dropKs k (j::ks)=bif kEq j k then dropKs k ks else j::dropKs k ks:=rfl;have f2:dropDs k (j::ks) (d::ds)=bif kEq j k then dropDs k ks ds else d::dropDs k ks ds:=rfl
  rw[f1,f2,z56];unfold z5k at *
  by_cases z:j=k
  ·rw[decide_eq_true z,y12,List.filter_cons_of_neg (by simp[z])]
   exact⟨ys,e1,e2,e3⟩
  ·rw[decide_eq_false z,y12,List.filter_cons_of_pos (by simp[z]),e1]
   exact⟨v::ys,rfl,⟨v,ys,rfl,i,e2⟩,by simpa using e3⟩
noncomputable def rDpop (fx fy:RE):RE:=fun ρ h=>(fx ρ h).bnd λx h=>z18 (isD x h) <| (fy ρ h).bnd λy h=>ofO (eMd h x) λp=>ofO (dk y) λk=>ofO (lk k p.2.1 p.2.2) λd=>.ok d (hs h p.1 (.md (dropKs k p.2.1) (dropDs k p.2.1 p.2.2)))
theorem zk9 {tx ty:TE}{fx fy:RE}(sx:Sm Z tx fx)(sy:Sm Z ty fy):Sm Z (zgu tx ty) (rDpop fx fy):=λ{s ρ σ Q} A q =>
 sx A <| q.go λx h1 q ι1 H1 w1 g1 i1=>by
 obtain⟨eb,q⟩:=q.i;unfold isD at eb
 split at eb
 ·rename_i p e0;obtain⟨a,xs,rfl,rd,_⟩:=z7h (s:=⟨ι1,h1,H1⟩) (ks:=p.1) (ds:=p.2) g1.rl i1 e0;refine⟨a,rfl,.inl ⟨_,rd⟩,sy (A.go g1) <| q.go λy h2 q ι H w2 g2 i2=>?_⟩
  obtain⟨⟨i,ks,ds⟩,e1,q1⟩:=R.sat.o q;obtain⟨k,e2,q2⟩:=q1.o;obtain⟨d,e3,q3⟩:=q2.o;clear q q1 q2;cases z7y i2 e2;obtain⟨rfl,a',xs,ea,ei,li,e4,l,A2⟩:=z5h (s:=⟨ι,h2,H⟩) g2.rl (g2.is i1) e1;cases ea;obtain⟨ys,f1,f2,f3⟩:=z9p k l A2;rcases zjw k l A2 with ⟨z,_⟩ | ⟨d',w,z1,z2,z3⟩
  ·rw[z] at e3;cases e3
  ·rw[z1] at e3;cases e3;have g3:=g2.rl.put (t:=.md (dropKs k ks) (dropDs k ks ds)) (u:=.dK (z5k (ks.zip xs) k)) ei li λ_=>⟨ys,by rw[z08,f1],f3,f2⟩
   have q4:=@q3 ι (upd H a (.dK (z5k (ks.zip xs) k))) w;simp only[z3r] at q4;exact⟨_,k,w,e4,rfl,z2,q4 (g1.trans (g2.trans g3)) (g3.is z3)⟩
 ·cases eb
end
end L2.RX
set_option Elab.async false
set_option linter.all false
set_option maxRecDepth 100000
namespace L2.RX
open PySem PySem.Spec PyProof.Rows L2.EX
section
variable {C:CT}{Z:Ct}{s s1:Sx}{d x y:D}{v:V}{ds:List D}{ks:List Key}{k:Key}{xs:List V}{p a:Addr}{Q:VK}{E:Nat->TH->Prop}{ι:List Addr}{M:Hp}{X:Cx}{ta tb tc:TE}{fa fb fc:RE}{t:TA}{f:RA}
def zr7 (K:y00)(xs:List V)(H:Hp)(Q:VK):Prop:=(∃x n,xs = [x]/\zxa K x H n/\Q (.int n) H)∨∃a kvs,xs = [.ref a]/\Rd H a (.dK kvs)/\Q (.int kvs.length) H
theorem zkf:CallR X (.builtin "len") (zr7 X.K):=by
 intro aa s σ H xs us Q I r h;rcases h with h | ⟨a,kvs,rfl,e,q⟩
 ·exact zeg aa s σ H xs us Q I r h
 ·obtain⟨u,rfl,ru⟩:=z29 r;cases ru;exact zs2 I e λt s' I'=>⟨.int kvs.length,H,I',⟨t,rfl⟩,q⟩
noncomputable def gLen (xs:List D) (h:TH):R D:=match xs with
 | [.str x]=>z18 (y1m (eln x.cps.toList) 16777216) (.ok (.int (.ofNat (eln x.cps.toList))) h)
 | [x]=>match eK h x with
  | some p=>.ok (.int (.ofNat (eln p.1))) h
  | none=>ofO (eS h x) λds=>.ok (.int (.ofNat (eln ds))) h
 | _=>.no
theorem zs3:SmN Z (zr7 Z.c.K) gLen:=λ{s x a Q} g A q=>by
 unfold gLen at q
 split at q
 ·rename_i x;obtain⟨eb,q⟩:=q.i;obtain⟨v,rfl,j1⟩:=A.single;cases (show v=_ from j1)
  have q:=CK.now q g.rl (w:=.int x.length) (by show V.int _=V.int _;rw[z06];rfl)
  rw[z06] at eb;exact .inl ⟨.str x,x.length,rfl,⟨y1i.mp eb,rfl⟩,q⟩
 ·obtain⟨v,rfl,j1⟩:=A.single
  split at q
  ·rename_i p e1;obtain⟨a,xs,rfl,rd,l,B⟩:=z7h (ks:=p.1) (ds:=p.2) g.rl j1 e1;refine .inr ⟨a,_,rfl,rd,CK.now q g.rl ?_⟩;show V.int _=V.int _;rw[z06,y1h,←B.len,←l,y2h];rfl
  ·obtain⟨ds,e1,q⟩:=q.o;obtain⟨a,xs,rfl,sq,B⟩:=zgn g.rl j1 e1;refine .inl ⟨.ref a,xs.length,rfl,sq.elim (λz=>.inl ⟨xs,z,rfl⟩) λz=>.inr ⟨xs,z,rfl⟩,CK.now q g.rl ?_⟩;show V.int _=V.int _;rw[z06,B.len];rfl
 ·exact q.elim
noncomputable def dInt:D->Option Int
 | .int i=>some i
 | _=>none
noncomputable def dBl:D->Option Bool
 | .bl i=>some i
 | _=>none
theorem z5p:∀{ds:List D} {xs:List V} {ns:List Int},DAll C ι M ds xs->emap dInt ds=some ns->xs=ns.map V.int
 | [],_,_,A,e=>by cases e;exact A
 | d::ds,_,_,⟨v,vs,rfl,q,A⟩,e=>by
  obtain⟨x,ys,h1,h2,rfl⟩:=emap_cons.mp e;cases d<;>cases h1
  rw[z5p A h2,show v=V.int _ from q];rfl
theorem zc8:∀{ds:List D} {xs:List V} {ns:List Bool},DAll C ι M ds xs->emap dBl ds=some ns->xs=ns.map V.bl
 | [],_,_,A,e=>by cases e;exact A
 | d::ds,_,_,⟨v,vs,rfl,q,A⟩,e=>by
  obtain⟨x,ys,h1,h2,rfl⟩:=emap_cons.mp e;cases d<;>cases h1
  rw[zc8 A h2,show v=V.bl _ from q];rfl
noncomputable def bAny (bs:List Bool):Bool:=y0l (motive:=λ_=>Bool) false (λb _ r=>b||r) bs
noncomputable def bAll (bs:List Bool):Bool:=y0l (motive:=λ_=>Bool) true (λb _ r=>b&&r) bs
theorem zbw:∀bs,bAny bs=bs.any id
 | []=>rfl
 | b::bs=>by rw[y1o,←zbw bs];rfl
theorem ze1:∀bs,bAll bs=bs.all id
 | []=>rfl
 | b::bs=>by rw[y3z,←ze1 bs];rfl
noncomputable def gBls (g:List Bool->Bool) (xs:List D) (h:TH):R D:=match xs with
 | [x]=>ofO (eL h x) λds=>ofO (emap dBl ds) λbs=>.ok (.bl (g bs)) h
 | _=>.no
theorem zul:SmN Z (zva Z.c.K) (gBls bAny):=λ{s x a Q} g A q=>by
 unfold gBls at q
 split at q
 ·obtain⟨ds,e1,q⟩:=q.o;obtain⟨bs,e2,q⟩:=q.o;obtain⟨v,rfl,j1⟩:=A.single;obtain⟨a,xs,rfl,sq,B⟩:=z3e g.rl j1 e1;cases zc8 B e2;rw[zbw] at q;exact⟨bs,SqL.of sq,CK.now q g.rl rfl⟩
 ·exact q.elim
def zt1 (K:y00)(xs:List V)(H:Hp)(Q:VK):Prop:=match xs with
 | [.ref p]=>∃bs:List Bool,SqL K H p (bs.map V.bl)/\Q (.bl (bs.all id)) H
 | _=>False
theorem zdo (bs:List Bool):((y0s bs.length).all λi=>bs.getD i false)=bs.all id:=by
 rw[y0d,y1t,y1t];constructor
 ·intro h b hb;obtain⟨i,hi⟩:=y1u hb;have:=h i (y2o.mpr (y01.mp hi).1);rw[y0n,hi] at this;exact this
 ·intro h i hi;have hl:=y2o.mp hi;have:=h bs[i] (y21 hl)
  rw[y0n,y02 hl];exact this
theorem zr9 (hc:X.calm=true):CallR X (.builtin "all") (zt1 X.K):=by
 intro aa s σ H xs us Q I r h;unfold zt1 at h
 split at h
 ·rename_i p;obtain⟨bs,hS,q⟩:=h;obtain⟨u,rfl,ru⟩:=z29 r;cases ru;obtain⟨its,rv,pl,hz⟩:=I.list hS;have e:=z7t rv;subst e;have hlt:p<s.heap.objs.size:=by
   obtain⟨o,n,e,_⟩:=pl;exact Heap.lt_size e
  refine call_all_walk (wpAny_pyIter_list pl.isList ?_);refine⟨s.heap.objs.size,_,_,_,_,_,λi=>bs.getD i false,rfl,Walks.list (z8k (I.ok.hd hc)) s.heap.objs.size p (y06 hlt) _,⟨⟨_,Heap.get?_push_size _ rfl,rfl,rfl⟩,pl.isList.push _⟩,λi v s' Q' E' hv hq=>?_,λh' tk hk=>?_⟩
  ·have hv':(bs.map Value.bool)[i]?=some v:=by simpa using hv
   rw[y0g] at hv';cases hb:bs[i]? with
   | none=>rw[hb] at hv';cases hv'
   | some b =>
    rw[hb] at hv';cases hv';have hq':Q' (bs.getD i false) s':=hq;rw[y0n,hb] at hq';exact wpAny_truthy_bool hq'
  ·refine⟨.bl (bs.all id),H,z97 I hk,?_,q⟩;rw[←zdo bs];simp[RelV]
 ·exact h.elim
theorem zsn:SmN Z (zt1 Z.c.K) (gBls bAll):=λ{s x a Q} g A q=>by
 unfold gBls at q
 split at q
 ·obtain⟨ds,e1,q⟩:=q.o;obtain⟨bs,e2,q⟩:=q.o;obtain⟨v,rfl,j1⟩:=A.single;obtain⟨a,xs,rfl,sq,B⟩:=z3e g.rl j1 e1;cases zc8 B e2;rw[ze1] at q;exact⟨bs,SqL.of sq,CK.now q g.rl rfl⟩
 ·exact q.elim
noncomputable def iSum (ns:List Int):Int:=y0l (motive:=λ_=>Int) 0 (λd _ ih=>d+ih) ns
theorem zca:∀ns,iSum ns=ns.sum
 | []=>rfl
 | n::ns=>by rw[List.sum_cons,←zca ns];rfl
noncomputable def gSum (xs:List D) (h:TH):R D:=match xs with
 | [x]=>ofO (eL h x) λds=>ofO (emap dInt ds) λns=>.ok (.int (iSum ns)) h
 | _=>.no
theorem zsg:SmN Z (ztx Z.c.K) gSum:=λ{s x a Q} g A q=>by
 unfold gSum at q
 split at q
 ·obtain⟨ds,e1,q⟩:=q.o;obtain⟨ns,e2,q⟩:=q.o;obtain⟨v,rfl,j1⟩:=A.single;obtain⟨a,xs,rfl,sq,B⟩:=z3e g.rl j1 e1;cases z5p B e2;rw[zca] at q;exact⟨ns,SqL.of sq,CK.now q g.rl rfl⟩
 ·exact q.elim
noncomputable def iMin (n:Int) (ns:List Int):Int:=y0l (motive:=λ_=>Int->Int) (λn=>n) (λd _ ih n=>ih (bif iLt d n then d else n)) ns n
theorem zal:∀(ns:List Int) (n:Int),iMin n ns≤n/\(∀y∈ns,iMin n ns≤y)/\iMin n ns∈n::ns
 | [],n=>⟨y5r _,λy h=>(by simp at h),by simp[iMin]⟩
 | d::ns,n=>by
  have e:iMin n (d::ns)=iMin (bif iLt d n then d else n) ns:=rfl;obtain⟨h1,h2,h3⟩:=zal ns (bif iLt d n then d else n);rw[e];cases hb:iLt d n with
  | true =>
   rw[hb] at h1 h2 h3;simp only[cond_true] at h1 h2 h3 ⊢
   rw[z1e] at hb;have:d<n:=of_decide_eq_true hb;refine⟨by omega,λy hy=>?_,?_⟩
   ·rcases y0a.mp hy with rfl | hy
    ·exact h1
    ·exact h2 y hy
   ·exact y0c _ h3
  | false =>
   rw[hb] at h1 h2 h3;simp only[cond_false] at h1 h2 h3 ⊢
   rw[z1e] at hb;have:¬d<n:=of_decide_eq_false hb;refine⟨h1,λy hy=>?_,?_⟩
   ·rcases y0a.mp hy with rfl | hy
    ·omega
    ·exact h2 y hy
   ·rcases y0a.mp h3 with h3 | h3
    ·rw[h3];exact y0p
    ·exact y0c _ (y0c _ h3)
noncomputable def gMin (xs:List D) (h:TH):R D:=match xs with
 | [x]=>ofO (eL h x) λds=>ofO (emap dInt ds) λns=>match ns with
  | n::ns=>.ok (.int (iMin n ns)) h
  | []=>.no
 | [.int i,.int j]=>.ok (.int (bif iLt j i then j else i)) h
 | _=>.no
def zpq (K:y00)(xs:List V)(H:Hp)(Q:VK):Prop:=zjq K xs H Q∨zjj xs H Q
theorem zkp (hc:X.calm=true):CallR X (.builtin "min") (zpq X.K):=(zpu (hc:=hc)).or (zjc (hc:=hc))
theorem zrz:SmN Z (zpq Z.c.K) gMin:=λ{s x a Q} g A q=>by
 unfold gMin at q
 split at q
 ·obtain⟨ds,e1,q⟩:=q.o;obtain⟨ns,e2,q⟩:=q.o
  split at q
  ·rename_i n ns;obtain⟨v,rfl,j1⟩:=A.single;obtain⟨a,xs,rfl,sq,B⟩:=z3e g.rl j1 e1;cases z5p B e2;refine .inl ⟨n::ns,SqL.of sq,by simp,λz hz hl=>?_⟩
   obtain⟨h1,h2,h3⟩:=zal ns n;have a1:=hl _ h3;have a2:iMin n ns≤z:=by rcases y0a.mp hz with rfl | hz;exact h1;exact h2 z hz
   rw[show z=iMin n ns by omega]
   exact CK.now q g.rl rfl
  ·exact q.elim
 ·rename_i i j;obtain⟨v,vs,rfl,q1,v2,vs2,rfl,q2,z⟩:=A;cases (show vs2 = [] from z)
  cases (show v=_ from q1);cases (show v2=_ from q2)
  rw[z1e] at q;refine .inr (CK.now q g.rl ?_);show V.int _=V.int _;congr 1
  by_cases z:j<i<;>simp[z]
 ·exact q.elim
noncomputable def gMax (xs:List D) (h:TH):R D:=match xs with
 | [.int i,.int j]=>.ok (.int (bif iLt i j then j else i)) h
 | _=>.no
theorem ztw:SmN Z zkj gMax:=λ{s x a Q} g A q=>by
 unfold gMax at q
 split at q
 ·rename_i i j;obtain⟨v,vs,rfl,q1,v2,vs2,rfl,q2,z⟩:=A;cases (show vs2 = [] from z)
  cases (show v=_ from q1);cases (show v2=_ from q2)
  rw[z1e] at q;refine CK.now q g.rl ?_;show V.int _=V.int _;congr 1
  by_cases z:i<j<;>simp[z]
 ·exact q.elim
noncomputable def gAbs (xs:List D) (h:TH):R D:=match xs with
 | [.int i]=>.ok (.int (bif iLt i 0 then -i else i)) h
 | _=>.no
theorem zty:SmN Z zui gAbs:=λ{s x a Q} g A q=>by
 unfold gAbs at q
 split at q
 ·rename_i i;obtain⟨v,rfl,j1⟩:=A.single;cases (show v=_ from j1)
  rw[z1e] at q;refine CK.now q g.rl ?_;show V.int _=V.int _;congr 1
  by_cases z:i<0<;>simp[z]
 ·exact q.elim
def zpf (xs:List V)(H:Hp)(Q:VK):Prop:=∃a kvs,xs = [.ref a]/\Rd H a (.dK kvs)/\∀l,H l=none->Q (.ref l) (upd H l (.lst (kvs.map λq=>kV q.1)))
theorem zkr (hc:X.calm=true):CallR X (.type "list") zpf:=by
 intro aa s σ H xs us Q I r h;obtain⟨a,kvs,rfl,e,q⟩:=h;obtain⟨u,rfl,ru⟩:=z29 r;cases ru;obtain⟨hz,hd,vs,rel,dd⟩:=z4b I.hok e;obtain⟨od,es,ep,g1,g2,g3,g4⟩:=id dd;have hl:=rel.length;refine PySem.W.kdl_call (PySem.W.kdl_dict (knd:=z0d X.prog X.w) (kvs:=vs) (ep:=ep) hd) (I.ok.hd hc) (show s.heap.DictAt (z0d X.prog X.w) a vs ep from ⟨od,es,g1,g2,g3,g4⟩) (by rw[←hl];exact hz) λh' tk acc cc hk hS hacc=>?_
 refine⟨.ref s.heap.objs.size,_,I.laid (t':=tk) (o:=.lst (kvs.map λq=>kV q.1)) hk (y08 _) ⟨by rw[y0e];exact hz,acc.toList,cc,z5q ?_ λj x u hx hu=>?_,by rw[hS]⟩,rfl,q _ (I.hok.fresh (y08 _))⟩
 ·have z:=hacc.1;rw[y0e,hl,←z];exact(y2r ..).symm
 ·obtain⟨k,y,e1,e2⟩:=hacc.2 j u (by rw[←y1r];exact hu)
  rw[y0g] at hx;obtain⟨pq,e3,rfl⟩:=y1k.mp hx;obtain⟨v,e4,_⟩:=zb6 rel e3;rw[e1] at e4;cases e4;exact zj1 e2
noncomputable def kds (ks:List Key):List D:=y0l (motive:=λ_=>List D) [] (λk _ r=>kd k::r) ks
theorem zif:∀{ks:List Key} {xs:List V},ks.length≤xs.length->DAll C ι M (kds ks) ((ks.zip xs).map λq=>kV q.1)
 | [],_,_=>by simp[kds];rfl
 | k::ks,[],h=>by simp at h
 | k::ks,x::xs,h=>⟨kV k,_,rfl,ziz k,zif (ks:=ks) (xs:=xs) (by simpa using h)⟩
noncomputable def gList (m:Bool) (xs:List D) (h:TH):R D:=match xs with
 | [x]=>match eK h x with
  | some p=>mk m (kds p.1) h
  | none=>ofO (eS h x) λds=>mk m ds h
 | _=>.no
def zhv (K:y00)(xs:List V)(H:Hp)(Q:VK):Prop:=zk2 K xs H Q∨zpf xs H Q
theorem zep (hc:X.calm=true):CallR X (.type "list") (zhv X.K):=uc_list.or (zkr hc)
theorem zma {m:Bool}:SmN Z (zhv Z.c.K) (gList m):=λ{s x a Q} g A q=>by
 unfold gList at q
 split at q
 ·obtain⟨v,rfl,j1⟩:=A.single
  split at q
  ·rename_i p e1;obtain⟨a,xs,rfl,rd,l,B⟩:=z7h (ks:=p.1) (ds:=p.2) g.rl j1 e1;exact .inr ⟨a,_,rfl,rd,λl' hl=>z4z g.rl (zif (by rw[l,B.len];exact y08 _)) q hl⟩
  ·obtain⟨ds,e1,q⟩:=q.o;obtain⟨a,xs,rfl,sq,B⟩:=zgn g.rl j1 e1;exact .inl ⟨xs,sq,λl hl=>z4z g.rl B q hl⟩
 ·exact q.elim
def zqs (xs:List V)(H:Hp)(Q:VK):Prop:=∃a kvs,xs = [.ref a]/\Rd H a (.dK kvs)/\∀p,H p=none->Q (.ref p) (upd H p (.dK kvs))
theorem zjs:CallR X (.type "dict") zqs:=by
 intro aa s σ H xs us Q I r h;obtain⟨a,kvs,rfl,e,q⟩:=h;obtain⟨u,rfl,ru⟩:=z29 r;cases ru;exact zfh I e λp s' hp I'=>⟨.ref p,_,I',rfl,q p hp⟩
noncomputable def prK:D->Option Key
 | .tup [k,_]=>dk k
 | _=>none
noncomputable def prV:D->Option D
 | .tup [_,v]=>some v
 | _=>none
theorem zi8:∀{ds:List D} {xs:List V} {ks:List Key} {es:List D},DAll C ι M ds xs->emap prK ds=some ks->emap prV ds=some es->∃(ts:List Addr) (vs:List V),xs=ts.map V.ref/\ts.length=ks.length/\ks.length=es.length/\DAll C ι M es vs/\∀(j:Nat) t p,ts[j]?=some t->(ks.zip vs)[j]?=some p->SqT C.K M t [kV p.1,p.2]
 | [],_,_,_,A,e1,e2=>by cases e1;cases e2;exact⟨[],[],A,rfl,rfl,rfl,λj t p h=>by simp at h⟩
 | d::ds,_,_,_,⟨v,vs,rfl,q,A⟩,e1,e2=>by
  obtain⟨k,ks,h1,h2,rfl⟩:=emap_cons.mp e1;obtain⟨e,es,h3,h4,rfl⟩:=emap_cons.mp e2;obtain⟨ts,ws,rfl,l1,l2,B,hh⟩:=zi8 A h2 h4;unfold prK at h1
  split at h1
  ·cases h3;obtain⟨a,ys,rfl,sq,v1,vs1,rfl,q1,v2,vs2,rfl,q2,z⟩:=q;cases (show vs2 = [] from z)
   cases z7y q1 h1;refine⟨a::ts,v2::ws,rfl,by simp[l1],by simp[l2],⟨_,_,rfl,q2,B⟩,λj t p h1 h2=>?_⟩
   cases j with
   | zero=>cases h1;cases h2;exact sq
   | succ j=>exact hh j t p (by simpa using h1) (by simpa using h2)
  ·cases h1
theorem z3q:∀{ks:List Key} {xs:List V} {acc:List (Key×V)},ks.Nodup->(∀k∈ks,(acc.any λkv=>decide (kv.1=k))=false)->z0v acc (ks.zip xs)=acc++ks.zip xs
 | [],xs,acc,_,_=>by simp[z0v]
 | k::ks,[],acc,_,_=>by simp[z0v]
 | k::ks,x::xs,acc,nd,h=>by
  have nd2:=y1g.mp nd;rw[y12];show z0v (z26 acc k x) (ks.zip xs)=_;have e:z26 acc k x=acc ++ [(k,x)]:=by
   unfold z26;rw[h k y0p];rfl
  rw[e,z3q nd2.2 λj hj=>?_]
  ·simp
  ·rw[List.any_append,h j (y0c _ hj),y58,y1o,decide_eq_false (λz:k=j=>nd2.1 (z.symm▸hj))];rfl
noncomputable def gDict (m:Bool) (xs:List D) (h:TH):R D:=match xs with
 | [x]=>match eK h x with
  | some p=>mkD m p.1 p.2 h
  | none=>ofO (eL h x) λds=>ofO (emap prK ds) λks=>ofO (emap prV ds) λes=>z18 (kNd ks) (mkD m ks es h)
 | _=>.no
def zc2 (K:y00)(xs:List V)(H:Hp)(Q:VK):Prop:=zhz K xs H Q∨zqs xs H Q
theorem zfr (hc:X.calm=true):CallR X (.type "dict") (zc2 X.K):=(zez hc).or zjs
theorem zo2 {m:Bool}:SmN Z (λxs H Q=>zc2 Z.c.K xs H (uFz m Q)) (gDict m):=λ{s x a Q} g A q=>by
 unfold gDict at q
 split at q
 ·obtain⟨v,rfl,j1⟩:=A.single
  split at q
  ·rename_i p e1;obtain⟨a,xs,rfl,rd,l,B⟩:=z7h (ks:=p.1) (ds:=p.2) g.rl j1 e1;exact .inr ⟨a,_,rfl,rd,λp hp=>z9i g.rl l B q hp⟩
  ·obtain⟨ds,e1,q⟩:=q.o;obtain⟨ks,e2,q⟩:=q.o;obtain⟨es,e3,q⟩:=q.o;obtain⟨eb,q⟩:=q.i;obtain⟨l,xs,rfl,sq,B⟩:=z3e g.rl j1 e1;obtain⟨ts,vs,rfl,l1,l2,B2,hh⟩:=zi8 B e2 e3;have lz:(ks.zip vs).length=ks.length:=by rw[y1h,←B2.len,←l2];simp
   refine .inl ⟨l,ts,ks.zip vs,rfl,sq,by rw[lz,l1],λj t p h1 h2=>Same.tup z0x (hh j t p h1 h2),λp hp=>?_⟩
   rw[z3q (z70 eb) (λ_ _=>rfl),y3b];exact z9i g.rl l2 B2 q hp
 ·exact q.elim
def FAt (N:List Str)(f:Str)(n:Nat):Prop:=N[n]?=some f/\∀m,m<n->N[m]?≠some f
theorem zdd:∀{N:List Str} {f:Str} {n:Nat} {xs:List V} {x:V},FAt N f n->xs[n]?=some x->(N.zip xs).lookup f=some x
 | [],_,n,_,_,⟨h,_⟩,_=>by simp at h
 | _::_,_,_,[],_,_,h=>by simp at h
 | g::N,f,0,y::xs,x,⟨h,_⟩,e=>by
  have h:g=f:=by simpa using h
  have e:y=x:=by simpa using e
  subst h e;simp
 | g::N,f,n+1,y::xs,x,⟨h,k⟩,e=>by
  have hg:f≠g:=λz=>k 0 (by omega) (by simp[z])
  have:(f==g)=false:=by simpa using hg
  rw[y12,y0m,this];exact zdd (n:=n) ⟨by simpa using h,λm hm z=>k (m+1) (by omega) (by simpa using z)⟩ (by simpa using e)
theorem z66:∀{N:List Str} {f:Str} {xs:List V},f ∉ N->(N.zip xs).lookup f=none
 | [],_,_,_=>by simp
 | _::_,_,[],_=>by simp
 | g::N,f,y::xs,h=>by
  have hg:f≠g:=λz=>h (by simp[z])
  have:(f==g)=false:=by simpa using hg
  rw[y12,y0m,this];exact z66 (λz=>h (y0c _ z))
theorem zds:∀{N:List Str} {f:Str} {n:Nat} {xs:List V} {x:V},FAt N f n->n≤xs.length->z4l f x (N.zip xs)=N.zip (if n<xs.length then xs.set n x else xs ++ [x])
 | [],_,n,_,_,⟨h,_⟩,_=>by simp at h
 | g::N,f,n,[],x,⟨h,k⟩,e=>by
  have e:n=0:=by simpa using e
  subst e;have h:g=f:=by simpa using h
  subst h;simp[z4l]
 | g::N,f,0,y::xs,x,⟨h,_⟩,e=>by
  have h:g=f:=by simpa using h
  subst h;simp[z4l]
 | g::N,f,n+1,y::xs,x,⟨h,k⟩,e=>by
  have hg:g≠f:=λz=>k 0 (by omega) (by simp[z])
  show z4l f x ((g,y)::N.zip xs)=_;unfold z4l;rw[if_neg hg,zds (n:=n) ⟨by simpa using h,λm hm z=>k (m+1) (by omega) (by simpa using z)⟩ (by simpa using e)]
  by_cases z:n<xs.length
  ·rw[if_pos z,if_pos (by simpa using z)];rfl
  ·rw[if_neg z,if_neg (by simpa using z)];rfl
noncomputable def eMi (c:Nat) (h:TH):D->Option (Nat×List D)
 | .at i=>match eg h i with
  | some (.mi c' ds)=>bif y17 c' c then some (i,ds) else none
  | _=>none
 | _=>none
theorem z6n {c i:Nat}(R:Rl C s)(q:Is C s d v)(e:eMi c s.h d=some (i,ds)):d = .at i/\∃a dx xs,v = .ref a/\s.ι[i]?=some a/\z3d s.h i/\s.H a=some (.ins (C.cl c) dx ((C.nm c).zip xs))/\All C s ds xs:=by
 unfold eMi at e
 split at e
 ·obtain⟨a,e2,rfl⟩:=q
  split at e
  ·rename_i c' ds' e1;cases hb:y17 c' c with
   | false=>rw[hb] at e;cases e
   | true =>
    rw[hb] at e;cases e;cases y13 hb;rw[z0r] at e1;obtain⟨dx,xs,h,r⟩:=R.at_ _ _ a e1 e2;exact⟨rfl,a,dx,xs,rfl,e2,⟨_,e1,by intro z;cases z⟩,h,r⟩
  ·cases e
 ·cases e
noncomputable def rFld (c n:Nat) (fa:RE):RE:=fun ρ h=>(fa ρ h).bnd λx h=>ofO (eMi c h x) λp=>ofO (eg p.2 n) λd=>.ok d h
theorem zph {c n:Nat}{g:Str}(hf:FAt (Z.c.nm c) g n)(sa:Sm Z ta fa):Sm Z (zvw (Z.c.cl c) g ta) (rFld c n fa):=λA q=>sa A <| q.go λx h1 q0 ι H w g1 i1=>by
 obtain⟨⟨i,ds⟩,e1,q1⟩:=q0.o;obtain⟨d,e2,q⟩:=q1.o;clear q0 q1;obtain⟨rfl,a,dx,xs,rfl,ei,li,e3,B⟩:=z6n (s:=⟨ι,h1,H⟩) g1.rl i1 e1;rw[z0r] at e2;obtain⟨y,e5,e6⟩:=B.get e2;exact⟨dx,_,y,e3,zdd hf e5,q g1 e6⟩
noncomputable def rSF (c n:Nat) (fa fv:RE):RS:=fun ρ h=>(fv ρ h).bnd λy h=>(fa ρ h).bnd λx h=>ofO (eMi c h x) λp=>z18 (y1m n (eln p.2)) (.ok (.nx ρ) (hs h p.1 (.mi c (bif y16 n (eln p.2) then est p.2 n y else eap p.2 [y]))))
theorem zub {c n:Nat}{g:Str}(hf:FAt (Z.c.nm c) g n)(hN:(Z.c.nm c).length<1000)(sa:Sm Z ta fa)(sv:Sm Z tb fb):SmS Z (zoa (Z.c.cl c) g ta tb) (rSF c n fa fb):=λA q=>sv A <| q.go λy h1 q _ _ w1 g1 i1=>sa (A.go g1) <| q.go λx h2 q0 ι H w2 g2 i2=>by
 obtain⟨⟨i,ds⟩,e1,q1⟩:=q0.o;obtain⟨eb,q⟩:=q1.i;clear q0 q1;obtain⟨rfl,a,dx,xs,rfl,ei,li,e3,B⟩:=z6n (s:=⟨ι,h2,H⟩) g2.rl i2 e1;rw[z06] at eb;have eb:=y1i.mp eb;refine⟨dx,_,e3,by rw[y1h];omega,?_⟩
 rw[zds hf (by rw[←B.len];exact eb)]
 have g3:=g2.rl.put (t:=.mi c (if n<ds.length then ds.set n y else ds ++ [y])) (u:=.ins (Z.c.cl c) dx ((Z.c.nm c).zip (if n<xs.length then xs.set n w1 else xs ++ [w1]))) ei li λ_=>⟨dx,_,z08,by
  rw[←B.len]
  split
  ·exact B.set (g2.is i1) n
  ·exact(DAll.one (g2.is i1)).app B⟩
 have gg:=g1.trans (g2.trans g3);have q4:=@q ι (upd H a (.ins (Z.c.cl c) dx ((Z.c.nm c).zip (if n<xs.length then xs.set n w1 else xs ++ [w1]))))
 have e5:(bif y16 n (eln ds) then est ds n y else eap ds [y])=if n<ds.length then ds.set n y else ds ++ [y]:=by
  rw[z06,z14,z1s]
  by_cases z:n<ds.length
  ·rw[if_pos z,y0y.mpr z];rfl
  ·rw[if_neg z,show y16 n ds.length=false by rw[y2k];exact λy=>z (y0y.mp y)];rfl
 simp only[z3r,e5] at q4;exact q4 gg (A.en.go gg)
end
end L2.RX
set_option Elab.async false
set_option linter.all false
set_option maxRecDepth 100000
namespace L2.RX
open PySem PySem.Spec PyProof.Rows L2.EX
def zd1 (z:Str)(lo hi:Option Int):Str:=if (Builtin.Str.strSliceIndices lo hi 1 z.length).length==z.length then z else ⟨((Builtin.Str.strSliceIndices lo hi 1 z.length).filterMap (z.cps[·]?)).toArray⟩
def zw7 (x:V)(lo hi:Option Int)(H:Hp)(Q:VK):Prop:=∃z,x = .str z/\(zd1 z lo hi).length≤sizeLine/\Q (.str (zd1 z lo hi)) H
theorem part_of {v:Value}{o:Option Int}(p:IsPart v o):∃q:Option (Int×Tok),v=partValue q/\q.map (·.1)=o:=by
 cases p with
 | none=>exact⟨none,rfl,rfl⟩
 | int i t=>exact⟨some (i,t),rfl,rfl⟩
theorem zq9 {X:Cx}:SlR X zw7:=by
 intro aa s σ H x v vl vu lo hi sl Q I rx hs pl pu h;obtain⟨z,rfl,hz,q⟩:=h;obtain⟨t,rfl⟩:=rx;obtain⟨l,rfl,rfl⟩:=part_of pl;obtain⟨u,rfl,rfl⟩:=part_of pu;refine⟨"str",_,y3x.lookup,typeIs_str s z t,getItem_meets (typeIs_str s z t) (by decide) y3x PySem.F.entry_str_getitem (PySem.F.args_str_getitem_2 _ _) (meets_str_getitem_slice z t sl l u none rfl) ⟨hs,?_⟩⟩
 unfold zd1 at hz q;unfold sliceMade slicePicked
 by_cases y:((Builtin.Str.strSliceIndices (l.map (·.1)) (u.map (·.1)) 1 z.length).length==z.length)=true
 ·rw[if_pos y] at hz q;rw[if_pos (by simpa using y)]
  exact⟨.str z,H,I,⟨t,rfl⟩,q⟩
 ·rw[if_neg y] at hz q;rw[if_neg (by simpa using y)]
  exact⟨hz,⟨.str _,H,I.tok _,⟨_,rfl⟩,q⟩⟩
section
variable {C:CT}{Z:Ct}{s s1:Sx}{d x y:D}{v:V}{ds:List D}{xs:List V}{p a:Addr}{Q:VK}{X:Cx}{ta tb tc:TE}{fa fb fc:RE}{t:TA}{f:RA}{e o:Expr}
abbrev RO:=DEn->TH->R (Option Int)
def SmO (Z:Ct)(t:TO)(f:RO):Prop:=∀{s ρ σ Q},At Z s ρ σ->(f ρ s.h).sat (CB Z s Q) (XK Z)->t σ s.H Q
def rO0:RO:=λ_ h=>.ok none h
def rO1 (fa:RE):RO:=fun ρ h=>(fa ρ h).bnd λx h=>match x with
 | .int i=>.ok (some i) h
 | _=>.no
theorem zjl:SmO Z z82 rO0:=λ{s ρ σ Q} A q=>q (ι:=s.ι) (H:=s.H) (.refl A.g.rl)
theorem zjt (sa:Sm Z ta fa):SmO Z (zfg ta) (rO1 fa):=λA q=>sa A <| q.go λx h1 q _ _ _ g1 i1=>by
 split at q
 ·exact⟨_,i1,q g1⟩
 ·exact q.elim
noncomputable def cutD (ds:List D) (lo hi:Option Int):List D:=(ds.drop (HT.sIx ds.length 0 lo)).take (HT.sIx ds.length ds.length hi - HT.sIx ds.length 0 lo)
theorem zc1 (A:DAll C ι M ds xs)(lo hi:Option Int):DAll C ι M (cutD ds lo hi) (zgl xs lo hi):=by
 unfold cutD zgl;rw[A.len];exact(A.drop _).take _
def zwg (K:y00)(x:V)(lo hi:Option Int)(H:Hp)(Q:VK):Prop:=zx4 K x lo hi H Q∨(zvu K x lo hi H Q∨zw7 x lo hi H Q)
theorem zy3:SlR X (zwg X.K):=sl_list.or (sl_tup.or zq9)
noncomputable def gSl (m:Bool) (x:D) (l u:Option Int) (h:TH):R D:=match x with
 | .str z=>z18 (y1m (zd1 z l u).length 16777216) (.ok (.str (zd1 z l u)) h)
 | .tup ds=>z18 (!(y17 (HT.sIx ds.length 0 l) 0&&y17 (HT.sIx ds.length ds.length u) ds.length)) (.ok (.tup (cutD ds l u)) h)
 | x=>ofO (eS h x) λds=>mk m (cutD ds l u) h
noncomputable def rSl (m:Bool) (fa:RE) (fl fu:RO):RE:=fun ρ h=>(fa ρ h).bnd λx h=>(fl ρ h).bnd λl h=>(fu ρ h).bnd λu h=>gSl m x l u h
theorem zv0 {m:Bool}{tl th:TO}{fl fu:RO}(sa:Sm Z ta fa)(sl:SmO Z tl fl)(su:SmO Z th fu):Sm Z (tSl (zwg Z.c.K) ta tl th) (rSl m fa fl fu):=λA q =>
 sa A <| q.go λx h1 q _ _ w g1 i1=>sl (A.go g1) <| q.go λl h2 q _ _ g2=>su (A.go (g1.trans g2)) <| q.go λu h3 q ι H g3=>by
 have gg:=g1.trans (g2.trans g3);have i3:=g3.is (g2.is i1)
 have q:(gSl m x l u h3).sat (CK Z ⟨ι,h3,H⟩ _) (XK Z):=R.sat.mono q λ_ _ q=>q.go gg;unfold gSl at q
 split at q
 ·obtain⟨eb,q⟩:=q.i;exact .inr (.inr ⟨_,i3,y1i.mp eb,CK.now q g3.rl rfl⟩)
 ·rename_i ds;obtain⟨eb,q⟩:=q.i;obtain⟨a,xs,rfl,sq,B⟩:=i3;refine .inr (.inl ⟨a,xs,rfl,Same.tup z0x sq,λz=>?_,λp hp=>?_⟩)
  ·rw[←DAll.len B] at z;rw[z.1,z.2] at eb;simp at eb
  ·obtain⟨g4,i4⟩:=zet (s:=⟨ι,h3,H⟩) g3.rl (zc1 B l u) hp;exact q g4 i4
 ·rename_i n1 n2;obtain⟨ds,e1,q⟩:=q.o;obtain⟨a,xs,rfl,sq,B⟩:=z20 (s:=⟨ι,h3,H⟩) g3.rl i3 e1;have ht:z11 x=false:=by
   cases x<;>first | rfl | exact(n2 _ rfl).elim
  rw[ht] at sq;exact .inl ⟨a,xs,rfl,sq,λp hp=>z4z (s:=⟨ι,h3,H⟩) g3.rl (zc1 B l u) q hp⟩
noncomputable def dAlt (ds:List D) (b:Bool):List D:=y0l (motive:=λ_=>Bool->List D) (λ_=>[]) (λd _ ih b=>match b with
 | true=>d::ih false
 | false=>ih true) ds b
theorem z7q:∀{ds:List D} {xs:List V} (b:Bool),DAll C ι M ds xs->DAll C ι M (dAlt ds b) (PM.alt b xs)
 | [],_,b,A=>by cases (show _ = [] from A);cases b<;>rfl
 | d::ds,_,true,⟨v,vs,rfl,q,A⟩=>⟨v,_,rfl,q,z7q false A⟩
 | d::ds,_,false,⟨v,vs,rfl,q,A⟩=>z7q true A
noncomputable def rSl2 (m b:Bool) (fa:RE):RE:=fun ρ h=>(fa ρ h).bnd λx h=>ofO (eL h x) λds=>mk m (dAlt ds b) h
theorem zp5 {m:Bool}(sa:Sm Z ta fa)(b:Bool):Sm Z (zvx Z.c.K ta (zfg (tC (.int (if b then 0 else 1)))) z82 (zfg (tC (.int 2)))) (rSl2 m b fa):=λA q=>sa A <| q.go λx h1 q0 ι H _ g1 i1=>by
 obtain⟨ds,e1,q⟩:=q0.o;clear q0;obtain⟨a,xs,rfl,sq,B⟩:=z3e (s:=⟨ι,h1,H⟩) g1.rl i1 e1;refine⟨_,rfl,2,rfl,xs,SqL.of sq,by decide,λp hp=>?_⟩
 have z:zge xs (some (if b then 0 else 1)) none (some 2)=PM.alt b xs:=by
  cases b with
  | true=>exact zdx xs
  | false=>exact zfj xs
 rw[z];exact z4z (s:=⟨ι,h1,H⟩) g1.rl (z7q b B) (R.sat.mono q λ_ _ q=>q.go g1) hp
noncomputable def eMl (h:TH):D->Option (Nat×List D)
 | .at i=>match eg h i with
  | some (.ml ds)=>some (i,ds)
  | _=>none
 | _=>none
theorem z2h {i:Nat}(R:Rl C s)(q:Is C s d v)(e:eMl s.h d=some (i,ds)):d = .at i/\∃a xs,v = .ref a/\s.ι[i]?=some a/\z3d s.h i/\s.H a=some (.lst xs)/\All C s ds xs:=by
 unfold eMl at e
 split at e
 ·obtain⟨a,e2,rfl⟩:=q
  split at e
  ·rename_i e1;cases e;rw[z0r] at e1;obtain⟨xs,h,r⟩:=R.at_ _ _ a e1 e2;exact⟨rfl,a,xs,rfl,e2,⟨_,e1,by intro z;cases z⟩,h,r⟩
  ·cases e
 ·cases e
theorem Rl.list {i:Nat}(R:Rl C s)(ei:s.ι[i]?=some a)(li:z3d s.h i)(A:All C s ds xs):Go C s ⟨s.ι,hs s.h i (.ml ds),upd s.H a (.lst xs)⟩:=by
 rw[z3r];exact R.put ei li λ_=>⟨xs,z08,A⟩
noncomputable def gSet (x y v:D) (ρ:DEn) (h:TH):R Fl:=match y with
 | .int (.ofNat k)=>ofO (eMl h x) λp=>z18 (y16 k (eln p.2)) (.ok (.nx ρ) (hs h p.1 (.ml (est p.2 k v))))
 | _=>.no
noncomputable def zef (fv fx fy:RE):RS:=fun ρ h=>(fv ρ h).bnd λv h=>(fx ρ h).bnd λx h=>(fy ρ h).bnd λy h=>gSet x y v ρ h
theorem zk4 (sv:Sm Z ta fa)(sx:Sm Z tb fb)(sy:Sm Z tc fc):SmS Z (zi7 ta (zsb tb tc znb)) (zef fa fb fc):=λ{s ρ σ E} A q =>
 sv A <| q.go λv h1 q _ _ w1 g1 i1=>sx (A.go g1) <| q.go λx h2 q _ _ w2 g2 i2=>sy (A.go (g1.trans g2)) <| q.go λy h3 q0 ι H w3 g3 i3=>by
 unfold gSet at q0
 split at q0
 ·rename_i k;obtain⟨⟨i,ds⟩,e1,q1⟩:=q0.o;obtain⟨eb,q9⟩:=q1.i;clear q0 q1;cases (show w3=_ from i3)
  obtain⟨rfl,a,xs,rfl,ei,li,e4,B⟩:=z2h (s:=⟨ι,h3,H⟩) g3.rl (g3.is i2) e1;rw[z06] at eb;have eb:=y0y.mp eb;have g4:=g3.rl.list ei li (B.set (g3.is (g2.is i1)) k)
  have gg:=g1.trans (g2.trans (g3.trans g4));refine⟨xs,k,e4,by unfold ixN;rw[if_pos (by simp),if_pos (by rw[←B.len];simpa using eb)];rfl,?_⟩
  have q4:=@q9 ι (upd H a (.lst (xs.set k w1)));rw[z14] at q4;exact q4 gg (A.en.go gg)
 ·exact q0.elim
noncomputable def rPut (fv fx fy:RE):RS:=fun ρ h=>(fv ρ h).bnd λv h=>(fx ρ h).bnd λx h=>(fy ρ h).bnd λy h=>bif isD x h then gDput x y v ρ h else gSet x y v ρ h
theorem zmm (sv:Sm Z ta fa)(sx:Sm Z tb fb)(sy:Sm Z tc fc):SmS Z (λE σ H=>zl2 tb tc ta E σ H∨zi7 ta (zsb tb tc znb) E σ H) (rPut fa fb fc):=λ{s ρ σ E} A q=>by
 have l:=zkq sv sx sy A (E:=E);have r:=zk4 sv sx sy A (E:=E)
 unfold rPut at q;unfold rDput at l;unfold zef at r;cases e1:fa ρ s.h with
 | no=>rw[e1] at q;exact q.elim
 | ex c h=>rw[e1] at q l;exact .inl (l q)
 | ok v h1 =>
  rw[e1] at q l r;simp only[R.bnd] at q l r;cases e2:fb ρ h1 with
  | no=>rw[e2] at q;exact q.elim
  | ex c h=>rw[e2] at q l;exact .inl (l q)
  | ok x h2 =>
   rw[e2] at q l r;simp only at q l r;cases e3:fc ρ h2 with
   | no=>rw[e3] at q;exact q.elim
   | ex c h=>rw[e3] at q l;exact .inl (l q)
   | ok y h3 =>
    rw[e3] at q l r;simp only at q l r;cases e4:isD x h3 with
    | true=>rw[e4] at q;exact .inl (l q)
    | false=>rw[e4] at q;exact .inr (r q)
theorem zmk {st:Stmt}{t u:TS}(h:PS X st t)(k:PS X st u):PS X st (λE σ H=>t E σ H∨u E σ H):=λaa s σ H E I q=>q.elim (h aa s σ H E I) (k aa s σ H E I)
noncomputable def rAug (op:Int->Int->Int) (fx fy fe:RE):RS:=fun ρ h=>(fx ρ h).bnd λx h=>(fy ρ h).bnd λy h=>match y with
 | .int (.ofNat k)=>ofO (eMl h x) λp=>ofO (eg p.2 k) λu=>ofO (dInt u) λu=>(fe ρ h).bnd λz h=>ofO (dInt z) λz=>ofO (eMl h x) λp=>z18 (y16 k (eln p.2)) (.ok (.nx ρ) (hs h p.1 (.ml (est p.2 k (.int (op u z))))))
 | _=>.no
theorem zd6 {ι:List Addr}{M:Hp}{i:Int}(q:DIs C ι M d v)(e:dInt d=some i):d = .int i/\v = .int i:=by cases d<;>cases e;exact⟨rfl,q⟩
theorem zlw {op:Int->Int->Int}{tip:TIp}(ht:∀x y H (Q:VK),Q (.int (op x y)) H->tip (.int x) (.int y) H Q)(sx:Sm Z ta fa)(sy:Sm Z tb fb)(se:Sm Z tc fc):SmS Z (zpz ta tb tc zv1 tip znb) (rAug op fa fb fc):=λ{s ρ σ E} A q =>
 sx A <| q.go λx h1 q _ _ w1 g1 i1=>sy (A.go g1) <| q.go λy h2 q0 ι2 H2 w2 g2 i2=>by
 split at q0
 ·rename_i k;obtain⟨⟨i,ds⟩,e1,q1⟩:=q0.o;obtain⟨u,e2,q2⟩:=q1.o;obtain⟨n,e3,q3⟩:=q2.o;clear q0 q1 q2;cases (show w2=_ from i2)
  obtain⟨rfl,a,xs,rfl,ei,li,e4,B⟩:=z2h (s:=⟨ι2,h2,H2⟩) g2.rl (g2.is i1) e1;rw[z0r] at e2;obtain⟨xv,e5,e6⟩:=B.get e2;obtain⟨rfl,rfl⟩:=zd6 e6 e3;refine⟨xs,_,e4,by simp,e5,?_⟩
  refine se (A.go (g1.trans g2)) <| q3.go λz h3 q0 ι H w3 g3 i3=>?_
  obtain⟨m,f1,q1⟩:=q0.o;obtain⟨⟨i',ds'⟩,f2,q2⟩:=q1.o;obtain⟨eb,q⟩:=q2.i;clear q0 q1 q2 q3;obtain⟨rfl,rfl⟩:=zd6 i3 f1;refine ht _ _ _ _ ?_;obtain⟨z1,a',ys,z2,ei',li',e7,B'⟩:=z2h (s:=⟨ι,h3,H⟩) g3.rl (g3.is (g2.is i1)) f2;cases z1;cases z2;rw[z06] at eb;have eb:=y0y.mp eb;have g4:=g3.rl.list ei' li' (B'.set (d:=.int (op n m)) (v:=.int (op n m)) rfl k)
  have gg:=g1.trans (g2.trans (g3.trans g4));refine⟨ys,k,e7,by unfold ixN;rw[if_pos (by simp),if_pos (by rw[←B'.len];simpa using eb)];rfl,?_⟩
  have q4:=@q ι (upd H a (.lst (ys.set k (.int (op n m)))));rw[z14] at q4;exact q4 gg (A.en.go gg)
 ·exact q0.elim
noncomputable def rApp (fa:RE) (f:RA):RE:=fun ρ h=>(fa ρ h).bnd λx h=>ofO (eMl h x) λ_=>(f ρ h).bnd λys h=>match ys with
 | [y]=>ofO (eMl h x) λp=>z18 (y16 (eln p.2) 16777216) (.ok .non (hs h p.1 (.ml (eap p.2 [y]))))
 | _=>.no
theorem zoq (sa:Sm Z ta fa)(k:SmA Z t f):Sm Z (zwa ta t) (rApp fa f):=λA q=>sa A <| q.go λx h1 q0 ι1 H1 w1 g1 i1=>by
 obtain⟨⟨i,ds⟩,e1,q1⟩:=q0.o;obtain⟨rfl,a,xs,rfl,_,_,e2,_⟩:=z2h (s:=⟨ι1,h1,H1⟩) g1.rl i1 e1;refine⟨⟨xs,e2⟩,k (A.go g1) <| q1.go λys h2 q0 ι H w2 g2 i2=>?_⟩
 split at q0
 ·rename_i y;obtain⟨⟨i',ds'⟩,f2,q2⟩:=q0.o;obtain⟨eb,q⟩:=q2.i;clear q0 q2 q1;obtain⟨w,rfl,iw⟩:=i2.single;obtain⟨z1,a',ys,z2,ei',li',e7,B'⟩:=z2h (s:=⟨ι,h2,H⟩) g2.rl (g2.is i1) f2;cases z1;cases z2;rw[z06] at eb;have g4:=g2.rl.list ei' li' ((DAll.one iw).app B');have q4:=@q ι (upd H a (.lst (ys ++ [w]))) .non
  rw[z1s] at q4;exact⟨ys,e7,by rw[←B'.len];exact y0y.mp eb,q4 (g1.trans (g2.trans g4)) rfl⟩
 ·exact q0.elim
noncomputable def rExt (fa:RE) (f:RA):RE:=fun ρ h=>(fa ρ h).bnd λx h=>ofO (eMl h x) λ_=>(f ρ h).bnd λys h=>match ys with
 | [y]=>ofO (eMl h x) λp=>ofO (eL h y) λes=>z18 (y1m (eln p.2+eln es) 16777216) (.ok .non (hs h p.1 (.ml (eap p.2 es))))
 | _=>.no
theorem zlm (sa:Sm Z ta fa)(k:SmA Z t f):Sm Z (zxb ta t) (rExt fa f):=λA q=>sa A <| q.go λx h1 q0 ι1 H1 w1 g1 i1=>by
 obtain⟨⟨i,ds⟩,e1,q1⟩:=q0.o;obtain⟨rfl,a,xs,rfl,_,_,e2,_⟩:=z2h (s:=⟨ι1,h1,H1⟩) g1.rl i1 e1;refine⟨⟨xs,e2⟩,k (A.go g1) <| q1.go λys h2 q0 ι H w2 g2 i2=>?_⟩
 split at q0
 ·rename_i y;obtain⟨⟨i',ds'⟩,f2,q2⟩:=q0.o;obtain⟨es,f3,q3⟩:=q2.o;obtain⟨eb,q⟩:=q3.i;clear q0 q2 q1 q3;obtain⟨w,rfl,iw⟩:=i2.single;obtain⟨z1,a',ys,z2,ei',li',e7,B'⟩:=z2h (s:=⟨ι,h2,H⟩) g2.rl (g2.is i1) f2;cases z1;cases z2;obtain⟨b,ws,rfl,e8,B2⟩:=z3e (s:=⟨ι,h2,H⟩) g2.rl iw f3;rw[z06,z06] at eb;have g4:=g2.rl.list ei' li' (B2.app B');have q4:=@q ι (upd H a (.lst (ys++ws))) .non
  rw[z1s] at q4;exact⟨ys,ws,e7,e8,by rw[←B'.len,←B2.len];exact y1i.mp eb,q4 (g1.trans (g2.trans g4)) rfl⟩
 ·exact q0.elim
noncomputable def eInit (ds:List D):List D:=y0l (motive:=λ_=>List D) [] (λd t ih=>y0l (motive:=λ_=>List D) [] (λ_ _ _=>d::ih) t) ds
theorem z96:∀ds:List D,eInit ds=ds.dropLast
 | []=>rfl
 | [d]=>rfl
 | d::e::t=>by rw[List.dropLast_cons₂,←z96 (e::t)];rfl
noncomputable def rPopL (fa:RE):RE:=fun ρ h=>(fa ρ h).bnd λx h=>ofO (eMl h x) λp=>ofO (eg p.2 (eln p.2 - 1)) λy=>.ok y (hs h p.1 (.ml (eInit p.2)))
theorem zoy (sa:Sm Z ta fa):Sm Z (zx8 ta) (rPopL fa):=λA q=>sa A <| q.go λx h1 q0 ι H w1 g1 i1=>by
 obtain⟨⟨i,ds⟩,e1,q1⟩:=q0.o;obtain⟨y,e2,q⟩:=q1.o;clear q0 q1;obtain⟨rfl,a,xs,rfl,ei,li,e4,B⟩:=z2h (s:=⟨ι,h1,H⟩) g1.rl i1 e1;rw[z0r,z06] at e2;obtain⟨w,e5,e6⟩:=B.get e2;have BI:All Z.c ⟨ι,h1,H⟩ ds.dropLast xs.dropLast:=by rw[y4m,y4m,B.len];exact B.take _
 have g4:=g1.rl.list ei li BI;have q4:=@q ι (upd H a (.lst xs.dropLast)) w
 rw[z96] at q4;exact⟨xs,w,e4,by rw[←B.len];exact e5,q4 (g1.trans g4) (g4.is e6)⟩
noncomputable def rClr (fa:RE):RE:=fun ρ h=>(fa ρ h).bnd λx h=>ofO (eMl h x) λp=>.ok .non (hs h p.1 (.ml []))
theorem zff (sa:Sm Z ta fa):Sm Z (zho ta) (rClr fa):=λA q=>sa A <| q.go λx h1 q0 ι H w1 g1 i1=>by
 obtain⟨⟨i,ds⟩,e1,q⟩:=q0.o;clear q0;obtain⟨rfl,a,xs,rfl,ei,li,e4,B⟩:=z2h (s:=⟨ι,h1,H⟩) g1.rl i1 e1;have g4:=g1.rl.list (ds:=[]) (xs:=[]) ei li rfl;exact⟨xs,e4,q (g1.trans g4) rfl⟩
noncomputable def iFind (n:Int) (ns:List Int):Option Nat:=y0l (motive:=λ_=>Option Nat) none (λd _ ih=>bif iEq d n then some 0 else onO ih y3n) ns
theorem z9o {n:Int}:∀{ns:List Int} {j:Nat},iFind n ns=some j->ns[j]?=some n/\∀(m:Nat) y,m<j->ns[m]?=some y->y≠n
 | [],_,e=>by cases e
 | d::ns,j,e=>by
  replace e:(bif iEq d n then some 0 else onO (iFind n ns) y3n)=some j:=e;rw[z3a] at e
  by_cases z:d=n
  ·rw[decide_eq_true z] at e;cases e;exact⟨by rw[z];rfl,λm y h=>by omega⟩
  ·rw[decide_eq_false z] at e;obtain⟨i,e1,rfl⟩:=z0t e;obtain⟨h1,h2⟩:=z9o e1;refine⟨by simpa using h1,λm y hm hy=>?_⟩
   cases m with
   | zero=>cases hy;exact z
   | succ m=>exact h2 m y (by omega) (by simpa using hy)
noncomputable def rIdx (fa:RE) (f:RA):RE:=fun ρ h=>(fa ρ h).bnd λx h=>ofO (eL h x) λ_=>(f ρ h).bnd λys h=>match ys with
 | [.int n]=>ofO (eL h x) λds=>ofO (emap dInt ds) λns=>ofO (iFind n ns) λj=>.ok (.int (.ofNat j)) h
 | _=>.no
theorem zfi (sa:Sm Z ta fa)(k:SmA Z t f):Sm Z (zhu ta t) (rIdx fa f):=λA q=>sa A <| q.go λx h1 q0 ι1 H1 w1 g1 i1=>by
 obtain⟨ds,e1,q1⟩:=q0.o;obtain⟨a,xs,rfl,e2,_⟩:=z3e (s:=⟨ι1,h1,H1⟩) g1.rl i1 e1;refine⟨⟨xs,e2⟩,k (A.go g1) <| q1.go λys h2 q0 ι H w2 g2 i2=>?_⟩
 split at q0
 ·rename_i n;obtain⟨ds',f2,q2⟩:=q0.o;obtain⟨ns,f3,q3⟩:=q2.o;obtain⟨j,f4,q⟩:=q3.o;clear q0 q2 q1 q3;obtain⟨w,rfl,iw⟩:=i2.single;cases (show w=_ from iw)
  obtain⟨a',ys,z2,e7,B'⟩:=z3e (s:=⟨ι,h2,H⟩) g2.rl (g2.is i1) f2;cases z2;cases z5p B' f3;obtain⟨h3,h4⟩:=z9o f4;refine⟨ns,e7,y0o h3,λi h5 h6=>?_⟩;have:i=j:=by
   rcases Nat.lt_trichotomy i j with l | l | l
   ·exact absurd rfl (h4 i n l h5)
   ·exact l
   ·exact absurd rfl (h6 j n l h3)
  subst this;exact q (g1.trans g2) rfl
 ·exact q0.elim
noncomputable def dUp (k n:Nat):List D:=y36 (motive:=λ_=>Nat->List D) (λ_=>[]) (λ_ ih k=>.int (.ofNat k)::ih (y3n k)) n k
theorem zid:∀(n k:Nat),DAll C ι M (dUp k n) ((y2f k n).map λ(i:Nat)=>V.int (i:Int))
 | 0,k=>rfl
 | n+1,k=>⟨_,_,rfl,rfl,zid n (k+1)⟩
noncomputable def rLRange (m:Bool) (fa:RE):RE:=fun ρ h=>(fa ρ h).bnd λx h=>match x with
 | .int (.ofNat n)=>z18 (y1m n 1000) (mk m (dUp 0 n) h)
 | _=>.no
theorem ze6 {m:Bool}(sa:Sm Z ta fa):Sm Z (zck ta) (rLRange m fa):=λA q=>sa A <| q.go λx h1 q0 ι H w1 g1 i1=>by
 split at q0
 ·rename_i n;obtain⟨eb,q⟩:=q0.i;cases (show w1=_ from i1)
  have eb:=y1i.mp eb;refine⟨by simp;omega,λl hl=>?_⟩
  have B:=zid (C:=Z.c) (ι:=ι) (M:=cut Z.c ⟨ι,h1,H⟩) n 0;rw[←List.range_eq_range'] at B;exact z4z (s:=⟨ι,h1,H⟩) g1.rl B (R.sat.mono q λ_ _ q=>q.go g1) hl
 ·exact q0.elim
end
end L2.RX
set_option Elab.async false
set_option linter.all false
set_option maxRecDepth 100000
namespace L2.EX
open PySem PySem.Spec PyProof.Rows
section
variable {X:Cx}{aa:List (Addr×Obj)}{σ:St}{H:Hp}{s s1:Shared}
theorem z5e (I0:Inv X aa σ H s):∀(as:List Addr) (rows:List (List V)) (H1:Hp),Inv X aa σ H1 s1->as.length=rows.length->as.Nodup->(∀a∈as,s.heap.objs.size≤a/\H1 a=none) ->
  (∀(j:Nat) a r,as[j]?=some a->rows[j]?=some r->r.length≤sizeLine/\∃its:List Value,Vals r its/\IsTup s1.heap a its.toArray) ->
  ∃H2,Inv X aa σ H2 s1/\Same H1 H2/\(∀b,b ∉ as->H2 b=H1 b)/\∀(j:Nat) a r,as[j]?=some a->rows[j]?=some r->H2 a=some (.tup r)
 | [],rows,H1,I1,_,_,_,_=>⟨H1,I1,Same.refl _,λ_ _=>rfl,λj a r h=>by simp at h⟩
 | a::as,[],H1,I1,h,_,_,_=>by simp at h
 | a::as,r::rows,H1,I1,hl,nd,hf,ho=>by
  have nd2:=y1g.mp nd;obtain⟨h1,h2⟩:=hf a y0p;obtain⟨f0,f1,f2,f3,f4,f5⟩:=I0.fpOk h1 h2;obtain⟨z,its,rv,ht⟩:=ho 0 a r rfl rfl;have hs0:X.s₀.heap.objs.size≤a:=y0j I0.sz h1
  have I2:=zex (o:=.tup r) I1 h2 hs0 f1 f4 f5 ⟨z,its,rv,ht⟩;obtain⟨H2,J,sm,ot,tt⟩:=z5e I0 as rows _ I2 (by simpa using hl) nd2.2 (λb hb=>⟨(hf b (y0c _ hb)).1,by rw[z04 (λz:b=a=>nd2.1 (z▸hb))];exact(hf b (y0c _ hb)).2⟩) λj b q hj hq=>ho (j+1) b q (by simpa using hj) (by simpa using hq)
  refine⟨H2,J,(zel h2 _).trans sm,λb hb=>?_,λj b q hj hq=>?_⟩
  ·rw[ot b λz=>hb (y0c _ z),z04 (λz:b=a=>hb (z▸y0p))]
  ·cases j with
   | zero=>cases hj;cases hq;exact sm _ _ z08
   | succ j=>exact tt j b q (by simpa using hj) (by simpa using hq)
end
def Its (x:Str):It:=⟨λi _=>i<x.cps.size,λi H v H'=>H'=H/\∃c,x.cps[i]?=some c/\v = .str ⟨#[c]⟩,λi _=>i=x.cps.size⟩
theorem zg3 {P:Program}{w:World}{K:y00}{tg:Expr}{x:Str}{t:Tok}{T:String}(it:Addr)(hT:["enumerate","zip","dict_itemiterator","dict_reverseitemiterator","odict_iterator","itertools.zip_longest","itertools.pairwise"].contains T=false)
  (W:∀A:Around,A.handled=none->Walks P w A it [it] [it] x.cps.size (SignAt x) λi h=>h.IsStrIter it T x t i) (sf:∀(A:Around) (i:Nat) (s:Shared) (Q:Value->Shared->Prop) (E:Value->Shared->Prop),s.heap.IsStrIter it T x t i->Q (.ref it) s->wpAny (model P w) A (pyIter (.ref it)) Q E s) :
  Turn P w K tg (Its x) [it] it (λi h=>h.IsStrIter it T x t i) where
 mem:=by simp
 obj:=λi h st b hb=>by
  have e:b=it:=by simpa using hb
  subst e;obtain⟨o,e,c,d⟩:=st;exact⟨o,e,λv z=>by rw[d] at z;cases z⟩
 keep:=λi h h' st k=>let ⟨o,e,r⟩:=st;⟨o,k it (by simp) o e,r⟩
 item:=by
  intro X hP hw hK hc i aa s σ H E I hf st hg;subst hP hw hK;obtain⟨f0,f1,f2,f3,f4,f5⟩:=hf it (by simp)
  refine(W X.A (I.ok.hd hc)).item i s _ _ hg st λv h' tk hv st2 kk=>?_;obtain⟨c,u,hc',rfl⟩:=hv;have I1:Inv X aa σ H { s with heap:=h',toks:=tk }:=I.turned (λb o hb e=>kk b o (by simpa using hb) e) f0 f1 f3 f4 f5
  obtain⟨o2,e2,c2,d2⟩:=id st2;exact⟨_,rfl,zco (s:={ s with heap:=h',toks:=tk }) e2 c2 d2 hT ⟨.str ⟨#[c]⟩,H,I1,⟨u,rfl⟩,⟨rfl,c,hc',rfl⟩,st2,λb hb=>(hf b hb).1⟩⟩
 done:=by
  intro X hP hw hK hc i aa s σ H E I hf st hg;subst hP hw hK;obtain⟨f0,f1,f2,f3,f4,f5⟩:=hf it (by simp)
  cases (show i=_ from hg)
  exact(W X.A (I.ok.hd hc)).done s _ _ st λh' tk kk=>⟨rfl,I.turned (λb o hb e=>kk b o (by simpa using hb) e) f0 f1 f3 f4 f5⟩
 self:=λA i s Q E st h=>sf A i s Q E st h
section
variable {X:Cx}{tg e:Expr}
def zmu (te:TE)(σ:St)(H:Hp)(R:It->Hp->Prop):Prop:=te σ H λv H1=>match v with
 | .str x=>R (Its x) H1
 | _=>False
theorem zpt {te:TE}(h:PE X e te):PI X tg e (zmu te):=by
 intro aa s σ H R I hw;refine thn ((z0f h) aa s σ H _ I ⟨_,hw,λv H1 q=>q⟩) λv s1 ⟨x,H1,I1,r1,q1⟩=>?_;dsimp only at q1
 split at q1
 ·rename_i x;obtain⟨t,rfl⟩:=r1;have fin:∀(T:String) (ob:Obj),["enumerate","zip","dict_itemiterator","dict_reverseitemiterator","odict_iterator","itertools.zip_longest","itertools.pairwise"].contains T=false ->
    (∀A:Around,A.handled=none->Walks X.prog X.w A s1.heap.objs.size [s1.heap.objs.size] [s1.heap.objs.size] x.cps.size (SignAt x) λi h=>h.IsStrIter s1.heap.objs.size T x t i) ->
    (∀(A:Around) (i:Nat) (s:Shared) (Q:Value->Shared->Prop) (E:Value->Shared->Prop),s.heap.IsStrIter s1.heap.objs.size T x t i->Q (.ref s1.heap.objs.size) s->wpAny (model X.prog X.w) A (pyIter (.ref s1.heap.objs.size)) Q E s) ->
    (s1.heap.push ob).IsStrIter s1.heap.objs.size T x t 0->PIE X aa σ tg R (.ref s1.heap.objs.size) { s1 with heap:=s1.heap.push ob }:=λT ob hT W sf h0 =>
   ⟨s1.heap.objs.size,[s1.heap.objs.size],_,_,H1,rfl,I1.kept (t':=s1.toks) λb o e=>Heap.get?_push_of_some _ e,zg3 _ hT W sf,h0,λb hb=>by
    have e:b=s1.heap.objs.size:=by simpa using hb
    subst e;exact I1.fpOk (y08 _) (I1.hok.fresh (y08 _)),q1⟩
  cases ha:x.cps.all (·<128)
  ·exact wpAny_pyIter_wide ha (fin "str_iterator" _ (by decide) (λA hA=>Walks.strWide hA _ x t) (λA i s Q E st h=>wpAny_pyIter_striter_wide st h) ⟨_,Heap.get?_push_size _ rfl,rfl,rfl⟩)
  ·exact wpAny_pyIter_ascii ha (fin "str_ascii_iterator" _ (by decide) (λA hA=>Walks.strAscii hA _ x t) (λA i s Q E st h=>wpAny_pyIter_striter_ascii st h) ⟨_,Heap.get?_push_size _ rfl,rfl,rfl⟩)
 ·exact q1.elim
end
abbrev z1i (h:Heap)(b:Nat)(f0:Value)(f1:Bool):Prop:=h.get? (b+4)=some { cls:=.type "zip",dict:=none,data:=.fields #[f0,.bool f1,.bool false,.ref (b+2),.ref (b+3)],slots:=#[] }
structure Z2 (b:Nat)(p q:Bool×Addr)(k:Nat)(h:Heap):Prop where
 zip:∃f0 f1,(f0 = .none∨∃t:Nat,f0=rawInt t)/\z1i h b f0 f1
 its:z0s h (b+2) [.ref b,.ref (b+1)]
 own:∃x y,z0s h (b+3) [x,y]
 i1:ItAt p.1 h b p.2 k
 i2:ItAt q.1 h (b+1) q.2 k
section
variable {prog:Program}{w:World}{A:Around}{E:Value->Shared->Prop}{s:Shared}
def Kz (b:Nat)(h h':Heap):Prop:=∀(c:Nat) o,c<b∨c=b+2∨b+4<c->h.get? c=some o->h'.get? c=some o
theorem zr4 {b:Nat}{f0:Value}{f1:Bool}(hf:f0 = .none∨∃t:Nat,f0=rawInt t)(hz:z1i s.heap b f0 f1) :
  wpAny (model prog w) A (Builtin.SmallTypes.ownedTupleIsFree (.ref (b+4))) (λr s'=>(r=true/\s'=s)∨(r=false/\∃h1 g1,z1i h1 b f0 g1/\Heap.SameBut (b+4) s.heap h1/\s' = { s with heap:=h1 })) E s:=by
 unfold Builtin.SmallTypes.ownedTupleIsFree;refine wpAny_bind (wpAny_field hz rfl (x:=f0) rfl ?_);rcases hf with rfl | ⟨t,rfl⟩
 ·exact wpAny_pure (.inl ⟨rfl,rfl⟩)
 ·dsimp only[rawInt];refine wpAny_bind ?_;have key:∀o,wpAny (model prog w) A (if (o:Option Obj).isNone=true then Pure.pure true else do
    let __do_lift ←field (.ref (b+4)) 1
    if (__do_lift != Value.bool true)=true then do
     setField (.ref (b+4)) 1 (.bool true)
     Pure.pure false
    else Pure.pure false) (λr s'=>(r=true/\s'=s)∨(r=false/\∃h1 g1,z1i h1 b (rawInt t) g1/\Heap.SameBut (b+4) s.heap h1/\s' = { s with heap:=h1 })) E s:=λo=>by
   split
   ·exact wpAny_pure (.inl ⟨rfl,rfl⟩)
   ·refine wpAny_bind (wpAny_field hz rfl (x:=.bool f1) rfl ?_)
    split
    ·exact wpAny_bind (wpAny_setField_rec hz (by simp) λh1 z1 s1=>wpAny_pure (.inr ⟨rfl,h1,true,z1,s1,rfl⟩))
    ·exact wpAny_pure (.inr ⟨rfl,s.heap,f1,hz,Heap.SameBut.refl ..,rfl⟩)
  exact λ_ _ _=>key (s.heap.get? _)
theorem zb0 {b:Nat}{p q:Bool×Addr}{xs ys:Array Value}{k:Nat}{Q:Value->Shared->Prop}(hh:A.handled=none)(hp:p.2<b)(hq:q.2<b)(st:Z2 b p q k s.heap)(hx:SeqAt p.1 s.heap p.2 xs)(hy:SeqAt q.1 s.heap q.2 ys)
  (hQ:∀h' x y,xs[k]?=some x->ys[k]?=some y->Z2 b p q (k+1) h'->z0s h' s.heap.objs.size [x,y]->h'.objs.size=s.heap.objs.size+1->Kz b s.heap h'->Q (.ref s.heap.objs.size) { s with heap:=h' })
  (hE:xs[k]?=none∨ys[k]?=none->∀h' e,Kz b s.heap h'->z9n h' e->E (.ref e) { s with heap:=h' }) :
  wpAny (model prog w) A (Builtin.«zip.__next__» ⟨[.ref (b+4)],[]⟩) (λfin s'=>∃v,fin = .done (.ret v)/\Q v s') E s:=by
 obtain⟨⟨f0,f1,hf,hz⟩,hTI,⟨o1,o2,hTO⟩,hi1,hi2⟩:=st;refine wpAny_bind (m:=field (.ref (b+4)) 2) (wpAny_field hz rfl (x:=.bool false) rfl ?_);refine wpAny_bind (m:=field (.ref (b+4)) 3) (wpAny_field hz rfl (x:=.ref (b+2)) rfl ?_);refine wpAny_bind (wpAny_seqItems hTI rfl ?_);show wpAny _ _ (if ([Value.ref b,.ref (b+1)].toArray).isEmpty=true then _ else _) _ _ _
 rw[if_neg (by simp)]
 have kz:∀{h1 h2:Heap},Heap.SameBut (b+4) h1 h2->∀(c:Nat) o,c≠b+4->h1.get? c=some o->h2.get? c=some o:=λhs c o hc g=>hs.extBut _ _ hc g;refine wpAny_bind (wpAny_mono (zr4 hf hz) (λr s' hr=>?_) λ_ _ e=>e);rcases hr with ⟨rfl,rfl⟩ | ⟨rfl,h1,g1,hz1,hs1,rfl⟩
 ·simp only[if_true];refine wpAny_bind (wpAny_rule ?_);refine wpAny_bind (wpAny_field hz rfl (x:=.ref (b+3)) rfl ?_);refine wpAny_bind (wpAny_setField_rec hz (by simp) λh1 hz1 hs1=>?_)
  replace hz1:z1i h1 b .ellipsis f1:=hz1;have u1:=kz hs1;refine wpAny_bind ?_;show wpAny _ _ (forIn [(Value.ref b,0),(Value.ref (b+1),1)] _ _) _ _ _;rw[y26];refine wpAny_bind (wpAny_bind (wpAny_onRaise (wpAny_bind (m:=Builtin.SmallTypes.nextOf (.ref b)) ?_)));cases hxk:xs[k]? with
  | none =>
   refine z1h (s:={ s' with heap:=h1 }) hh (hi1.at λo g=>u1 _ _ (by omega) g) (hx.at λo g=>u1 _ _ (y06 (y04 hp (by omega))) g) hxk λh2 e k2 stp=>?_
   obtain⟨oe,hoe,hce⟩:=stp;have hz2:z1i h2 b .ellipsis f1:=k2 _ _ (show b+4≠b by omega) hz1
   have hez:e≠b+4:=λx=>by subst x;rw[hz2] at hoe;cases hoe;simp at hce
   exact wpAny_setField_rec hz2 (by simp) λh3 _ s3=>hE (.inl hxk) h3 e (λc o hc g=>s3.extBut _ _ (show c≠b+4 by omega) (k2 _ _ (show c≠b by omega) (u1 _ _ (by omega) g))) ⟨oe,s3.extBut _ _ hez hoe,hce⟩
  | some x =>
   refine z17 (s:={ s' with heap:=h1 }) (hi1.at λo g=>u1 _ _ (by omega) g) (hx.at λo g=>u1 _ _ (y06 (y04 hp (by omega))) g) hxk λh2 i2 s2=>wpAny_pure ?_
   have hT2:z0s h2 (b+3) [o1,o2]:=s2.extBut _ _ (show b+3≠b by omega) (u1 _ _ (by omega) hTO)
   refine wpAny_bind (wpAny_seqItems hT2 rfl ?_);refine wpAny_bind (zvn (s:={ s' with heap:=h2 }) hT2 (by show 2≤sizeLine;decide) λh3 hT3 s3=>?_)
   refine wpAny_bind (wpAny_letGo (wpAny_pure ?_));replace hT3:z0s h3 (b+3) [x,o2]:=hT3;have u3:∀(c:Nat) o,c≠b->c≠b+3->c≠b+4->s'.heap.get? c=some o->h3.get? c=some o:=λc o c1 c2 c3 g=>s3.extBut _ _ c2 (s2.extBut _ _ c1 (u1 _ _ c3 g));have hz3:z1i h3 b .ellipsis f1:=s3.extBut _ _ (show b+4≠b+3 by omega) (s2.extBut _ _ (show b+4≠b by omega) hz1)
   have i3:ItAt p.1 h3 b p.2 (k+1):=i2.at λo g=>s3.extBut _ _ (show b≠b+3 by omega) g
   have z3:h3.objs.size=s'.heap.objs.size:=by rw[s3.1,s2.1,hs1.1]
   clear hT2 i2 s2 s3 hz1 u1 hs1;show wpAny _ _ (forIn [(Value.ref (b+1),1)] _ _) _ _ _;rw[y26];refine wpAny_bind (wpAny_bind (wpAny_onRaise (wpAny_bind (m:=Builtin.SmallTypes.nextOf (.ref (b+1))) ?_)));have i4:ItAt q.1 h3 (b+1) q.2 k:=hi2.at λo g=>u3 _ _ (by omega) (by omega) (by omega) g
   have y4:SeqAt q.1 h3 q.2 ys:=hy.at λo g=>u3 _ _ (y06 hq) (y06 (y04 hq (by omega))) (y06 (y04 hq (by omega))) g
   cases hyk:ys[k]? with
   | none =>
    refine z1h (s:={ s' with heap:=h3 }) hh i4 y4 hyk λh4 e k4 stp=>?_
    obtain⟨oe,hoe,hce⟩:=stp;have hz4:z1i h4 b .ellipsis f1:=k4 _ _ (show b+4≠b+1 by omega) hz3
    have hez:e≠b+4:=λx=>by subst x;rw[hz4] at hoe;cases hoe;simp at hce
    exact wpAny_setField_rec hz4 (by simp) λh5 _ s5=>hE (.inr hyk) h5 e (λc o hc g=>s5.extBut _ _ (show c≠b+4 by omega) (k4 _ _ (show c≠b+1 by omega) (u3 _ _ (by omega) (by omega) (by omega) g))) ⟨oe,s5.extBut _ _ hez hoe,hce⟩
   | some y =>
    refine z17 (s:={ s' with heap:=h3 }) i4 y4 hyk λh4 i5 s4=>wpAny_pure ?_
    have hT4:z0s h4 (b+3) [x,o2]:=s4.extBut _ _ (show b+3≠b+1 by omega) hT3
    refine wpAny_bind (wpAny_seqItems hT4 rfl ?_);refine wpAny_bind (zvn (s:={ s' with heap:=h4 }) hT4 (by show 2≤sizeLine;decide) λh5 hT5 s5=>?_)
    refine wpAny_bind (wpAny_letGo (wpAny_pure ?_));replace hT5:z0s h5 (b+3) [x,y]:=hT5;have u5:∀(c:Nat) o,c≠b+1->c≠b+3->h3.get? c=some o->h5.get? c=some o:=λc o c1 c2 g=>s5.extBut _ _ c2 (s4.extBut _ _ c1 g);have z5:h5.objs.size=s'.heap.objs.size:=by rw[s5.1,s4.1,z3]
    have i6:ItAt q.1 h5 (b+1) q.2 (k+1):=i5.at λo g=>s5.extBut _ _ (show b+1≠b+3 by omega) g
    clear hT4 i5 s4 s5;show wpAny _ _ (forIn ([]:List (Value×Nat)) _ _) _ _ _;rw[y4v];refine wpAny_pure ?_;refine wpAny_bind (wpAny_seqItems hT5 rfl ?_);refine wpAny_bind (wpAny_newTuple ?_ (show 2≤sizeLine by decide))
    refine wpAny_bind (m:=Builtin.SmallTypes.ownedTupleHandOut (.ref (b+4)) (.ref h5.objs.size)) ?_;unfold Builtin.SmallTypes.ownedTupleHandOut;have g5:z1i h5 b .ellipsis f1:=u5 _ _ (by omega) (by omega) hz3
    have lt:b+4<h5.objs.size:=Heap.lt_size g5;have g6:z1i (h5.push { cls:=.type "tuple",data:=.seq [x,y].toArray.toList.toArray }) b .ellipsis f1:=Heap.get?_push_of_some _ g5
    refine wpAny_bind (wpAny_setField_rec g6 (by simp) λh7 g7 s7=>?_)
    replace g7:z1i h7 b (rawInt h5.objs.size) f1:=g7;refine wpAny_setField_rec g7 (by simp) λh8 g8 s8=>?_
    replace g8:z1i h8 b (rawInt h5.objs.size) false:=g8;have up:∀(c:Nat) o,c≠b+4->h5.get? c=some o->h8.get? c=some o:=λc o c1 g=>s8.extBut _ _ c1 (s7.extBut _ _ c1 (Heap.get?_push_of_some _ g));have tN:z0s h8 h5.objs.size [x,y]:=s8.extBut _ _ (show h5.objs.size≠b+4 by omega) (s7.extBut _ _ (show h5.objs.size≠b+4 by omega) (Heap.get?_push_size _ rfl))
    have sz:h8.objs.size=h5.objs.size+1:=by rw[s8.1,s7.1,Heap.size_push]
    refine wpAny_pure ⟨_,rfl,?_⟩;show Q (.ref h5.objs.size) _;rw[z5] at tN sz ⊢
    exact hQ h8 x y hxk hyk ⟨⟨_,_,.inr ⟨_,rfl⟩,g8⟩,up _ _ (by omega) (u5 _ _ (by omega) (by omega) (u3 _ _ (by omega) (by omega) (by omega) hTI)),⟨x,y,up _ _ (by omega) hT5⟩,i3.at λo g=>up _ _ (by omega) (u5 _ _ (by omega) (by omega) g),i6.at λo g=>up _ _ (by omega) g⟩ tN sz (λc o hc g=>up c o (by omega) (u5 _ _ (by omega) (by omega) (u3 _ _ (by omega) (by omega) (by omega) g)))
 ·simp only[y3l,if_false];refine wpAny_bind ?_;rw[←Array.forIn_toList];show wpAny _ _ (forIn [Value.ref b,.ref (b+1)] _ _) _ _ _;rw[y26];refine wpAny_bind (wpAny_bind (wpAny_holding (wpAny_bind (m:=Builtin.SmallTypes.nextOf (.ref b)) ?_)));have u1:=kz hs1;cases hxk:xs[k]? with
  | none =>
   refine z1h (s:={ s with heap:=h1 }) hh (hi1.at λo g=>u1 _ _ (by omega) g) (hx.at λo g=>u1 _ _ (y06 (y04 hp (by omega))) g) hxk λh2 e k2 stp=>hE (.inl hxk) h2 e (λc o hc g=>k2 _ _ (show c≠b by omega) (u1 _ _ (by omega) g)) stp
  | some x =>
   refine z17 (s:={ s with heap:=h1 }) (hi1.at λo g=>u1 _ _ (by omega) g) (hx.at λo g=>u1 _ _ (y06 (y04 hp (by omega))) g) hxk λh2 i2 s2=>wpAny_pure ?_
   refine wpAny_pure ?_;have u2:∀(c:Nat) o,c≠b->c≠b+4->s.heap.get? c=some o->h2.get? c=some o:=λc o c1 c3 g=>s2.extBut _ _ c1 (u1 _ _ c3 g);have hz2:z1i h2 b f0 g1:=s2.extBut _ _ (show b+4≠b by omega) hz1
   have z2:h2.objs.size=s.heap.objs.size:=by rw[s2.1,hs1.1]
   show wpAny _ _ (forIn [Value.ref (b+1)] _ _) _ _ _;rw[y26];refine wpAny_bind (wpAny_bind (wpAny_holding (wpAny_bind (m:=Builtin.SmallTypes.nextOf (.ref (b+1))) ?_)));have i4:ItAt q.1 h2 (b+1) q.2 k:=hi2.at λo g=>u2 _ _ (by omega) (by omega) g
   have y4:SeqAt q.1 h2 q.2 ys:=hy.at λo g=>u2 _ _ (y06 hq) (y06 (y04 hq (by omega))) g
   cases hyk:ys[k]? with
   | none =>
    refine z1h (s:={ s with heap:=h2 }) hh i4 y4 hyk λh4 e k4 stp=>hE (.inr hyk) h4 e (λc o hc g=>k4 _ _ (show c≠b+1 by omega) (u2 _ _ (by omega) (by omega) g)) stp
   | some y =>
    refine z17 (s:={ s with heap:=h2 }) i4 y4 hyk λh5 i6 s5=>wpAny_pure ?_
    refine wpAny_pure ?_;have u5:∀(c:Nat) o,c≠b+1->h2.get? c=some o->h5.get? c=some o:=λc o c1 g=>s5.extBut _ _ c1 g;have z5:h5.objs.size=s.heap.objs.size:=by rw[s5.1,z2]
    show wpAny _ _ (forIn ([]:List Value) _ _) _ _ _;rw[y4v];refine wpAny_pure ?_;refine wpAny_bind (wpAny_newTuple ?_ (show 2≤sizeLine by decide))
    have up:∀(c:Nat) o,h5.get? c=some o->(h5.push { cls:=.type "tuple",data:=.seq ([x,y]:List Value).toArray }).get? c=some o:=λc o g=>Heap.get?_push_of_some _ g;have tN:z0s (h5.push { cls:=.type "tuple",data:=.seq ([x,y]:List Value).toArray }) h5.objs.size [x,y]:=Heap.get?_push_size _ rfl
    have sz:(h5.push { cls:=.type "tuple",data:=.seq ([x,y]:List Value).toArray }).objs.size=h5.objs.size+1:=Heap.size_push ..;refine wpAny_pure ⟨_,rfl,?_⟩;show Q (.ref h5.objs.size) { s with heap:=h5.push { cls:=.type "tuple",data:=.seq ([x,y]:List Value).toArray } }
    rw[z5] at tN sz ⊢
    exact hQ _ x y hxk hyk ⟨⟨f0,g1,hf,up _ _ (u5 _ _ (by omega) hz2)⟩,up _ _ (u5 _ _ (by omega) (u2 _ _ (by omega) (by omega) hTI)),⟨o1,o2,up _ _ (u5 _ _ (by omega) (u2 _ _ (by omega) (by omega) hTO))⟩,i2.at λo g=>up _ _ (u5 _ _ (by omega) g),i6.at λo g=>up _ _ g⟩ tN sz (λc o hc g=>up c o (u5 _ _ (by omega) (u2 _ _ (by omega) (by omega) g)))
end
theorem Z2.obj {b:Nat}{p q:Bool×Addr}{k:Nat}{h:Heap}(st:Z2 b p q k h)(c:Nat)(h1:b≤c)(h2:c<b+5):∃o,h.get? c=some o/\∀v,o.data ≠ .cell v:=by
 obtain⟨⟨f0,f1,hf,hz⟩,hTI,⟨o1,o2,hTO⟩,hi1,hi2⟩:=st;rcases (by omega:c=b∨c=b+1∨c=b+2∨c=b+3∨c=b+4) with rfl | rfl | rfl | rfl | rfl
 ·exact z61 hi1
 ·exact z61 hi2
 ·exact⟨_,hTI,λv z=>by cases z⟩
 ·exact⟨_,hTO,λv z=>by cases z⟩
 ·exact⟨_,hz,λv z=>by cases z⟩
theorem Z2.keep {b:Nat}{p q:Bool×Addr}{k:Nat}{h h':Heap}(st:Z2 b p q k h)(kk:∀(c:Nat),b≤c->c<b+5->∀o,h.get? c=some o->h'.get? c=some o):Z2 b p q k h':=by
 obtain⟨⟨f0,f1,hf,hz⟩,hTI,⟨o1,o2,hTO⟩,hi1,hi2⟩:=st;exact⟨⟨f0,f1,hf,kk _ (by omega) (by omega) _ hz⟩,kk _ (by omega) (by omega) _ hTI,⟨o1,o2,kk _ (by omega) (by omega) _ hTO⟩,hi1.at λo g=>kk _ (by omega) (by omega) _ g,hi2.at λo g=>kk _ (by omega) (by omega) _ g⟩
theorem ZSt.z2 {b:Nat}{p q:Bool×Addr}{k:Nat}{h:Heap}(st:ZSt b [p,q] k .none h):Z2 b p q k h:=by
 obtain⟨old,ol,ho⟩:=st.own
 match old,ol with
 | [x,y],_=>exact⟨⟨.none,false,.inl rfl,st.zip⟩,st.its,⟨x,y,ho⟩,st.it 0 p rfl,st.it 1 q rfl⟩
section
variable {prog:Program}{w:World}{A:Around}{E:Value->Shared->Prop}{s:Shared}
theorem z1j {b:Nat}{p q:Bool×Addr}{xs ys:Array Value}{k:Nat}{Q:Option Value->Shared->Prop}(hh:A.handled=none)(hp:p.2<b)(hq:q.2<b)(st:Z2 b p q k s.heap)(hx:SeqAt p.1 s.heap p.2 xs)(hy:SeqAt q.1 s.heap q.2 ys)
  (hQ:∀h' x y,xs[k]?=some x->ys[k]?=some y->Z2 b p q (k+1) h'->z0s h' s.heap.objs.size [x,y]->h'.objs.size=s.heap.objs.size+1->Kz b s.heap h'->Q (some (.ref s.heap.objs.size)) { s with heap:=h' })
  (hE:xs[k]?=none∨ys[k]?=none->∀h',Kz b s.heap h'->Q none { s with heap:=h' }) :
  wpAny (model prog w) A (pyNext (.ref (b+4))) Q E s:=by
 obtain⟨f0,f1,hf,hz⟩:=st.zip;have hT:s.TypeIs (.ref (b+4)) "zip":=⟨_,hz,rfl⟩;unfold pyNext;refine wpAny_bind (wpAny_attempt (wpAny_callSpecial?_slot (name:=Str.ofString "__next__") hT F.slot_zip_next
  (wpAny_call_entry F.slot_zip_next hT F.entry_zip_next (zb0 hh hp hq st hx hy (λh' x y a1 a2 a3 a4 a5 a6=>wpAny_pure (hQ h' x y a1 a2 a3 a4 a5 a6)) λhex h' e kk stp=>?_) (F.args_zip_next_1 _))))
 obtain⟨o,ho,hc⟩:=stp;exact wpAny_bind (wpAny_isInstance (T:="StopIteration") (b:=true) ⟨o,ho,hc⟩ isSubtype_stop (wpAny_pure (hE hex h' kk)))
theorem z42 {b:Nat}{p q:Bool×Addr}{k:Nat}{Q:Value->Shared->Prop}(st:Z2 b p q k s.heap)(h:Q (.ref (b+4)) s):wpAny (model prog w) A (pyIter (.ref (b+4))) Q E s:=by
 obtain⟨f0,f1,hf,hz⟩:=st.zip;have hT:s.TypeIs (.ref (b+4)) "zip":=⟨_,hz,rfl⟩;refine wpAny_pyIter_slot hT F.slot_zip_iter (wpAny_call_entry F.slot_zip_iter hT F.entry_zip_iter ?_ (F.args_zip_iter_1 _));show wpAny _ _ (ret (.ref (b+4))) _ _ s;exact wpAny_pure ⟨_,rfl,"zip",_,hT,F.slot_zip_next.lookup,h⟩
end
theorem zr0 {b:Nat}{c:Nat}(hc:c ∉ y2f b 5):c<b∨c=b+2∨b+4<c:=by
 rw[y1f] at hc;omega
theorem zc7 {P:Program}{w:World}{K:y00}{n:String}{tp:Pos}(b:Nat)(p q:Bool×Addr)(hp:p.2<b)(hq:q.2<b) :
  Turn P w K (.Name n tp) (Itz K [p,q]) (y2f b 5) (b+4) (λk h=>Z2 b p q k h) where
 mem:=y1f.mpr ⟨by omega,by omega⟩
 obj:=λk h st c hc=>st.obj c (y1f.mp hc).1 (y1f.mp hc).2
 keep:=λk h h' st kk=>st.keep λc h1 h2 o g=>kk c (y1f.mpr ⟨h1,h2⟩) o g
 item:=by
  intro X hP hw hK hc i aa s σ H E I hf st hg;subst hP hw hK;obtain⟨xs,x,q1,g1⟩:=hg 0 p rfl;obtain⟨ys,y,q2,g2⟩:=hg 1 q rfl;obtain⟨us,r1,a1⟩:=Inv.sqs I q1;obtain⟨vs,r2,a2⟩:=Inv.sqs I q2;obtain⟨u,u1,u2⟩:=r1.get g1;obtain⟨v,v1,v2⟩:=r2.get g2;rw[y1r] at u1 v1;obtain⟨f0,f1,hf0,hz⟩:=st.zip;have hlt:b+4<s.heap.objs.size:=Heap.lt_size hz;refine z1j (I.ok.hd hc) hp hq st a1 a2 (λh' u' v' e1 e2 z1 t1 sz kk=>⟨_,rfl,wpAny_pure ?_⟩) λhex=>?_
  ·rw[u1] at e1;rw[v1] at e2;cases e1;cases e2;have I2:=z2u (t':=s.toks) (h':=h') I (λc o hc g=>kk c o (zr0 hc) g) (λc hc=>hf c hc) (y08 _) (xs:=[x,y]) (us:=[u,v]) (.cons u2 (.cons v2 .nil)) (show 2≤sizeLine by decide) ⟨_,t1,rfl,_,rfl⟩
   refine⟨.ref s.heap.objs.size,_,I2,rfl,⟨s.heap.objs.size,[x,y],I.hok.fresh (y08 _),rfl,rfl,rfl,λj r hr zs hz=>?_⟩,z1,λc hc=>?_⟩
   ·match j,hr with
    | 0,hr=>cases hr;rw[Inv.sqs_inj I hz q1,g1];rfl
    | 1,hr=>cases hr;rw[Inv.sqs_inj I hz q2,g2];rfl
    | k+2,hr=>cases hr
   ·have:=(y1f.mp hc).2;rw[z04 (y06 (y04 this (by omega)))]
    exact(hf c hc).1
  ·rw[u1,v1] at hex;rcases hex with z | z<;>cases z
 done:=by
  intro X hP hw hK hc i aa s σ H E I hf st hg;subst hP hw hK;obtain⟨hall,j0,p0,xs0,hp0,hq0,hl0⟩:=hg;obtain⟨xs,q1⟩:=hall 0 p rfl;obtain⟨ys,q2⟩:=hall 1 q rfl;obtain⟨us,r1,a1⟩:=Inv.sqs I q1;obtain⟨vs,r2,a2⟩:=Inv.sqs I q2;have l1:=r1.length;have l2:=r2.length
  refine z1j (I.ok.hd hc) hp hq st a1 a2 (λh' u' v' e1 e2 z1 t1 sz kk=>?_) λhex h' kk=>⟨rfl,z1q (t':=s.toks) I (λc o hc g=>kk c o (zr0 hc) g) λc hc=>hf c hc⟩;exfalso;obtain⟨z1,_⟩:=y2m.mp e1;obtain⟨z2,_⟩:=y2m.mp e2;replace l1:xs.length=us.size:=l1;replace l2:ys.length=vs.size:=l2
  match j0,hp0 with
  | 0,hr=>cases hr;rw[Inv.sqs_inj I hq0 q1] at hl0;omega
  | 1,hr=>cases hr;rw[Inv.sqs_inj I hq0 q2] at hl0;omega
  | k+2,hr=>cases hr
 self:=λ_ _ _ _ _ st h=>z42 st h
section
variable {X:Cx}
theorem zg9 {l1 l2:Expr}{t1 t2:TE}{n:String}{tp p pos:Pos}(hm:X.mg "zip"=none)(h1:PE X l1 t1)(h2:PE X l2 t2)(hg:Gl X "zip":=by rfl)(hs:starEach [l1,l2] X.env = [(false,eval l1 X.env),(false,eval l2 X.env)]:=by rfl)(hs2:starEach [l2] X.env = [(false,eval l2 X.env)]:=by rfl) :
  PI X (.Name n tp) (.Call (.Name "zip" p) [l1,l2] [] pos) (zsx X.K t1 t2):=by
 intro aa s σ H R I h;have ha:PA X [l1,l2] _:=z0l (z0f h1) (z0l (z0f h2) z1w hs2) (by rw[hs,hs2])
 refine Call_ (z16 I hg hm z9b (y0f (thn (ha pos aa s σ H (λvs H1=>∃x y,vs = [x,y]/\(match x,y with
  | .ref a,.ref b=>∃u v,(∃xs,SqS X.K u H1 a xs)/\(∃ys,SqS X.K v H1 b ys)/\R (Itz X.K [(u,a),(v,b)]) H1
  | _,_=>False)) I ⟨_,h,λv H1 q=>⟨_,q,λu H2 q2=>⟨v,u,rfl,q2⟩⟩⟩) λus s1 h1=>?_) (by rw[hs,hs2]) (by rw[hs2];rfl)))
 obtain⟨vs,H1,I1,r1,x,y,rfl,q1⟩:=h1;obtain⟨u,w,rfl,rx,ry⟩:=z62 r1
 split at q1
 ·rename_i a b;cases rx;cases ry;obtain⟨tu,tv,⟨xs,hq1⟩,⟨ys,hq2⟩,q⟩:=q1;obtain⟨its1,rv1,p1⟩:=Inv.sqs I1 hq1;obtain⟨its2,rv2,p2⟩:=Inv.sqs I1 hq2;refine z4j (p:=(tu,a)) (q:=(tv,b)) p1 p2 λh' z1 kk=>wpAny_pyIter_zip z1.zip ?_;exact⟨_,_,_,_,H1,rfl,I1.kept (t':=s1.toks) kk,zc7 s1.heap.objs.size (tu,a) (tv,b) (z13 p1) (z13 p2),z1.z2,λc hc=>I1.fpOk (y1f.mp hc).1 (I1.hok.fresh (y1f.mp hc).1),q⟩
 ·exact q1.elim
end
end L2.EX
namespace PySem
theorem zl5:typeLookup (.type "zip") "keys"=pure none:=by rw[typeLookup_type,builtinLookup_eq_fast];kernel_rfl
theorem zl6:typeLookup (.type "zip") "__getattr__"=pure none:=by rw[typeLookup_type,builtinLookup_eq_fast];kernel_rfl
theorem zgj:entryFor table "zip.__getattribute__"=some Builtin.«object.__getattribute__»:=entryFor_alias (id':="object.__getattribute__") (by kernel_rfl) (by decide +kernel) (by decide +kernel) (by kernel_rfl)
theorem zgt (a:Addr)(vs:Array Value)(u:Tok):Meets (Builtin.«object.__getattribute__» ⟨[.ref a,.str "keys" u],[]⟩) (λA R s=>s.heap.get? a=some { cls:=.type "zip",dict:=none,data:=.fields vs,slots:=#[] }/\raisesAttr (.ref a) "keys" A R s) :=
 Meets.of_wp λprog w A R s ⟨hx,hs⟩=>by
  obtain⟨hp,g,d,tk,os⟩:=s;have hT:(⟨hp,g,d,tk,os⟩:Shared).TypeIs (.ref a) "zip":=⟨_,hx,rfl⟩;have hmiss:=zl5
  unfold Builtin.«object.__getattribute__»
  repeat (any_goals (first | assumption | wp_step))
  all_goals exact wpAny_raiseAttrError hs.1 hs.2 (attrMsg_fits (by decide +kernel) (by size_fits))
section
variable {prog:Program}{w:World}{A:Around}{E:Value->Shared->Prop}{s:Shared}
theorem getAttr?_keys_zip {a:Addr}{vs:Array Value}{Q:Option Value->Shared->Prop}(hx:s.heap.get? a=some { cls:=.type "zip",dict:=none,data:=.fields vs,slots:=#[] })(hA:A.handled=none)
  (h:∀h' tk,(∀b ob,s.heap.get? b=some ob->h'.get? b=some ob)->Q none { s with heap:=h',toks:=tk }) :
  wpAny (model prog w) A (getAttr? (.ref a) "keys") Q E s:=by
 obtain⟨hp,g,d,tk,os⟩:=s;have hT:∀tk',(⟨hp,g,d,tk',os⟩:Shared).TypeIs (.ref a) "zip":=λ_=>⟨_,hx,rfl⟩;have f1:=sub_AttributeError
 have f3:=F.slot_zip_getattribute.lookup;have f4:=F.slot_zip_getattribute.bind (.ref a)
 have f5:=zl6;unfold getAttr? getAttrBy? getAttrBy
 repeat (any_goals (first | assumption | exact hT _ | ((with_reducible show wpAny _ _ (call (Value.builtin "zip.__getattribute__") _ _) _ _ _);refine call_meets F.slot_zip_getattribute (hT _) zgj (F.args_zip_getattribute_2 _ _) (zgt a vs _) ⟨hx,hA,λh' tk' e hx'=>?_⟩) | wp_step))
 obtain⟨t',u',he⟩:=hx'.there;show wpAny _ _ (getattributeRaised _ _ _ _ _ _ _) _ _ _;unfold getattributeRaised
 repeat (any_goals (first | assumption | wp_step))
 exact h h' tk' hx'.keeps
end
end PySem
namespace L2.EX
open PySem PySem.Spec PyProof.Rows
section
variable {prog:Program}{w:World}{K:Type} [DecidableEq K] {knd:KeyKind prog w K}
structure ZPairs (knd:KeyKind prog w K)(xs ys:Array Value)(ps:List (K×Value)):Prop where
 at_:∀(j:Nat) p,ps[j]?=some p->∃key,xs[j]?=some key/\ys[j]?=some p.2/\knd.is p.1 key=true
 end_:xs[ps.length]?=none∨ys[ps.length]?=none
theorem zjh (d b:Nat)(p q:Bool×Addr)(xs ys:Array Value)(ps:List (K×Value))(zp:ZPairs knd xs ys ps)(hdb:b+4<d)(hp:p.2<b)(hq:q.2<b)(n:Nat) :
  ∀(i:Nat) (kvs:List (K×Value)),ps.length - i=n->i≤ps.length->kvs.length+ps.length≤sizeLine+i->∀(A:Around) (R:Result->Shared->Prop) (s:Shared),A.handled=none->Z2 b p q i s.heap->SeqAt p.1 s.heap p.2 xs->SeqAt q.1 s.heap q.2 ys->s.heap.DictOf knd d kvs ->
   (∀h' tk,h'.DictOf knd d (z24 kvs (ps.drop i))->(∀c o,c<b->s.heap.get? c=some o->h'.get? c=some o)->R (.ok (.ret .none)) { s with heap:=h',toks:=tk }) ->
   wpAny (model prog w) A.in1 (Builtin.«dict.update.loop» ⟨[.ref d,.ref (b+4),rawInt i,.none],[]⟩)
    (λfin s'=>match fin with
     | .done f=>R (.ok f) s'
     | .again c'=>c'.quiet=true/\codeAny (model prog w) A c' R s') (λe s'=>R (.error e) s') s:=by
 have gone:∀{h h':Heap} {kvs},Kz b h h'->h.DictOf knd d kvs->h'.DictOf knd d kvs:=λk ⟨o,es,ep,ho,r⟩=>⟨o,es,ep,k d o (.inr (.inr hdb)) ho,r⟩
 induction n with
 | zero =>
  intro i kvs hn hi hz A R s hA st h1 h2 hd hR;unfold Builtin.«dict.update.loop»;have e:i=ps.length:=by omega
  subst e;refine wpAny_bind (z1j (show A.in1.handled=none from hA) hp hq st h1 h2 (λh' x y e1 e2 _ _ _ _=>?_) λ_ h' kk=>?_)
  ·exfalso;rcases zp.end_ with z | z
   ·rw[z] at e1;cases e1
   ·rw[z] at e2;cases e2
  ·refine wpAny_bind (m:=Builtin.Dict.addKeywords d []) (wpAny_of_eq (a:=()) (by first | rfl | (unfold Builtin.Dict.addKeywords;rfl)) (wpAny_pure ?_))
   rw[y4e (y08 _)] at hR;exact hR h' s.toks (gone kk hd) λc o hc ho=>kk c o (.inl hc) ho
 | succ n ih =>
  intro i kvs hn hi hz A R s hA st h1 h2 hd hR;unfold Builtin.«dict.update.loop»;have hlt:i<ps.length:=by omega
  obtain⟨r,hr⟩:∃r,ps[i]?=some r:=⟨_,y02 hlt⟩;obtain⟨key,g1,g2,g3⟩:=zp.at_ i r hr;refine wpAny_bind (z1j (show A.in1.handled=none from hA) hp hq st h1 h2 (λh' x y e1 e2 st' tT sz kk=>?_) λhex=>?_)
  ·rw[g1] at e1;rw[g2] at e2;cases e1;cases e2;refine wpAny_bind (wpAny_holding (wpAny_bind (wpAny_tryCatch ?_)));unfold Builtin.Dict.pairItems;refine wpAny_bind (wpAny_typeOf (T:="tuple") ⟨_,tT,rfl⟩ ?_);rw[if_pos (by decide)]
   refine wpAny_bind (wpAny_seqItems tT rfl (wpAny_pure ?_));show wpAny _ _ (holding [key,r.2] (dictSet d key r.2)) _ _ _;have ap:=z54 kvs r.1 r.2;refine wpAny_holding (wpAny_dictSet_pairs g3 (gone kk hd) (λh3 hd3 sb=>?_) (by omega))
   have k3:∀(c:Nat) o,c≠d->h'.get? c=some o->h3.get? c=some o:=λc o hc ho=>(sb.2 c hc).trans ho;have k4:∀(c:Nat) o,c<b->s.heap.get? c=some o->h3.get? c=some o:=λc o hc ho=>k3 c o (by omega) (kk c o (.inl hc) ho)
   refine wpAny_pure ⟨plainId_quiet z10 _,codeAny_builtin z2i ?_⟩;rw[Around.under_plainId z10 _,show((i:Int)+1)=((i+1:Nat):Int) by push_cast;rfl]
   refine ih (i+1) (stored kvs r.1 r.2) (by omega) (by omega) (by omega) A R _ hA (st'.keep λc _ hc o ho=>k3 c o (by omega) ho) (h1.at λo ho=>k4 _ o hp ho) (h2.at λo ho=>k4 _ o hq ho) hd3 λh5 tk hd5 k5=>?_
   rw[show z24 kvs (ps.drop i)=z24 (stored kvs r.1 r.2) (ps.drop (i+1)) by
    obtain⟨y1,y2⟩:=y01.mp hr;rw[y24 y1,y2];rfl] at hR
   exact hR h5 tk hd5 λc o hc ho=>k5 c o hc (k4 c o hc ho)
  ·exfalso;rw[g1,g2] at hex;rcases hex with z | z<;>cases z
theorem z5r {A:Around}{E:Value->Shared->Prop}{s:Shared}{b:Nat}{p q:Bool×Addr}{xs ys:Array Value}{ps:List (K×Value)}{Q:Value->Shared->Prop}(hA:A.handled=none)(zp:ZPairs knd xs ys ps)(hp:p.2<b)(hq:q.2<b)(st:Z2 b p q 0 s.heap)(h1:SeqAt p.1 s.heap p.2 xs)(h2:SeqAt q.1 s.heap q.2 ys)(hz:ps.length≤sizeLine)
  (h:∀h' tk,h'.DictOf knd s.heap.objs.size (z24 [] ps)->(∀c o,c<b->s.heap.get? c=some o->h'.get? c=some o)->Q (.ref s.heap.objs.size) { s with heap:=h',toks:=tk }) :
  wpAny (model prog w) A (call (.type "dict") [.ref (b+4)]) Q E s:=by
 obtain⟨f0,f1,hf,hz0⟩:=st.zip;have lt:b+4<s.heap.objs.size:=Heap.lt_size hz0;refine callType_codes (Q₁:=λobj s₁=>obj = .ref s.heap.objs.size/\s₁ = { s with heap:=s.heap.push { cls:=.type "dict",data:=.dict #[] } }) F.kt_called_dict (F.kt_typeCall_dict_1 _) F.entry_dict_init (kt_code_dict_new _ ⟨rfl,rfl⟩) ?_
 rintro obj s₁ ⟨rfl,rfl⟩;have aU:(s.heap.push { cls:=.type "dict",data:=.dict #[] }).DictOf knd s.heap.objs.size []:=Heap.DictOf.new s.heap;refine⟨aU.typeIs,F.args_dict_init_2 _ _,?_⟩;unfold Builtin.«dict.__init__»;refine wpAny_bind ?_;unfold Builtin.Dict.selfAndRest;refine wpAny_bind (wpAny_notOrdered_dict aU.typeIs ?_);show wpAny _ _ (pure (s.heap.objs.size,[Value.ref (b+4)])) _ _ _;refine wpAny_pure ?_;show wpAny _ _ (Builtin.Dict.updateFrom "dict.__init__" s.heap.objs.size (.ref (b+4)) [] .none) _ _ _;unfold Builtin.Dict.updateFrom;have k1:∀(c:Nat) o,s.heap.get? c=some o->(s.heap.push { cls:=.type "dict",data:=.dict #[] }).get? c=some o:=λc o ho=>Heap.get?_push_of_some _ ho
 refine wpAny_bind (wpAny_typeOf (T:="zip") ⟨_,k1 _ _ hz0,rfl⟩ ?_);rw[if_pos (by decide)]
 refine wpAny_bind (getAttr?_keys_zip (k1 _ _ hz0) (by first | exact hA | (show _=none;exact hA)) λh2' tk2 k2=>?_)
 rw[if_pos (show(none:Option Value).isNone=true from rfl)]
 refine wpAny_bind (wpAny_rule ?_);have k3:∀(c:Nat) o,s.heap.get? c=some o->h2'.get? c=some o:=λc o ho=>k2 _ _ (k1 _ _ ho);have st2:Z2 b p q 0 h2':=st.keep λc _ _ o ho=>k3 c o ho
 refine wpAny_bind (z42 st2 ?_);refine wpAny_pure ⟨plainId_quiet z10 _,codeAny_builtin z2i ?_⟩;rw[Around.under_plainId z10 _];have hd2:h2'.DictOf knd s.heap.objs.size []:=by
  obtain⟨o,es,ep,ho,r⟩:=aU;exact⟨o,es,ep,k2 _ _ ho,r⟩
 refine zjh s.heap.objs.size b p q xs ys ps zp lt hp hq _ 0 [] rfl (y2s _) (by simpa using hz) A.in1 _ _ hA st2 (h1.at λo ho=>k3 _ o ho) (h2.at λo ho=>k3 _ o ho) hd2 λh3 tk hd3 k5=>⟨rfl,h h3 tk hd3 λc o hc ho=>k5 c o hc (k3 c o ho)⟩
end
end L2.EX
namespace L2.EX
open PySem PySem.Spec PyProof.Rows
section
variable {X:Cx}
def zim (K:y00)(t1 t2:TE):TE:=fun σ H Q=>t1 σ H λx H1=>t2 σ H1 λy H2=>match x,y with
 | .ref a,.ref b=>∃(u v:Bool) (ps:List (Key×V)),SqS K u H2 a (ps.map λp=>kV p.1)/\SqS K v H2 b (ps.map Prod.snd)/\ps.length≤1000/\∀p,H2 p=none->Q (.ref p) (upd H2 p (.dK (z0v [] ps)))
 | _,_=>False
theorem zig {prog:Program}{w:World}:∀{ps:List (Key×V)} {us vs:List Value},Vals (ps.map λp=>kV p.1) us->Vals (ps.map Prod.snd) vs->∃qs:List (Key×Value),KV ps qs/\qs.length=ps.length/\us.length=ps.length/\∀(j:Nat) q,qs[j]?=some q->∃key,us[j]?=some key/\vs[j]?=some q.2/\(z0d prog w).is q.1 key=true
 | [],us,vs,h1,h2=>by
  cases h1;exact⟨[],.nil,rfl,rfl,λj q hj=>by simp at hj⟩
 | p::ps,us,vs,h1,h2=>by
  cases h1 with
  | cons a1 b1 =>
   cases h2 with
   | cons a2 b2 =>
    rename_i u us v vs;obtain⟨qs,r,l1,l2,f⟩:=zig (prog:=prog) (w:=w) b1 b2;refine⟨(p.1,v)::qs,.cons ⟨rfl,a2⟩ r,by simp[l1],by simp[l2],λj q hj=>?_⟩
    cases j with
    | zero =>
     simp at hj;subst hj;exact⟨u,rfl,rfl,z65 (P:=prog) (w:=w) a1⟩
    | succ j=>exact f j q (by simpa using hj)
theorem zfk {l1 l2:Expr}{t1 t2:TE}{p1 p2 pos aF:Pos}(hm:X.mg "dict"=none)(hm2:X.mg "zip"=none)(h1:PE X l1 t1)(h2:PE X l2 t2)(hc:X.calm=true:=by rfl)(hg:Gl X "dict":=by rfl)(hg2:Gl X "zip":=by rfl)
  (hs0:starEach [.Call (.Name "zip" p2) [l1,l2] [] aF] X.env = [(false,eval (.Call (.Name "zip" p2) [l1,l2] [] aF) X.env)]:=by rfl) (hs:starEach [l1,l2] X.env = [(false,eval l1 X.env),(false,eval l2 X.env)]:=by rfl) (hs2:starEach [l2] X.env = [(false,eval l2 X.env)]:=by rfl) :
  PE X (.Call (.Name "dict" p1) [.Call (.Name "zip" p2) [l1,l2] [] aF] [] pos) (zim X.K t1 t2):=by
 intro aa s σ H Q I h;have ha:PA X [l1,l2] _:=z0l (z0f h1) (z0l (z0f h2) z1w hs2) (by rw[hs,hs2])
 refine Call_ (z16 I hg hm zdb (y0f ?_ hs0 rfl));rw[hs0];show wpAny _ _ (spliced ((false,_) :: [])) _ _ _;refine Calls.spliced_cons ?_;refine Call_ (z16 I hg2 hm2 z9b (y0f (thn (ha aF aa s σ H (λvs H1=>∃x y,vs = [x,y]/\(match x,y with
  | .ref a,.ref b=>∃(u v:Bool) (ps:List (Key×V)),SqS X.K u H1 a (ps.map λp=>kV p.1)/\SqS X.K v H1 b (ps.map Prod.snd)/\ps.length≤1000/\∀p,H1 p=none->Q (.ref p) (upd H1 p (.dK (z0v [] ps)))
  | _,_=>False)) I ⟨_,h,λv H1 q=>⟨_,q,λu H2 q2=>⟨v,u,rfl,q2⟩⟩⟩) λus s1 h1=>?_) (by rw[hs,hs2]) (by rw[hs2];rfl)))
 obtain⟨vs,H1,I1,r1,x,y,rfl,q1⟩:=h1;obtain⟨u,w,rfl,rx,ry⟩:=z62 r1
 split at q1
 ·rename_i a b;cases rx;cases ry;obtain⟨tu,tv,ps,hq1,hq2,hz,q⟩:=q1;obtain⟨its1,rv1,p1⟩:=Inv.sqs I1 hq1;obtain⟨its2,rv2,p2⟩:=Inv.sqs I1 hq2;obtain⟨qs,rk,e1,e2,f⟩:=zig (prog:=X.prog) (w:=X.w) rv1 rv2;refine z4j (p:=(tu,a)) (q:=(tv,b)) p1 p2 λh' z1 kk=>Calls.spliced_nil ?_;have lz:s1.heap.objs.size+4<h'.objs.size:=by
   obtain⟨f0,f1,_,hz0⟩:=z1.z2.zip;exact Heap.lt_size hz0
  have hlen2:=z28 ps [];simp at hlen2;refine z5r (knd:=z0d X.prog X.w) (s:={ s1 with heap:=h' }) (I1.ok.hd hc) (ps:=qs) ⟨λj r hr=>by
   obtain⟨key,g1,g2,g3⟩:=f j r hr;exact⟨key,by simpa using g1,by simpa using g2,g3⟩,.inl (by rw[e1,←e2];simp)⟩ (z13 p1) (z13 p2) z1.z2 (p1.at λo g=>kk _ o g) (p2.at λo g=>kk _ o g) (by rw[e1];exact y0j hz (by decide)) λh2 tk hd kp=>?_
  refine⟨.ref h'.objs.size,_,I1.laid (h':=h2) (t':=tk) (λc o g=>kp c o (Heap.lt_size g) (kk c o g)) (y22 (y23 (y2q _ 4) lz)) (show ObjOk X.prog X.w _ h2 _ (.dK (z0v [] ps)) from ⟨y0j hlen2 (y0j hz (by decide)),?_,_,z2c rk .nil,hd⟩),rfl,q _ (I1.hok.fresh (y22 (y23 (y2q _ 4) lz)))⟩
  exact beq_eq_false_iff_ne.mpr (y1j (y04 I1.big (y22 (y23 (y2q _ 4) lz))))
 ·exact q1.elim
end
def zoj (td te:TE):TE:=fun σ H Q=>td σ H λx H1=>∃a,x = .ref a/\IsD H1 a/\te σ H1 λy H2=>∃b kvs more,y = .ref b/\a≠b/\H2 a=some (.dK kvs)/\H2 b=some (.dK more)/\kvs.length+more.length≤1000/\Q .non (upd H2 a (.dK (z3o kvs more)))
section
variable {X:Cx}{o e:Expr}{ah ac:Pos}{td te:TE}
theorem zky (ho:PE X o td)(he:PE X e te)(m:M1 X o "update" ah e ac):PE X (.Call (.Attribute o "update" ah) [e] [] ac) (zoj td te):=by
 intro aa s σ H Q I h;refine wpAny_Call_method m.base m.few m.line y2a y3y PySem.F.type_dict_update (thn (z0f ho aa s σ H _ I ⟨_,h,λ_ _ q=>q⟩) λu s1 ⟨x,H1,I1,rx,a,ex,d,q1⟩=>?_);subst ex;obtain rfl:u=Value.ref a:=rx;obtain⟨t1,t2,_⟩:=z8z I1 d;refine⟨t1,t2,?_⟩;rw[m.trees];refine Calls.callWith_builtin rfl (Calls.evalArgs_plain (Calls.spliced_cons (thn (z0f he aa s1 σ H1 _ I1 ⟨_,q1,λ_ _ q=>q⟩) λiv s2 ⟨y,H2,I2,ry,b,kvs,more,ey,ab,ea,eb,l,q2⟩=>Calls.spliced_nil ?_)));subst ey;obtain rfl:iv=Value.ref b:=ry;obtain⟨z,hd,vs,rel,dd⟩:=zan I2.hok ea;obtain⟨z2,hd2,ws,rel2,dd2⟩:=zan I2.hok eb;refine call_meetsIn y3y dd.typeIs PySem.F.entry_dict_update (PySem.F.args_dict_update_2 _ _) (meets_dict_update (z0d X.prog X.w) a b ab hd2)
  ⟨vs,ws,dd,dd2,by rw[←rel.length,←rel2.length];exact y0j l (by decide),λh' dd' _ hs=>⟨.non,_,?_,rfl,q2⟩⟩
 exact z3t (t':=s2.toks) I2 (by rw[ea];exact True.intro) hs (let ⟨q,_,_,hq,_⟩:=dd';⟨q,hq⟩) (z8l (y0j (z2o more kvs) (y0j l (by decide))) hd (KV.merge rel2 rel) dd')
end
def z39:List Str->List Str:=y5b (λacc k=>if k∈acc then acc else acc ++ [k]) []
theorem z3z (l:List Str)(k:Str):z39 (l ++ [k])=if k∈z39 l then z39 l else z39 l ++ [k]:=by unfold z39;rw[List.foldl_append];rfl
theorem z8r (P:List Str->Prop)(h0:P [])(hs:∀l k,P l->P (l ++ [k]))(l:List Str):P l:=by
 have:∀n (l:List Str),l.length=n->P l:=λn=>by
  induction n with
  | zero=>intro l hl;rw[List.eq_nil_of_length_eq_zero hl];exact h0
  | succ n ih =>
   intro l hl;have hne:l ≠ []:=λz=>by rw[z] at hl;cases hl
   rw[←y37 hne];exact hs _ _ (ih _ (by rw[y4q];omega))
 exact this _ l rfl
theorem z94 {k:Str}(l:List Str):k∈z39 l↔k∈l:=by
 induction l using z8r with
 | h0=>rfl
 | hs l j ih =>
  rw[z3z,y1y]
  split
  ·rename_i z;rw[ih,y0v];exact⟨.inl,λq=>q.elim id λe=>e▸ih.mp (e▸z)⟩
  ·rw[y1y,ih]
theorem zgq (l:List Str):(z39 l).length≤l.length/\((z39 l).length<l.length↔¬l.Nodup):=by
 induction l using z8r with
 | h0=>exact⟨y08 _,by simp[z39]⟩
 | hs l j ih =>
  obtain⟨a,b⟩:=ih;rw[z3z,List.nodup_append,y0k]
  split
  ·rename_i z;refine⟨by simp;omega,λ_ q=>q.2.2 j ((z94 l).mp z) j (y0v.mpr rfl) rfl,λ_=>by simp;omega⟩
  ·rename_i z;refine⟨by simp;omega,λq=>?_,λq=>?_⟩
   ·have:=b.mp (by simp at q;omega)
    exact λw=>this w.1
   ·have:¬l.Nodup:=λw=>q ⟨w,by simp,λx hx y hy e=>z ((z94 l).mpr (by rw[←y0v.mp hy,←e];exact hx))⟩
    have:=b.mpr this;simp;omega
section
variable {prog:Program}{w:World}
theorem z9h {h h':Heap}{S:Addr}{f:Str->Bool}{n:Nat}(x:h.SetOf (strKind prog w) S f n)(k:∀o,h.get? S=some o->h'.get? S=some o):h'.SetOf (strKind prog w) S f n:=by
 obtain⟨o,es,ep,t,ho,r⟩:=x;exact⟨o,es,ep,t,k o ho,r⟩
theorem zec (S it l:Addr)(items:Array Value)(ks:List Str)(hk:∀(j:Nat) k,ks[j]?=some k->∃t,items[j]?=some (.str k t))(hn:items.size=ks.length)(hb:ks.length+1<scanBound)(h1:S≠it)(h2:S≠l)(h3:it≠l)(n:Nat) :
  ∀(i:Nat) (s:Shared) (A:Around) (R:Result->Shared->Prop),ks.length - i=n->i≤ks.length->A.handled=none->s.heap.IsListIter it l i->s.heap.IsList l items ->
   s.heap.SetOf (strKind prog w) S (λk=>decide (k∈z39 (ks.take i))) (z39 (ks.take i)).length ->
   (∀h' tk,h'.SetOf (strKind prog w) S (λk=>decide (k∈z39 ks)) (z39 ks).length->(∀b o,b≠S->b≠it->s.heap.get? b=some o->h'.get? b=some o)->R (.ok (.ret .none)) { s with heap:=h',toks:=tk }) ->
   codeAny (model prog w) A (.builtin "set.update.loop" ⟨[.ref S,.ref it],[]⟩) R s:=by
 induction n with
 | zero =>
  intro i s A R hi hl hA hit hls hS hR;have e:i=ks.length:=by omega
  subst e;refine codeAny_builtin F.entry_set_update_loop ?_;rw[Around.under_plainId F.plain_set_update_loop _];refine wpAny_bind (m:=pyNext (.ref it)) (wpAny_pyNext_list_end (show A.in1.handled=none from hA) hit hls (by simp[hn]) λh' eb=>wpAny_pure ?_)
  rw[y5l] at hS;exact hR h' s.toks (z9h hS λo ho=>eb _ _ h1 ho) λb o _ hb ho=>eb b o hb ho
 | succ n ih =>
  intro i s A R hi hl hA hit hls hS hR;have hlt:i<ks.length:=by omega
  obtain⟨k,hki⟩:∃k,ks[i]?=some k:=⟨_,y02 hlt⟩;obtain⟨t,ht⟩:=hk i k hki;have et:ks.take (i+1)=ks.take i ++ [k]:=by
   obtain⟨y1,y2⟩:=y01.mp hki;rw[List.take_succ,hki];rfl
  refine codeAny_builtin F.entry_set_update_loop ?_;rw[Around.under_plainId F.plain_set_update_loop _];refine wpAny_bind (m:=pyNext (.ref it)) (wpAny_pyNext_list_item hit hls ht λh' hit' sb=>?_);refine wpAny_bind (m:=holding [Value.str k t] (setAdd S (.str k t))) (wpAny_holding ?_);unfold setAdd;have hi':(strKind prog w).is k (.str k t)=true:=by show Value.isStrOf k (.str k t)=true;simp[Value.isStrOf]
  refine wpAny_holding (wpAny_bind ((strKind prog w).pyHash hi' ?_));have hroom:(z39 (ks.take i)).length+1<scanBound:=by
   have:=(zgq (ks.take i)).1;rw[y2b] at this;omega
  refine wpAny_setAddHashed_of (knd:=strKind prog w) (s:={ s with heap:=h',toks:=s.toks+1 }) hi' rfl (z9h hS λo ho=>(sb.2 S h1).trans ho) hroom λh2' hsb hS2=>?_
  have hS3:h2'.SetOf (strKind prog w) S (λj=>decide (j∈z39 (ks.take (i+1)))) (z39 (ks.take (i+1))).length:=by
   rw[et,z3z];refine SetOf_congr hS2 (λj=>?_) ?_
   ·by_cases z:k∈z39 (ks.take i)
    ·rw[if_pos z]
     by_cases y:j=k
     ·subst y;simp[z]
     ·simp[y]
    ·rw[if_neg z];simp[y1y]
   ·by_cases z:k∈z39 (ks.take i)
    ·rw[if_pos z];simp[z]
    ·rw[if_neg z];simp[z]
  have up:∀(b:Addr) o,b≠S->b≠it->s.heap.get? b=some o->h2'.get? b=some o:=λb o b1 b2 ho=>(hsb.2 b b1).trans ((sb.2 b b2).trans ho);exact wpAny_pure ⟨plainId_quiet F.plain_set_update_loop _,ih (i+1) _ A R (by omega) hlt hA (hit'.at λo ho=>(hsb.2 it (Ne.symm h1)).trans ho) (hls.at λo ho=>up l o (Ne.symm h2) (Ne.symm h3) ho) hS3 λh4 tk hS4 k4=>hR h4 tk hS4 λb o b1 b2 ho=>k4 b o b1 b2 (up b o b1 b2 ho)⟩
variable {A:Around}{E:Value->Shared->Prop}{s:Shared}
set_option maxHeartbeats 3200000 in
theorem z4w {l:Addr}{items:Array Value}{ks:List Str}{Q:Value->Shared->Prop}(hh:A.handled=none)(hl:s.heap.IsList l items)(hk:∀(j:Nat) k,ks[j]?=some k->∃t,items[j]?=some (.str k t))(hn:items.size=ks.length)(hb:ks.length+1<scanBound)
  (h:∀(h':Heap) (tk:Nat),h'.SetOf (strKind prog w) s.heap.objs.size (λk=>decide (k∈z39 ks)) (z39 ks).length->(∀b o,s.heap.get? b=some o->h'.get? b=some o)->Q (.ref s.heap.objs.size) { s with heap:=h',toks:=tk }) :
  wpAny (model prog w) A (call (.type "set") [.ref l]) Q E s:=by
 obtain⟨c,tl,hmro⟩:=F.called_set.mro;have g1:=F.called_set.made;have g2:=F.called_set.sub
 have g3:=F.called_set.notType;have g4:=F.called_set.canCreate
 have g5:=F.typeCall_set_1 (.ref l);refine wpAny_call (codeAny_of_tree (?_:wpAny _ _ (callAny (.type "set") _) _ _ _));refine wpAny_pure ⟨Code.quiet_builtin _ (by decide +kernel),codeAny_builtin F.entry_type_call ?_⟩
 rw[Around.under_plain (weight_type_call_type "set" [.ref l] []) rfl]
 repeat (any_goals (first | assumption | wp_step))
 let so:Bool->Obj:=λled=>{ cls:=.type "set",dict:=none,data:=.set #[] 0 (.fresh 0 0 led) }
 refine codeAny_mono (code_set_new_1 (.ref l) (E:=E) (Q₁:=λobj s₁=>∃led:Bool,obj = .ref s.heap.objs.size/\s₁ = { s with heap:=s.heap.push (so led) }) λled=>⟨led,rfl,rfl⟩) λr s₁ hr=>?_
 cases r with
 | error e=>exact hr
 | ok fl =>
  cases fl with
  | ret obj =>
   obtain⟨led,rfl,rfl⟩:=hr;have hS:(s.heap.push (so led)).get? s.heap.objs.size=some (so led):=Heap.get?_push_size _ rfl;have hT:Shared.TypeIs { s with heap:=s.heap.push (so led) } (.ref s.heap.objs.size) "set":=⟨_,hS,rfl⟩
   have g6:=F.called_set.init.lookup;have g7:=F.called_set.init.bind (.ref s.heap.objs.size)
   repeat (any_goals (first | assumption | wp_step))
   refine codeAny_mono (codeAny_call_builtin (R:=wants (λr s₂=>r = .none/\∃h' tk,s₂ = { s with heap:=h',toks:=tk }/\h'.SetOf (strKind prog w) s.heap.objs.size (λk=>decide (k∈z39 ks)) (z39 ks).length/\∀b o,s.heap.get? b=some o->h'.get? b=some o) E) F.called_set.init.plain F.entry_set_init (check_set_init_1 hT ?_)) λr₂ s₂ hr₂=>?_
   ·obtain⟨⟨oc,od,ot,os'⟩,hol,hcl,nl,hdl⟩:=hl;dsimp only at hcl hdl;subst hcl hdl;have low:∀(b:Addr) o,s.heap.get? b=some o->b<s.heap.objs.size:=λb o ho=>Heap.lt_size ho;have hlS:=low _ _ hol
    have hol':(s.heap.push (so led)).get? l=some ⟨.type "list",od,.seq items nl,os'⟩:=Heap.get?_push_of_some _ hol;have z1:=F.sub_list_set
    have z2:=F.sub_list_frozenset;have z3:(Value.type "list"==Value.type "dict")=false:=by decide
    have hl1:(s.heap.push (so led)).IsList l items:=⟨_,hol',rfl,nl,rfl⟩;unfold Builtin.«set.__init__» noKeywords Builtin.Frozenset.updateFrom;generalize hPI:pyIter=PI
    wp_walk
    subst hPI;refine wpAny_pyIter_list hl1 (wpAny_bind (wpAny_runValue ?_));have ez:(s.heap.push (so led)).objs.size=s.heap.objs.size+1:=Heap.size_push ..;have gS:((s.heap.push (so led)).push { cls:=.type "list_iterator",data:=.fields #[.ref l,.int 0 0] }).get? s.heap.objs.size=some (so led):=Heap.get?_push_of_some _ hS
    refine zec s.heap.objs.size (s.heap.push (so led)).objs.size l items ks hk hn hb (by rw[ez];exact y06 (y1a _)) (y1j hlS) (by rw[ez];exact y1j (y2l hlS)) _ 0 _ _ _ rfl (y2s _) (show A.in1.in1.in1.handled=none by simp[hh]) ⟨_,Heap.get?_push_size _ rfl,rfl,rfl⟩ (hl1.push _)
     (SetOf_congr ((setObjOf_fresh (knd:=strKind prog w) led).setOf gS (by unfold scanBound;omega)) (λj=>(decide_eq_false (by simp[z39])).symm) rfl) λh4 tk hS4 k4=>?_
    refine wpAny_pure ?_;show wpAny _ _ (ret Value.none) _ _ _;exact wpAny_pure ⟨rfl,h4,tk,rfl,hS4,λb o ho=>k4 b o (y06 (low _ _ ho)) (by rw[ez];exact y06 (y2l (low _ _ ho))) (Heap.get?_push_of_some _ (Heap.get?_push_of_some _ ho))⟩
   ·cases r₂ with
    | error e=>exact hr₂
    | ok f₂ =>
     cases f₂ with
     | ret r =>
      obtain⟨rfl,h',tk,rfl,hS',hk'⟩:=hr₂
      repeat (any_goals (first | assumption | wp_step))
      exact h _ _ hS' hk'
     | _=>exact hr₂.elim
  | _=>exact hr.elim
end
theorem znw:bootBuiltins "set"=some (.type "set"):=by decide +kernel
section
variable {X:Cx}{l:Expr}{p1 p2 pos aF:Pos}
def zav (K:y00)(t:TE):TE:=fun σ H Q=>t σ H λx H1=>∃a ks,x = .ref a/\SqL K H1 a (ks.map V.str)/\ks.length≤1000/\Q (.int (z39 ks).length) H1
theorem z9c:∀{ks:List Str} {us:List Value},Vals (ks.map V.str) us->us.length=ks.length/\∀(j:Nat) k,ks[j]?=some k->∃t,us[j]?=some (.str k t)
 | [],us,h=>by cases h;exact⟨rfl,λj k z=>by simp at z⟩
 | k::ks,us,h=>by
  cases h with
  | cons a b =>
   obtain⟨e,f⟩:=z9c b;refine⟨by simp[e],λj i hj=>?_⟩
   cases j with
   | zero =>
    cases hj;obtain⟨t,q⟩:=(show ∃t,_=Value.str k t from a)
    exact⟨t,by rw[q];rfl⟩
   | succ j=>exact f j i (by simpa using hj)
theorem zdv {t:TE}(hm:X.mg "len"=none)(hm2:X.mg "set"=none)(h1:PE X l t)(hc:X.calm=true:=by rfl)(hg:Gl X "len":=by rfl)(hg2:Gl X "set":=by rfl)
  (hs0:starEach [.Call (.Name "set" p2) [l] [] aF] X.env = [(false,eval (.Call (.Name "set" p2) [l] [] aF) X.env)]:=by rfl) (hs:starEach [l] X.env = [(false,eval l X.env)]:=by rfl) :
  PE X (.Call (.Name "len" p1) [.Call (.Name "set" p2) [l] [] aF] [] pos) (zav X.K t):=by
 intro aa s σ H Q I h;have ha:PA X [l] _:=z0l (z0f h1) z1w (by rw[hs];rfl)
 refine wpAny_Call_Name_kw (z16 I hg hm (show bootBuiltins "len"=some (.builtin "len") by decide +kernel) (y33 ?_ hs0 rfl))
 rw[hs0];show wpAny _ _ (spliced ((false,_) :: [])) _ _ _;refine Calls.spliced_cons ?_;refine Call_ (z16 I hg2 hm2 znw (y0f (thn (ha aF aa s σ H (λvs H1=>∃a ks,vs = [.ref a]/\SqL X.K H1 a (ks.map V.str)/\ks.length≤1000/\Q (.int (z39 ks).length) H1) I ⟨_,h,λv H1 ⟨a,ks,e,q⟩=>⟨a,ks,by rw[e],q⟩⟩) λus s1 h1=>?_) (by rw[hs];rfl) rfl))
 obtain⟨vs,H1,I1,r1,a,ks,rfl,q1,q2,q3⟩:=h1;obtain⟨u,rfl,rx⟩:=z29 r1;cases rx;obtain⟨its,rv,pl,_⟩:=I1.list q1;obtain⟨e,f⟩:=z9c rv;refine z4w (ks:=ks) (I1.ok.hd hc) pl.isList (λj k hj=>by obtain⟨t,q⟩:=f j k hj;exact⟨t,by simpa using q⟩) (by simpa using e) (by unfold scanBound;omega) λh' tk hS kk=>Calls.spliced_nil ?_
 obtain⟨o,es,ep,t,ho,g1,g2,_,_,g5,g6,g7⟩:=hS;refine call_len_set (s:={ s1 with heap:=h',toks:=tk }) ho g1 g2 g6 (Int.lt_trans (Int.ofNat_lt.mpr g5) (by decide)) ?_
 rw[g7];exact⟨.int (z39 ks).length,H1,I1.kept (t':=tk+1+1) kk,⟨_,rfl⟩,q3⟩
end
end L2.EX
set_option Elab.async false
set_option linter.all false
set_option maxRecDepth 100000
namespace L2.RX
open PySem PySem.Spec PyProof.Rows L2.EX
abbrev Nx:=TH->Nat->Option (Option D)
abbrev RI:=DEn->TH->R Nx
def JN (C:CT)(s:Sx)(J:It)(nx:Nx):Prop:=∀s',Go C s s'->∀i o,nx s'.h i=some o->match o with
 | none=>J.stop i s'.H
 | some d=>J.go i s'.H/\∀x H',J.yld i s'.H x H'->Go C s' ⟨s'.ι,s'.h,H'⟩/\Is C ⟨s'.ι,s'.h,H'⟩ d x
def CI (Z:Ct)(s:Sx)(Q:It->Hp->Prop)(nx:Nx)(h':TH):Prop:=∀{ι H J},Go Z.c s ⟨ι,h',H⟩->JN Z.c ⟨ι,h',H⟩ J nx->Q J H
def SmI (Z:Ct)(t:TI)(f:RI):Prop:=∀{s ρ σ Q},At Z s ρ σ->(f ρ s.h).sat (CI Z s Q) (XK Z)->t σ s.H Q
section
variable {C:CT}{Z:Ct}{s s1:Sx}{d x y:D}{v:V}{ds:List D}{xs:List V}{p a:Addr}{Q:VK}{X:Cx}{ta tb tc:TE}{fa fb fc:RE}{t:TA}{f:RA}{e o tg:Expr}{J:It}{nx:Nx}{tt:TT}{fT:RT}{ts:TS}{fs:RS}{wi:TI}{fi:RI}{g:TG}{fg:RG}
theorem JN.go (j:JN C s J nx)(x:Go C s s1):JN C s1 J nx:=λs' g=>j s' (x.trans g)
noncomputable def nSeq (d:D):Nx:=λh i=>onO (eS h d) λds=>eg ds i
theorem zo5 (q:Is C s d (.ref a)):JN C s (bif z11 d then Itt C.K a else Itl C.K a) (nSeq d):=λs' g i o e=>by
 obtain⟨ds,e1,rfl⟩:=z0t e;obtain⟨b,xs,eb,sq,A⟩:=z20 g.rl (g.is q) e1;cases eb;rw[z0r];cases ht:z11 d with
 | true =>
  rw[ht] at sq;cases hd:ds[i]? with
  | none=>exact⟨xs,sq,by rw[←A.len];exact y0r.mp hd⟩
  | some d' =>
   obtain⟨w,e2,e3⟩:=A.get hd;refine⟨⟨xs,w,sq,e2⟩,λx H' y=>?_⟩;obtain⟨rfl,y⟩:=y;have:=y xs sq;rw[e2] at this;cases this;exact⟨.refl g.rl,e3⟩
 | false =>
  rw[ht] at sq;cases hd:ds[i]? with
  | none=>exact⟨xs,sq,by rw[←A.len];exact y0r.mp hd⟩
  | some d' =>
   obtain⟨w,e2,e3⟩:=A.get hd;refine⟨⟨xs,w,sq,e2⟩,λx H' y=>?_⟩;obtain⟨rfl,y⟩:=y;have:=y xs sq;rw[e2] at this;cases this;exact⟨.refl g.rl,e3⟩
noncomputable def nKs (ks:List Key):Nx:=λ_ i=>some (onO (eg ks i) kd)
theorem zl4 {ks:List Key}{ob:Obj}(e0:cut C s a=some (.frz ob (.dK (ks.zip xs))))(l:ks.length=xs.length):JN C s (Itk a ob (ks.zip xs)) (nKs ks):=λs' g i o e=>by
 cases e;have e1:=z0x _ _ (g.same _ _ e0);have lz:(ks.zip xs).length=ks.length:=by rw[y1h,←l,y2h]
 rw[z0r];cases hk:ks[i]? with
 | none=>exact⟨e1,by rw[lz];exact y0r.mp hk⟩
 | some k =>
  have lt:=(y01.mp hk).1;refine⟨⟨e1,by rw[lz];exact lt⟩,λx H' y=>?_⟩
  obtain⟨rfl,p,hp,rfl⟩:=y;obtain⟨h1,_⟩:=y1p.mp hp;rw[hk] at h1;cases h1;exact⟨.refl g.rl,ziz _⟩
noncomputable def nStr (x:Str):Nx:=λ_ i=>bif y1m i (eln x.cps.toList) then some (onO (eg x.cps.toList i) λc=>.str ⟨⟨[c]⟩⟩) else none
theorem znd (x:Str):JN C s (Its x) (nStr x):=λs' g i o e=>by
 unfold nStr at e;cases hb:y1m i (eln x.cps.toList) with
 | false=>rw[hb] at e;cases e
 | true =>
  rw[hb] at e;cases e;rw[z06] at hb;have hb:=y1i.mp hb;rw[z0r];cases hk:x.cps.toList[i]? with
  | none =>
   have:=y0r.mp hk;show i=x.cps.size;simp at this hb;omega
  | some c =>
   have lt:=(y01.mp hk).1;refine⟨by show i<x.cps.size;simpa using lt,λy H' z=>?_⟩
   obtain⟨rfl,c',hc,rfl⟩:=z;rw[y1r] at hk;rw[hk] at hc;cases hc;exact⟨.refl g.rl,rfl⟩
noncomputable def rIs (fa:RE):RI:=fun ρ h=>(fa ρ h).bnd λx h=>match x with
 | .dic ks _=>.ok (nKs ks) h
 | .str z=>.ok (nStr z) h
 | x=>ofO (eS h x) λ_=>.ok (nSeq x) h
theorem zhg {t u:TI}(h:PI X tg e t)(k:PI X tg e u):PI X tg e (fun σ H Q=>t σ H Q∨u σ H Q):=λaa s σ H Q I q=>q.elim (h aa s σ H Q I) (k aa s σ H Q I)
theorem ri (h:PI X tg e wi)(k:SmI Z wi fi):PI X tg e (fun σ H Q=>∃s ρ,s.H=H/\At Z s ρ σ/\(fi ρ s.h).sat (CI Z s Q) (XK Z)):=znv h fun σ H Q ⟨s,ρ,e,A,q⟩=>by subst e;exact k A q
theorem zov (sa:Sm Z ta fa):SmI Z (fun σ H Q=>zw0 Z.c.K ta σ H Q∨(zno ta σ H Q∨zmu ta σ H Q)) (rIs fa):=λ{s ρ σ Q} A q=>by
 unfold rIs at q;have sa:=@sa s ρ σ;cases e1:fa ρ s.h with
 | no=>rw[e1] at q;exact q.elim
 | ex c h=>rw[e1] at q;exact .inl (sa A (by rw[e1];exact q))
 | ok x h1 =>
  rw[e1] at q sa;simp only[R.bnd] at q
  split at q
  ·refine .inr (.inl (sa A λ{ι H w} g1 i1=>?_));obtain⟨a,ob,xs,rfl,e2,l,B⟩:=i1;exact⟨ob,_,z0x _ _ e2,q g1 (zl4 e2 (by rw[l,DAll.len B]))⟩
  ·refine .inr (.inr (sa A λ{ι H w} g1 i1=>?_));cases (show w=_ from i1)
   exact q g1 (znd _)
  ·obtain⟨ds,e2,q⟩:=q.o;refine .inl (sa A λ{ι H w} g1 i1=>?_);obtain⟨a,xs,rfl,sq,B⟩:=z20 (s:=⟨ι,h1,H⟩) g1.rl i1 e2;have j:=q g1 (zo5 i1);cases ht:z11 x with
   | true=>rw[ht] at sq j;exact .inr ⟨⟨xs,sq⟩,j⟩
   | false=>rw[ht] at sq j;exact .inl ⟨⟨xs,sq⟩,j⟩
noncomputable def nRg (n:Nat):Nx:=λ_ i=>some (bif y16 i n then some (.int (.ofNat i)) else none)
noncomputable def rIr (f:RA):RI:=fun ρ h=>(f ρ h).bnd λxs h=>match xs with
 | [.int (.ofNat n)]=>z18 (y16 n (2^62)) (.ok (nRg n) h)
 | _=>.no
theorem zu8 (k:SmA Z t f):SmI Z (xR1 t) (rIr f):=λA q=>k A <| q.go λxs h1 q0 ι H w g1 i1=>by
 split at q0
 ·rename_i n;obtain⟨eb,q⟩:=q0.i;obtain⟨w,rfl,iw⟩:=i1.single;cases (show w=_ from iw)
  have eb:=y0y.mp eb;refine⟨by simp;omega,q g1 λs' g i o e=>?_⟩
  cases e;cases hb:y16 i n with
  | true=>exact⟨y0y.mp hb,λx H' y=>by
    obtain⟨rfl,rfl⟩:=y;exact⟨.refl g.rl,by show V.int (0+(i:Int))=V.int (i:Int);rw[Int.zero_add]⟩⟩
  | false =>
   show n≤i;have:¬i<n:=λz=>by rw[y0y.mpr z] at hb;cases hb
   omega
 ·exact q0.elim
noncomputable def nEn (d:D):Nx:=λh i=>onO (eS h d) λds=>onO (eg ds i) λx=>.tup [.int (.ofNat i),x]
noncomputable def rIe (fa:RE):RI:=fun ρ h=>(fa ρ h).bnd λx h=>ofO (eS h x) λ_=>z18 (!z11 x) (.ok (nEn x) h)
theorem zjd (sa:Sm Z ta fa):SmI Z (zmo Z.c.K ta) (rIe fa):=λA q=>sa A <| q.go λx h1 q0 ι H w g1 i1=>by
 obtain⟨ds,e2,q1⟩:=q0.o;obtain⟨eb,q⟩:=q1.i;clear q0 q1;have ht:z11 x=false:=by simpa using eb
 obtain⟨a,xs,rfl,sq,B⟩:=z20 (s:=⟨ι,h1,H⟩) g1.rl i1 e2;rw[ht] at sq;refine⟨⟨xs,sq⟩,q g1 λs' g i o e=>?_⟩;obtain⟨ds,e1,rfl⟩:=z0t e;obtain⟨b,xs,eb,sq,A⟩:=z20 g.rl (g.is i1) e1;cases eb;rw[ht] at sq;rw[z0r];cases hd:ds[i]? with
 | none=>exact⟨xs,sq,by rw[←A.len];exact y0r.mp hd⟩
 | some d' =>
  obtain⟨w,e2,e3⟩:=A.get hd;refine⟨⟨xs,w,sq,e2⟩,λx H' y=>?_⟩;obtain⟨p,v,hp,rfl,rfl,y⟩:=y;have:=y xs sq;rw[e2] at this;cases this;exact zet g.rl (ds:=[.int (.ofNat i),_]) (xs:=[.int (i:Int),w]) ⟨_,_,rfl,rfl,DAll.one e3⟩ hp
noncomputable def eZ (h:TH) (i:Nat) (ds:List D):Option (Option (List D)):=y0l (motive:=λ_=>Option (Option (List D))) (some (some [])) (λd _ ih=>match eS h d with
 | none=>none
 | some xs=>match ih with
  | none=>none
  | some none=>some none
  | some (some ys)=>match eg xs i with
   | some x=>some (some (x::ys))
   | none=>some none) ds
theorem z7w {h:TH}{i:Nat}:∀{ds:List D} {ys:List D},eZ h i ds=some (some ys)->ys.length=ds.length/\∀(j:Nat) d,ds[j]?=some d->∃xs x,eS h d=some xs/\xs[i]?=some x/\ys[j]?=some x
 | [],_,e=>by cases e;exact⟨rfl,λj d z=>by simp at z⟩
 | d::ds,ys,e=>by
  replace e:(match eS h d with
   | none=>none
   | some xs=>match eZ h i ds with
    | none=>none
    | some none=>some none
    | some (some ys)=>match eg xs i with
     | some x=>some (some (x::ys))
     | none=>some none)=some (some ys):=e
  split at e
  ·cases e
  ·rename_i xs e1
   split at e
   ·cases e
   ·cases e
   ·rename_i ys e2
    split at e
    ·rename_i x e3;cases e;obtain⟨l,q⟩:=z7w e2;refine⟨by simp[l],λj d' z=>?_⟩
     cases j with
     | zero=>cases z;exact⟨xs,x,e1,by rw[←z0r];exact e3,rfl⟩
     | succ j=>obtain⟨a,b,c1,c2,c3⟩:=q j d' (by simpa using z);exact⟨a,b,c1,c2,by simpa using c3⟩
    ·cases e
theorem zc0 {h:TH}{i:Nat}:∀{ds:List D},eZ h i ds=some none->(∀(j:Nat) d,ds[j]?=some d->∃xs,eS h d=some xs)/\∃(j:Nat) (d:D) (xs:List D),ds[j]?=some d/\eS h d=some xs/\xs.length≤i
 | [],e=>by cases e
 | d::ds,e=>by
  replace e:(match eS h d with
   | none=>none
   | some xs=>match eZ h i ds with
    | none=>none
    | some none=>some none
    | some (some ys)=>match eg xs i with
     | some x=>some (some (x::ys))
     | none=>some none)=some none:=e
  split at e
  ·cases e
  ·rename_i xs e1
   split at e
   ·cases e
   ·rename_i e2;obtain⟨q1,j,d',ys,q2,q3,q4⟩:=zc0 e2;refine⟨λj d' z=>?_,j+1,d',ys,by simpa using q2,q3,q4⟩
    cases j with
    | zero=>cases z;exact⟨xs,e1⟩
    | succ j=>exact q1 j d' (by simpa using z)
   ·rename_i ys e2
    split at e
    ·cases e
    ·rename_i e3;refine⟨λj d' z=>?_,0,d,xs,rfl,e1,?_⟩
     ·cases j with
      | zero=>cases z;exact⟨xs,e1⟩
      | succ j=>obtain⟨a,b,c1,c2,c3⟩:=(z7w e2).2 j d' (by simpa using z);exact⟨a,c1⟩
     ·rw[z0r] at e3;exact y0r.mp e3
noncomputable def nZp (ds:List D):Nx:=λh i=>onO (eZ h i ds) λo=>onO o .tup
def zki (ds:List D)(as:List Addr):List (Bool×Addr):=(ds.map z11).zip as
theorem zia {as:List Addr}(l:ds.length=as.length)(q:∀(j:Nat) d a,ds[j]?=some d->as[j]?=some a->Is C s d (.ref a)):JN C s (Itz C.K (zki ds as)) (nZp ds):=λs' g i o e=>by
 have src:∀(j:Nat) p,(zki ds as)[j]?=some p->∃d,ds[j]?=some d/\as[j]?=some p.2/\p.1=z11 d:=λj p hp=>by
  obtain⟨h1,h2⟩:=y1p.mp hp;rw[y0g] at h1;obtain⟨d,h3,h4⟩:=y1k.mp h1;exact⟨d,h3,h2,h4.symm⟩
 have sq:∀(j:Nat) p d xs,(zki ds as)[j]?=some p->ds[j]?=some d->eS s'.h d=some xs->∃ys,SqS C.K p.1 s'.H p.2 ys/\All C s' xs ys:=λj p d xs hp hd hx=>by
  obtain⟨d',h1,h2,h3⟩:=src j p hp;rw[hd] at h1;cases h1;obtain⟨b,ys,eb,z,A⟩:=z20 g.rl (g.is (q j d p.2 hd h2)) hx;cases eb;refine⟨ys,?_,A⟩;unfold SqS;rw[h3];cases hz:z11 d with
  | true=>rw[hz] at z;exact z
  | false=>rw[hz] at z;exact z
 obtain⟨z,e1,rfl⟩:=z0t e;cases z with
 | none =>
  obtain⟨q1,j,d,xs,q2,q3,q4⟩:=zc0 e1;refine⟨λj p hp=>?_,?_⟩
  ·obtain⟨d,h1,_⟩:=src j p hp;obtain⟨xs,hx⟩:=q1 j d h1;obtain⟨ys,h2,_⟩:=sq j p d xs hp h1 hx;exact⟨ys,h2⟩
  ·have lt:=(y01.mp q2).1;have hp:(zki ds as)[j]?=some (z11 d,as[j]'(l▸lt)):=y1p.mpr ⟨by rw[y0g,q2];rfl,y02 _⟩
   obtain⟨ys,h2,A⟩:=sq j _ d xs hp q2 q3;exact⟨j,_,ys,hp,h2,by rw[←A.len];exact q4⟩
 | some ys =>
  obtain⟨ly,q1⟩:=z7w e1;refine⟨λj p hp=>?_,λx H' y=>?_⟩
  ·obtain⟨d,h1,_⟩:=src j p hp;obtain⟨xs,x,hx,hx2,_⟩:=q1 j d h1;obtain⟨zs,h2,A⟩:=sq j p d xs hp h1 hx;obtain⟨w,e3,_⟩:=A.get hx2;exact⟨zs,w,h2,e3⟩
  ·obtain⟨T,xs,hT,rfl,rfl,lx,y⟩:=y;have ls:(zki ds as).length=ds.length:=by unfold zki;rw[y1h,y0e,←l,y2h]
   refine zet g.rl (ds:=ys) (xs:=xs) (DAll.of_get (by rw[ly,lx,ls]) λj d' hd=>?_) hT
   have lt:=(y01.mp hd).1;rw[ly] at lt;have hd0:ds[j]?=some ds[j]:=y02 lt
   have hp:(zki ds as)[j]?=some (z11 ds[j],as[j]'(l▸lt)):=y1p.mpr ⟨by rw[y0g,hd0];rfl,y02 _⟩
   obtain⟨us,x,hx,hx2,hx3⟩:=q1 j _ hd0;rw[hd] at hx3;cases hx3;obtain⟨ws,h2,A⟩:=sq j _ _ us hp hd0 hx;obtain⟨w,e3,e4⟩:=A.get hx2;exact⟨w,by rw[←y j _ hp ws h2];exact e3,e4⟩
theorem z6r (q:Is C s d v)(R:Rl C s)(e:eS s.h d=some ds):∃a,v = .ref a/\∃xs,SqS C.K (z11 d) s.H a xs:=by
 obtain⟨a,xs,rfl,sq,B⟩:=z20 R q e;refine⟨a,rfl,xs,?_⟩;unfold SqS;cases ht:z11 d with
 | true=>rw[ht] at sq;exact sq
 | false=>rw[ht] at sq;exact sq
noncomputable def rIz (fa fb:RE):RI:=fun ρ h=>(fa ρ h).bnd λx h=>(fb ρ h).bnd λy h=>ofO (eS h x) λ_=>ofO (eS h y) λ_=>.ok (nZp [x,y]) h
theorem zh0 (sa:Sm Z ta fa)(sb:Sm Z tb fb):SmI Z (zsx Z.c.K ta tb) (rIz fa fb):=λA q=>sa A <| q.go λx h1 q _ _ w1 g1 i1=>sb (A.go g1) <| q.go λy h2 q0 ι H w2 g2 i2=>by
 obtain⟨ds,e1,q1⟩:=q0.o;obtain⟨es,e2,q9⟩:=q1.o;clear q0 q1;have i1:=g2.is i1;obtain⟨a,rfl,sx⟩:=z6r (s:=⟨ι,h2,H⟩) i1 g2.rl e1;obtain⟨b,rfl,sy⟩:=z6r (s:=⟨ι,h2,H⟩) i2 g2.rl e2;exact⟨z11 x,z11 y,sx,sy,q9 (g1.trans g2) (zia (as:=[a,b]) rfl λj d c hd hc=>by
  match j with
  | 0=>cases hd;cases hc;exact i1
  | 1=>cases hd;cases hc;exact i2
  | j+2=>simp at hd)⟩
noncomputable def rIz3 (fa fb fc:RE):RI:=fun ρ h=>(fa ρ h).bnd λx h=>(fb ρ h).bnd λy h=>(fc ρ h).bnd λz h=>ofO (eS h x) λ_=>ofO (eS h y) λ_=>ofO (eS h z) λ_=>.ok (nZp [x,y,z]) h
theorem zlh (sa:Sm Z ta fa)(sb:Sm Z tb fb)(sc:Sm Z tc fc):SmI Z (zol Z.c.K ta tb tc) (rIz3 fa fb fc):=λA q=>sa A <| q.go λx h1 q _ _ w1 g1 i1=>sb (A.go g1) <| q.go λy h2 q _ _ w2 g2 i2=>sc (A.go (g1.trans g2)) <| q.go λz h3 q0 ι H w3 g3 i3=>by
 obtain⟨ds,e1,q1⟩:=q0.o;obtain⟨es,e2,q2⟩:=q1.o;obtain⟨us,e3,q9⟩:=q2.o;clear q0 q1 q2;have i1:=g3.is (g2.is i1);have i2:=g3.is i2
 obtain⟨a,rfl,sx⟩:=z6r (s:=⟨ι,h3,H⟩) i1 g3.rl e1;obtain⟨b,rfl,sy⟩:=z6r (s:=⟨ι,h3,H⟩) i2 g3.rl e2;obtain⟨c,rfl,sz⟩:=z6r (s:=⟨ι,h3,H⟩) i3 g3.rl e3;exact⟨z11 x,z11 y,z11 z,sx,sy,sz,q9 (g1.trans (g2.trans g3)) (zia (as:=[a,b,c]) rfl λj d c hd hc=>by
  match j with
  | 0=>cases hd;cases hc;exact i1
  | 1=>cases hd;cases hc;exact i2
  | 2=>cases hd;cases hc;exact i3
  | j+3=>simp at hd)⟩
noncomputable def rGo (nx:Nx) (fg:RG) (fs:RS) (m:Nat):Nat->RS:=y36 (motive:=λ_=>Nat->RS) (λ_ _ _=>.no) (λ_ ih i ρ h=>match nx h i with
 | some none=>.ok (.nx ρ) h
 | some (some d)=>ofO (fg d ρ) fun ρ=>(fs ρ h).bnd λx h=>match x with
  | .nx ρ=>ih (y3n i) ρ h
  | .rt v=>.ok (.rt v) h
 | none=>.no) m
theorem z9a {m i:Nat}{ρ:DEn}{h:TH}:rGo nx fg fs (m+1) i ρ h=match nx h i with
 | some none=>.ok (.nx ρ) h
 | some (some d)=>ofO (fg d ρ) fun ρ=>(fs ρ h).bnd λx h=>match x with
  | .nx ρ=>rGo nx fg fs m (i+1) ρ h
  | .rt v=>.ok (.rt v) h
 | none=>.no:=rfl
noncomputable def rFor (fi:RI) (fg:RG) (fs:RS):RS:=fun ρ h=>(fi ρ h).bnd λnx h=>rGo nx fg fs 1000 0 ρ h
theorem zpe (si:SmI Z wi fi)(sg:SmG Z g fg)(sb:SmS Z ts fs):SmS Z (zx0 wi g ts) (rFor fi fg fs):=λ{s ρ σ E} A q=>si A <| q.go λnx h1 q ι1 H1 J g1 j1=>by
 refine⟨λi m σ H=>∃s' ρ,s'.H=H/\At Z s' ρ σ/\JN Z.c s' J nx/\(rGo nx fg fs m i ρ s'.h).sat (CF Z s' E) (XK Z),⟨1000,⟨ι1,h1,H1⟩,ρ,rfl,A.go g1,j1,q.mono λ_ _ q=>q.go g1⟩,?_⟩;rintro i m σ _ ⟨s',ρ,rfl,A,j,q⟩;cases m with
 | zero=>exact q.elim
 | succ m =>
  rw[z9a] at q
  split at q
  ·rename_i e2;exact .inl ⟨j s' (.refl A.g.rl) i none e2,q (ι:=s'.ι) (H:=s'.H) (.refl A.g.rl) A.en⟩
  ·rename_i d e2;obtain⟨ρ1,e3,q⟩:=q.o;obtain⟨go,y⟩:=j s' (.refl A.g.rl) i (some d) e2;refine .inr ⟨go,fun σ' H'=>∃s' ρ,s'.H=H'/\At Z s' ρ σ'/\JN Z.c s' J nx/\(rGo nx fg fs m (i+1) ρ s'.h).sat (CF Z s' E) (XK Z),fun σ' H' w=>⟨m,y1a _,w⟩,λx H' hy=>?_⟩;obtain⟨g2,i2⟩:=y x H' hy;refine sg (s:=⟨s'.ι,s'.h,H'⟩) (A.go g2) i2 e3 λE2=>?_;refine sb (s:=⟨s'.ι,s'.h,H'⟩) ⟨A.g.trans g2,E2⟩ <| q.go λf h3 q ι3 H3 g3=>?_
   cases f with
   | nx ρ2=>exact λE3=>⟨⟨ι3,h3,H3⟩,ρ2,rfl,⟨(A.g.trans g2).trans g3,E3⟩,(j.go g2).go g3,R.sat.mono q λ_ _ q=>q.go (g2.trans g3)⟩
   | rt v=>exact q (g2.trans g3)
  ·exact q.elim
noncomputable def rWh (fT:RT) (fs:RS) (m:Nat):RS:=y36 (motive:=λ_=>RS) (λ_ _=>.no) (λ_ ih ρ h=>(fT ρ h).bnd λb h=>bif b then (fs ρ h).bnd λx h=>match x with
  | .nx ρ=>ih ρ h
  | .rt v=>.ok (.rt v) h
 else .ok (.nx ρ) h) m
theorem zeb {m:Nat}{ρ:DEn}{h:TH}:rWh fT fs (m+1) ρ h=(fT ρ h).bnd λb h=>bif b then (fs ρ h).bnd λx h=>match x with
  | .nx ρ=>rWh fT fs m ρ h
  | .rt v=>.ok (.rt v) h
 else .ok (.nx ρ) h:=rfl
theorem zpm (m:Nat)(sT:SmT Z tt fT)(sb:SmS Z ts fs):SmS Z (z83 tt ts) (rWh fT fs m):=λ{s ρ σ E} A q=>by
 refine⟨λm σ H=>∃s' ρ,s'.H=H/\At Z s' ρ σ/\(rWh fT fs m ρ s'.h).sat (CF Z s' E) (XK Z),⟨m,s,ρ,rfl,A,q⟩,?_⟩;rintro m σ _ ⟨s',ρ,rfl,A,q⟩;cases m with
 | zero=>exact q.elim
 | succ m =>
  rw[zeb] at q;refine sT A <| q.go λb h1 q ι1 H1 g1=>?_
  cases b with
  | false=>rw[if_neg (by decide)];exact q g1 (A.en.go g1)
  | true =>
   rw[if_pos rfl];refine sb (A.go g1) <| R.sat.go q λf h3 q ι3 H3 g3=>?_
   cases f with
   | nx ρ2=>exact λE3=>⟨m,y1a _,⟨ι3,h3,H3⟩,ρ2,rfl,⟨(A.g.trans g1).trans g3,E3⟩,R.sat.mono q λ_ _ q=>q.go (g1.trans g3)⟩
   | rt v=>exact q (g1.trans g3)
open Classical in
noncomputable def rWhile (w:Option Nat) (fT:RT) (fs:RS):RS:=fun ρ h=>match w with
 | some m=>rWh fT fs m ρ h
 | none=>if k:∃m,rWh fT fs m ρ h ≠ .no then rWh fT fs k.choose ρ h else .no
theorem zf6 {w:Option Nat}(sT:SmT Z tt fT)(sb:SmS Z ts fs):SmS Z (z83 tt ts) (rWhile w fT fs):=λ{s ρ σ E} A q=>by
 unfold rWhile at q
 split at q
 ·exact zpm _ sT sb A q
 ·split at q
  ·exact zpm _ sT sb A q
  ·exact q.elim
def R.nox {α:Type}(r:R α):R α:=match r with
 | .ok a h=>.ok a h
 | _=>.no
def Ct.nox (Z:Ct):Ct:=⟨Z.c,Z.b,λ_ _=>False⟩
theorem R.sat.unx {α:Type}{r:R α}{P:α->TH->Prop}{E E':Nat->TH->Prop}(q:r.nox.sat P E):r.sat P E':=by
 cases r with
 | ok a h=>exact q
 | ex c h=>exact q.elim
 | no=>exact q.elim
theorem R.sat.unb {α β:Type}{r:R α}{k:α->TH->R β}{P:β->TH->Prop}{E:Nat->TH->Prop}(q:r.sat (λa h=>(k a h).sat P E) E):(r.bnd k).sat P E:=by cases r<;>exact q
noncomputable def rCg (nx:Nx) (fg:RG) (fT:RT) (fa:RE) (ρ:DEn) (m:Nat):Nat->TH->R (List D):=y36 (motive:=λ_=>Nat->TH->R (List D)) (λ_ _=>.no) (λ_ ih i h=>match nx h i with
 | some none=>.ok [] h
 | some (some d)=>ofO (fg d ρ) fun ρ=>(fT ρ h).nox.bnd λb h=>bif b then (fa ρ h).nox.bnd λy h=>(ih (y3n i) h).bnd λys h=>.ok (y::ys) h else ih (y3n i) h
 | none=>.no) m
theorem z9k {m i:Nat}{ρ:DEn}{h:TH}:rCg nx fg fT fa ρ (m+1) i h=match nx h i with
 | some none=>.ok [] h
 | some (some d)=>ofO (fg d ρ) fun ρ'=>(fT ρ' h).nox.bnd λb h=>bif b then (fa ρ' h).nox.bnd λy h=>(rCg nx fg fT fa ρ m (i+1) h).bnd λys h=>.ok (y::ys) h else rCg nx fg fT fa ρ m (i+1) h
 | none=>.no:=rfl
noncomputable def eFr (ρ:DEn) (fr:List Nat):DEn:=y0l (motive:=λ_=>DEn) [] (λj _ ih=>(match eg ρ j with
  | some v=>v
  | none=>none)::ih) fr
theorem z92 {ρ:DEn}{j:Nat}{js:List Nat}:eFr ρ (j::js)=(match ρ[j]? with
  | some v=>v
  | none=>none)::eFr ρ js:=by rw[←z0r];rfl
noncomputable def rComp (m:Bool) (fi:RI) (n:Nat) (fr:List Nat) (fg:RG) (fT:RT) (fa:RE):RE:=fun ρ h=>(fi ρ h).bnd λnx h=>(rCg nx fg fT fa (y0b n none++eFr ρ fr) 1000 0 h).bnd λys h=>mk m ys h
theorem zu0 (E:En C s ρ σ)(n:Nat)(fr:List Nat):En C s (y0b n none++eFr ρ fr) (y0b n none++fr.map (sg σ)):=by
 have l:∀fr:List Nat,(eFr ρ fr).length=fr.length:=λfr=>by induction fr with
  | nil=>rfl
  | cons j js ih=>rw[z92];simp[ih]
 have g:∀(fr:List Nat) (i:Nat) d,(eFr ρ fr)[i]?=some (some d)->∃v,(fr.map (sg σ))[i]?=some (some v)/\Is C s d v:=λfr=>by
  induction fr with
  | nil=>intro i d e;simp[eFr] at e
  | cons j js ih =>
   intro i d e;rw[z92] at e;cases i with
   | zero =>
    simp only[List.getElem?_cons_zero,Option.some.injEq] at e
    split at e
    ·rename_i v e1;subst e;obtain⟨v,h1,h2⟩:=E.is j d e1;exact⟨v,by simp[zj2 h1],h2⟩
    ·cases e
   | succ i=>obtain⟨v,h1,h2⟩:=ih i d (by simpa using e);exact⟨v,by simpa using h1,h2⟩
 refine⟨by simp[l],λi d e=>?_⟩
 rw[y4r,y2e] at e ⊢
 split at e
 ·rename_i z;rw[List.getElem?_replicate_of_lt z] at e;cases e
 ·rename_i z;rw[if_neg z];exact g fr _ d e
theorem z5t {m:Bool}(n:Nat)(fr:List Nat)(si:SmI Z wi fi)(sg:SmG Z.nox g fg)(sT:SmT Z.nox tt fT)(sa:Sm Z.nox ta fa):Sm Z (z7g wi n fr g tt ta) (rComp m fi n fr fg fT fa):=λ{s ρ σ Q} A q=>si A <| q.go λnx h1 q ι1 H1 J g1 j1=>by
 refine⟨λi k ys H=>∃s' acc,s'.H=H/\At Z s' (y0b n none++eFr ρ fr) (y0b n none++fr.map (EX.sg σ))/\JN Z.c s' J nx/\All Z.c s' acc ys/\acc.length≤i/\i+k≤1000 /\
  ((rCg nx fg fT fa (y0b n none++eFr ρ fr) k i s'.h).bnd λrest h=>mk m (acc++rest) h).sat (CK Z s' Q) (XK Z),
  ⟨1000,⟨ι1,h1,H1⟩,[],rfl,⟨(A.go g1).g,zu0 (A.go g1).en n fr⟩,j1,rfl,y08 _,by decide,R.sat.mono q λ_ _ q=>q.go g1⟩,?_⟩
 rintro i k ys _ ⟨s',acc,rfl,A,j,B,la,lm,q⟩;have ly:=B.len;have sz:(1000:Nat)≤sizeLine:=by decide
 cases k with
 | zero=>exact q.elim
 | succ k =>
  rw[z9k] at q
  split at q
  ·rename_i e2;refine .inl ⟨j s' (.refl A.g.rl) i none e2,by omega,λl hl=>?_⟩
   have q:(mk m (acc ++ []) s'.h).sat (CK Z s' Q) (XK Z):=q;rw[y1z] at q;exact z4z A.g.rl B q hl
  ·rename_i d e2;cases e3:fg d (y0b n none++eFr ρ fr) with
   | none=>rw[e3] at q;exact q.elim
   | some ρ1 =>
    rw[e3] at q;obtain⟨go,y⟩:=j s' (.refl A.g.rl) i (some d) e2;refine .inr ⟨go,by omega,λx H' hy=>?_⟩
    obtain⟨g2,i2⟩:=y x H' hy;refine sg (s:=⟨s'.ι,s'.h,H'⟩) ⟨A.g.trans g2,A.en.go g2⟩ i2 e3 λE2=>?_;have A2:At Z.nox ⟨s'.ι,s'.h,H'⟩ ρ1 _:=⟨A.g.trans g2,E2⟩;refine sT A2 (R.sat.unx (R.sat.mono (R.sat.bnd (R.sat.bnd q)) λb h3 q ι3 H3 g3=>?_));cases b with
    | false =>
     rw[if_neg (by decide)]
     have gg:=g2.trans g3;exact⟨k,y1a _,⟨ι3,h3,H3⟩,acc,rfl,A.go gg,j.go gg,gg.all B,by omega,by omega,R.sat.mono (R.sat.unb q) λ_ _ q=>q.go gg⟩
    | true =>
     rw[if_pos rfl];refine sa (A2.go g3) (R.sat.unx (R.sat.mono (R.sat.bnd q) λy h4 q ι4 H4 w4 g4 i4=>?_));have gg:=g2.trans (g3.trans g4);refine⟨k,y1a _,⟨ι4,h4,H4⟩,acc ++ [y],rfl,A.go gg,j.go gg,(DAll.one i4).app (gg.all B),by simp;omega,by omega,?_⟩
     refine R.sat.unb (R.sat.mono (R.sat.bnd q) λys h5 q=>?_);have q:(mk m (acc++y::ys) h5).sat (CK Z s' Q) (XK Z):=q;rw[y32];exact q.mono λ_ _ q=>q.go gg
  ·exact q.elim
end
end L2.RX
set_option Elab.async false
set_option linter.all false
set_option maxRecDepth 100000
namespace L2.RX
open PySem PySem.Spec PyProof.Rows L2.EX
def CXg (P:Program)(w:World):CXT:=λouter H s E e s'=>∃a t B C H',e = .ref a/\s'.os=s.os/\AllBare s'.gens/\Heap.FlyingW B outer a (.ref C) t s'.heap/\s.heap.get? a=none/\H' a=none/\E (.ref C) none H' /\
 ∀h3:Heap,B.StaysIn h3->s'.heap.UpToSlots h3->Un (frs outer) [] H H' s.heap h3/\HOk P w H' h3
def spR (C:CT)(ev:List D->TH->R D):Sp:=λvs H Q E=>∃s ds,s.H=H/\Rl C s/\All C s ds vs/\(ev ds s.h).sat (λv h'=>∀{ι H' w},Go C s ⟨ι,h',H'⟩->Is C ⟨ι,h',H'⟩ v w->Q w H') (λc h'=>∀{ι H'},Go C s ⟨ι,h',H'⟩->E (.ref (C.xc c)) none H')
structure XW (X:Cx)(Z:Ct):Prop where
 made:∀aa σ (s1:Sx) s h' a us c,Inv X aa σ s1.H s->Go Z.c Z.b s1->Z.W c s1->Heap.MadeExcOf s.heap h' a (.ref (Z.c.xc c)) us->X.xe (.ref a) { s with heap:=h' }
 pass:∀aa σ H1 s (E:L2.XK) e s',Inv X aa σ H1 s->(∀C H',E (.ref C) none H'->∃c s2,C=Z.c.xc c/\s2.H=H'/\Go Z.c Z.b s2/\Z.W c s2)->CXg X.prog X.w X.stack H1 s E e s'->X.xe e s'
theorem XW.none {X:Cx}{Z:Ct}:XW X Z.nox:=⟨λ_ _ _ _ _ _ _ _ _ _ h=>h.elim,λ_ _ _ _ _ _ _ _ h ⟨_,_,_,C,H',_,_,_,_,_,_,z,_⟩=>let ⟨_,_,_,_,_,f⟩:=h C H' z;f.elim⟩
structure Bg where
 P:Program
 w:World
 K:y00
 mg:Str->Option Value
 base:Heap
abbrev _root_.L2.Cx.bg (X:Cx):Bg:=⟨X.prog,X.w,X.K,X.mg,X.base⟩
structure RDef (B:Bg)(C:CT)(x:Str)(k:Nat)(ps:List Str)(ev:List D->TH->R D):Prop where
 is:∃(f:Addr) (fd:FuncData),FnOk B.P B.w B.K B.mg B.base (CXg B.P B.w) k f fd ps (spR C ev)/\Binds B.K fd ps []/\B.mg x=some (.ref f)/\y0w B.K (.ref f)=true
structure RMet (B:Bg)(C:CT)(c:Nat)(m:Str)(k:Nat)(ps:List Str)(ev:List D->TH->R D):Prop where
 is:∃(f:Addr) (fd:FuncData),FnOk B.P B.w B.K B.mg B.base (CXg B.P B.w) k f fd ps (spR C ev)/\Binds B.K fd ps []/\Meth B.K (C.cl c) m f
 cl:Cls B.K (C.cl c)
structure RCls (B:Bg)(C:CT)(x:Str)(c:Nat)(k:Nat)(ps:List Str)(ev:List D->TH->R D):Prop where
 is:∃(f:Addr) (fd:FuncData),FnOk B.P B.w B.K B.mg B.base (CXg B.P B.w) k f fd ps (spR C ev)/\Binds B.K fd ps []/\Mk B.K (C.cl c) f
 mg:B.mg x=some (.ref (C.cl c))
section
variable {X:Cx}{Z:Ct}{k c:Nat}{f:Addr}{fd:FuncData}{ps:List Str}{ev:List D->TH->R D}{x m:Str}{p pos ah:Pos}{e o:Expr}{es:List Expr}{fa:RE}{fA:RA}{s:Sx}{aa:List (Addr×Obj)}{σ:St}{s':Shared}{Q:VK}{us:List Value}{vs:List V}{ds:List D}
theorem zji (F:FnOk X.prog X.w X.K X.mg X.base (CXg X.prog X.w) k f fd ps (spR Z.c ev))(hr:Room k X.A)(hb:Binds X.K fd ps [])(xw:XW X Z)(I:Inv X aa σ s.H s')(g:Go Z.c Z.b s)(r:Vals vs us)(al:All Z.c s ds vs)(q:(ev ds s.h).sat (CK Z s Q) (XK Z)) :
  wpAny (model X.prog X.w) X.A (call (.ref f) us) (EP X aa σ Q) X.xe s':=by
 have hs:spR Z.c ev vs s.H Q (λC _ H'=>∃c s2,C = .ref (Z.c.xc c)/\s2.H=H'/\Go Z.c s s2/\Z.W c s2):=by
  refine⟨s,ds,rfl,g.rl,al,?_⟩;cases e:ev ds s.h with
  | ok v h'=>rw[e] at q;exact q
  | ex c h'=>rw[e] at q;exact λ{ι H'} go=>⟨c,⟨ι,h',H'⟩,rfl,rfl,go,q (g.trans go)⟩
  | no=>rw[e] at q;exact q
 have hl:us.length=ps.length:=by rw[←r.length];exact F.len _ _ _ _ hs
 refine wpAny_call (codeAny_mono (F.run X.A X.stack s' s.H ⟨us,[]⟩ us vs Q _ hr I.env0 (by
  have z:=hb s' us I.kIn (by rw[y1z];exact hl)
  rw[y1z] at z;exact z) r hs) λr s2 hq=>?_)
 cases r with
 | error e=>exact xw.pass aa σ s.H s' (λC _ H'=>∃c s2,C = .ref (Z.c.xc c)/\s2.H=H'/\Go Z.c s s2/\Z.W c s2) e s2 I (λC H' ⟨c,s3,e1,e2,n,w⟩=>by cases e1;exact⟨c,s3,rfl,e2,g.trans n,w⟩) hq
 | ok fl =>
  cases fl with
  | ret u=>exact I.after hq
  | next=>exact False.elim hq
  | brk=>exact False.elim hq
  | cont=>exact False.elim hq
theorem zre (F:RDef X.bg Z.c x k ps ev)(hr:Room k X.A)(xw:XW X Z)(ha:PA X (e::es) (xA Z fA))(hg:Gl X x)(hdb:(x==("__debug__":Str))=false)
  (he:starEach (e::es) X.env=(false,eval e X.env)::starEach es X.env) (hpl:(backTo pos (starEach es X.env)).any (·.1)=false):PE X (.Call (.Name x p) (e::es) [] pos) (xR Z (rCB ev fA)):=by
 intro aa s' σ H Q I ⟨s,ρ,eH,A,q⟩;subst eH;obtain⟨f,fd,F,hb,hm,hk⟩:=F.is;refine wpAny_Call_Name_kw (z2a I hg hm ?_ hdb);refine y2x (h₀:=X.base) I.ok.mod.kin hk (thn (ha pos aa s' σ s.H (λvs H1=>∃s1 ds,s1.H=H1/\Go Z.c s s1/\All Z.c s1 ds vs/\(ev ds s1.h).sat (CK Z s1 Q) (XK Z)) I ⟨s,ρ,rfl,A,q.go λds h1 q ι1 H1 vs g1 i1=>⟨⟨ι1,h1,H1⟩,ds,rfl,g1,i1,q.mono λ_ _ q=>q.go g1⟩⟩) λus s1 h1=>?_) he hpl;obtain⟨vs,H1,I1,r,s1,ds,eH,g1,i1,q1⟩:=h1;subst eH;exact⟨I1.kIn,zji F hr hb xw I1 (A.g.trans g1) r i1 q1⟩
noncomputable def rMeth (c:Nat) (ev:List D->TH->R D) (fa:RE) (f:RA):RE:=fun ρ h=>(fa ρ h).bnd λx h=>ofO (eMi c h x) λ_=>(f ρ h).bnd λxs h=>ev (x::xs) h
theorem zro {pl:Sem Bool}(F:RMet X.bg Z.c c m k ps ev)(hr:Room k X.A)(xw:XW X Z)(hm:m ∉ Z.c.nm c)(he:PE X o (xR Z fa))(ha:PA X (e::es) (xA Z fA))
  (hst:starEach (e::es) X.env=(false,eval e X.env)::starEach es X.env) (hpl:(backTo pos (starEach es X.env)).any (·.1)=false)
  (ht:eval (.Call (.Attribute o m ah) (e::es) [] pos) X.env=(do
   let ov ←eval o X.env
   standAt ah.atName
   let (f,first) ←holding [ov] (getMethod ov m pl)
   callWith pos f first (backTo pos (starEach (e::es) X.env)) (backToKw pos (keywordEach [] X.env)))):PE X (.Call (.Attribute o m ah) (e::es) [] pos) (xR Z (rMeth c ev fa fA)):=by
 intro aa s' σ H Q I ⟨s,ρ,eH,A,q⟩;subst eH;obtain⟨f,fd,G,hb,hmt⟩:=F.is;refine y4n (pl:=pl) (thn (he aa s' σ s.H (λx H1=>∃s1 i a dx xs,s1.H=H1/\x = .ref a/\Go Z.c s s1/\s1.H a=some (.ins (Z.c.cl c) dx ((Z.c.nm c).zip xs))/\Is Z.c s1 (.at i) (.ref a)/\((fA ρ s1.h).bnd λxs h=>ev (.at i::xs) h).sat (CK Z s1 Q) (XK Z)) I ⟨s,ρ,rfl,A,q.go λx h1 q0 ι1 H1 w g1 i1=>by
  obtain⟨⟨i,ds⟩,e1,q1⟩:=q0.o;obtain⟨rfl,a,dx,xs,rfl,ei,li,e3,B⟩:=z6n (s:=⟨ι1,h1,H1⟩) g1.rl i1 e1;exact⟨⟨ι1,h1,H1⟩,i,a,dx,xs,rfl,rfl,g1,e3,i1,q1.mono λ_ _ q=>q.go g1⟩⟩) λu s1 h1=>?_) ht
 obtain⟨_,H1,I1,rx,s1,i,a,dx,xs,eH,rfl,g1,e3,i1,q1⟩:=h1;subst eH;obtain rfl:u=Value.ref a:=rx;refine z57 I1 e3 F.cl hmt (z66 hm) ?_;refine y2x (first:=[.ref a]) (h₀:=X.base) I.ok.mod.kin hmt.kp (thn (ha pos aa _ σ s1.H (λvs H2=>∃s2 ds,s2.H=H2/\Go Z.c s1 s2/\All Z.c s2 ds vs/\(ev (.at i::ds) s2.h).sat (CK Z s2 Q) (XK Z)) I1 ⟨s1,ρ,rfl,A.go g1,q1.go λds h2 q ι2 H2 vs g2 i2=>⟨⟨ι2,h2,H2⟩,ds,rfl,g2,i2,q.mono λ_ _ q=>q.go g2⟩⟩) λus s2 h2=>?_) hst hpl
 obtain⟨vs,H2,I2,r,s2,ds,eH,g2,i2,q2⟩:=h2;subst eH;exact⟨I2.kIn,zji (us:=.ref a::us) (vs:=.ref a::vs) (ds:=.at i::ds) G hr hb xw I2 ((A.g.trans g1).trans g2) (.cons rfl r) ⟨_,_,rfl,g2.is i1,i2⟩ q2⟩
theorem zla {pl:Sem Bool}(F:RMet X.bg Z.c c m k ps ev)(hr:Room k X.A)(xw:XW X Z)(hm:m ∉ Z.c.nm c)(he:PE X o (xR Z fa))
  (ht:eval (.Call (.Attribute o m ah) [] [] pos) X.env=(do
   let ov ←eval o X.env
   standAt ah.atName
   let (f,first) ←holding [ov] (getMethod ov m pl)
   callWith pos f first (backTo pos (starEach [] X.env)) (backToKw pos (keywordEach [] X.env)))):PE X (.Call (.Attribute o m ah) [] [] pos) (xR Z (rMeth c ev fa z01)):=by
 intro aa s' σ H Q I ⟨s,ρ,eH,A,q⟩;subst eH;obtain⟨f,fd,G,hb,hmt⟩:=F.is;refine y4n (pl:=pl) (thn (he aa s' σ s.H (λx H1=>∃s1 i a dx xs,s1.H=H1/\x = .ref a/\Go Z.c s s1/\s1.H a=some (.ins (Z.c.cl c) dx ((Z.c.nm c).zip xs))/\Is Z.c s1 (.at i) (.ref a)/\(ev [.at i] s1.h).sat (CK Z s1 Q) (XK Z)) I ⟨s,ρ,rfl,A,q.go λx h1 q0 ι1 H1 w g1 i1=>by
  obtain⟨⟨i,ds⟩,e1,q1⟩:=q0.o;obtain⟨rfl,a,dx,xs,rfl,ei,li,e3,B⟩:=z6n (s:=⟨ι1,h1,H1⟩) g1.rl i1 e1;exact⟨⟨ι1,h1,H1⟩,i,a,dx,xs,rfl,rfl,g1,e3,i1,R.sat.mono q1 λ_ _ q=>q.go g1⟩⟩) λu s1 h1=>?_) ht
 obtain⟨_,H1,I1,rx,s1,i,a,dx,xs,eH,rfl,g1,e3,i1,q1⟩:=h1;subst eH;obtain rfl:u=Value.ref a:=rx;refine z57 I1 e3 F.cl hmt (z66 hm) ?_;exact y4z (first:=[.ref a]) I1.kIn hmt.kp (zji (us:=[.ref a]) (vs:=[.ref a]) (ds:=[.at i]) G hr hb xw I1 (A.g.trans g1) (.cons rfl .nil) ⟨_,_,rfl,i1,rfl⟩ q1)
noncomputable def gMake (c:Nat) (ev:List D->TH->R D) (xs:List D) (h:TH):R D:=(ev (.at (hn h)::xs) (hp h (.mi c []))).nox.bnd λv h'=>match v with
 | .non=>.ok (.at (hn h)) h'
 | _=>.no
theorem znc (M:Mk X.K (Z.c.cl c) f)(F:FnOk X.prog X.w X.K X.mg X.base (CXg X.prog X.w) k f fd ps (spR Z.c ev))(hr:Room (k+1) X.A)(hb:Binds X.K fd ps [])(I:Inv X aa σ s.H s')(R0:Rl Z.c s)(r:Vals vs us)(al:All Z.c s ds vs)(q:(gMake c ev ds s.h).sat (CK Z s Q) (XK Z)) :
  wpAny (model X.prog X.w) X.A (call (.ref (Z.c.cl c)) us) (EP X aa σ Q) X.xe s':=by
 have hx:s.H (s'.heap.objs.size+1)=none:=I.hok.fresh (y3d _);have hd:s.H s'.heap.objs.size=none:=I.hok.fresh (y08 _)
 have ne:s'.heap.objs.size≠s'.heap.objs.size+1:=y06 (y1a _);obtain⟨g1,_⟩:=R0.imm hd (.own (s'.heap.objs.size+1));have hx1:upd s.H (s'.heap.objs.size) (.own (s'.heap.objs.size+1)) (s'.heap.objs.size+1)=none:=by rw[z04 ne.symm];exact hx
 have g2:Go Z.c ⟨s.ι,s.h,upd s.H (s'.heap.objs.size) (.own (s'.heap.objs.size+1))⟩ ⟨s.ι ++ [(s'.heap.objs.size+1)],hp s.h (.mi c []),upd (upd s.H (s'.heap.objs.size) (.own (s'.heap.objs.size+1))) (s'.heap.objs.size+1) (.ins (Z.c.cl c) (s'.heap.objs.size) [])⟩:=by
  rw[zda];exact g1.rl.mut hx1 (t:=.mi c []) (u:=.ins (Z.c.cl c) (s'.heap.objs.size) []) (by intro z;cases z) ⟨(s'.heap.objs.size),[],by rw[z08,List.zip_nil_right],rfl⟩
 have g12:=g1.trans g2;have I2:=Inv.made (C:=Z.c.cl c) I
 have r2:Vals (V.ref (s'.heap.objs.size+1)::vs) (Value.ref (s'.heap.objs.size+1)::us):=.cons rfl r;have ix:Is Z.c ⟨s.ι ++ [(s'.heap.objs.size+1)],hp s.h (.mi c []),upd (upd s.H (s'.heap.objs.size) (.own (s'.heap.objs.size+1))) (s'.heap.objs.size+1) (.ins (Z.c.cl c) (s'.heap.objs.size) [])⟩ (.at (hn s.h)) (.ref (s'.heap.objs.size+1)):=⟨(s'.heap.objs.size+1),z74 R0,rfl⟩
 have hs:spR Z.c ev (V.ref (s'.heap.objs.size+1)::vs) (upd (upd s.H (s'.heap.objs.size) (.own (s'.heap.objs.size+1))) (s'.heap.objs.size+1) (.ins (Z.c.cl c) (s'.heap.objs.size) [])) (λv H2=>v = .non/\Q (.ref (s'.heap.objs.size+1)) H2) (λ_ _ _=>False):=by
  refine⟨_,.at (hn s.h)::ds,rfl,g2.rl,⟨_,_,rfl,ix,g12.all al⟩,R.sat.unx (R.sat.mono (R.sat.bnd q) λv h3 q ι3 H3 w3 g3 i3=>?_)⟩;cases v with
  | non=>exact⟨i3,q (g12.trans g3) (g3.is ix)⟩
  | _=>exact q.elim
 have hl:(Value.ref (s'.heap.objs.size+1)::us).length=ps.length:=by
  have e:=r2.length;rw[F.len _ _ _ _ hs] at e;exact e.symm
 refine wpAny_call (zfw (f:=f) I.kIn M.makes M.init (beq_iff_eq.mp M.fn) ?_);refine codeAny_mono (F.run _ X.stack _ _ ⟨Value.ref (s'.heap.objs.size+1)::us,[]⟩ (Value.ref (s'.heap.objs.size+1)::us) _ _ _ (hr.make _ us []) (I2.env0.make _ us []) (by
   have z:=hb _ (Value.ref (s'.heap.objs.size+1)::us) I2.kIn (by rw[y1z];exact hl)
   rw[y1z] at z;exact z) r2 hs) λr s4 hq'=>?_
 cases r with
 | error e=>obtain⟨_,_,_,_,_,_,_,_,_,_,_,z,_⟩:=hq';exact z.elim
 | ok fl =>
  cases fl with
  | ret u =>
   obtain⟨v,H',I3,rv,ev,q3⟩:=I2.after hq';subst ev;exact⟨rv,⟨V.ref (s'.heap.objs.size+1),H',I3,rfl,q3⟩⟩
  | next=>exact False.elim hq'
  | brk=>exact False.elim hq'
  | cont=>exact False.elim hq'
theorem zrd (F:RCls X.bg Z.c x c k ps ev)(hr:Room (k+1) X.A)(ha:PA X (e::es) (xA Z fA))(hg:Gl X x)(hdb:(x==("__debug__":Str))=false)
  (he:starEach (e::es) X.env=(false,eval e X.env)::starEach es X.env) (hpl:(backTo pos (starEach es X.env)).any (·.1)=false):PE X (.Call (.Name x p) (e::es) [] pos) (xR Z (rCB (gMake c ev) fA)):=by
 intro aa s' σ H Q I ⟨s,ρ,eH,A,q⟩;subst eH;obtain⟨f,fd,G,hb,M⟩:=F.is;refine wpAny_Call_Name_kw (z2a I hg F.mg ?_ hdb);refine y2x (h₀:=X.base) I.ok.mod.kin M.kp (thn (ha pos aa s' σ s.H (λvs H1=>∃s1 ds,s1.H=H1/\Go Z.c s s1/\All Z.c s1 ds vs/\(gMake c ev ds s1.h).sat (CK Z s1 Q) (XK Z)) I ⟨s,ρ,rfl,A,q.go λds h1 q ι1 H1 vs g1 i1=>⟨⟨ι1,h1,H1⟩,ds,rfl,g1,i1,q.mono λ_ _ q=>q.go g1⟩⟩) λus s1 h1=>?_) he hpl;obtain⟨vs,H1,I1,r,s1,ds,eH,g1,i1,q1⟩:=h1;subst eH;exact⟨I1.kIn,znc M G hr hb I1 g1.rl r i1 q1⟩
theorem zkl (F:RCls X.bg Z.c x c k ps ev)(hr:Room (k+1) X.A)(hg:Gl X x)(hdb:(x==("__debug__":Str))=false):PE X (.Call (.Name x p) [] [] pos) (xR Z (rCB (gMake c ev) z01)):=by
 intro aa s' σ H Q I ⟨s,ρ,eH,A,q⟩;subst eH;obtain⟨f,fd,G,hb,M⟩:=F.is;refine wpAny_Call_Name_kw (z2a I hg F.mg ?_ hdb);exact y4z I.kIn M.kp (znc (us:=[]) (vs:=[]) (ds:=[]) M G hr hb I A.g.rl .nil rfl q)
noncomputable def rRaise (c:Nat) (f:RA):RS:=fun ρ h=>(f ρ h).bnd λxs h=>z18 (big xs) (.ex c h)
theorem zko {np ac:Pos}(O:ExcD X.K X.mg x (Z.c.xc c))(xw:XW X Z)(ha:PA X (e::es) (xA Z fA))(hc:X.calm=true)(hg:Gl X x)(hdb:(x==("__debug__":Str))=false)
  (he:starEach (e::es) X.env=(false,eval e X.env)::starEach es X.env) (hpl:(backTo ac (starEach es X.env)).any (·.1)=false) :
  PS X (.Raise (some (.Call (.Name x np) (e::es) [] ac)) none pos) (xS Z (rRaise c fA)) :=
 zb4 (zeo O (λH1=>∃s1,s1.H=H1/\Go Z.c Z.b s1/\Z.W c s1) ha (λaa σ H1 s h' a us I ⟨s1,e,n,w⟩ m=>by subst e;exact xw.made aa σ s1 s h' a us c I n w m) hc hg hdb he hpl) λE σ H ⟨s,ρ,e,A,q⟩=>by
  subst e;refine⟨s,ρ,rfl,A,q.go λxs h1 q ι1 H1 vs g1 i1=>?_⟩;obtain⟨eb,q⟩:=q.i;exact⟨by rw[←i1.len];exact zd5 eb,⟨ι1,h1,H1⟩,rfl,A.g.trans g1,q (A.g.trans g1)⟩
end
section
variable {P:Program}{w:World}{K:y00}{mg:Str->Option Value}{base:Heap}{N:List Str}{qual:Str}{scope:Scope}{f:Addr}{cdv:Value}{A:Around}{outer:List Env}{s:Shared}{H:Hp}{E:L2.XK}
theorem zl8:∀(aa:List (Addr×Obj)) (σ:St) (H1:Hp) (s1:Shared) (h':Heap) (a C:Addr) (us:List Value),Inv (z38 (CXg P w) P w K mg base N qual scope f cdv A outer s H E) aa σ H1 s1->E (.ref C) none H1 ->
  Heap.MadeExcOf s1.heap h' a (.ref C) us->(z38 (CXg P w) P w K mg base N qual scope f cdv A outer s H E).xe (.ref a) { s1 with heap:=h' }:=by
 intro aa σ H1 s1 h' a C us I hE hx;have fr1:=I.stack;have hin:∀env∈(envOfC qual scope s.heap.objs.size f cdv::outer),∀b,env.frame=some b->b∈(envOfC qual scope s.heap.objs.size f cdv::outer).filterMap (·.frame):=λenv he b hb=>y2d.mpr ⟨env,he,hb⟩
 have hB:∀{b:Addr} {o:Obj},s1.heap.get? b=some o->b ∉ (envOfC qual scope s.heap.objs.size f cdv::outer).filterMap (·.frame)->(y5o s1.heap ((envOfC qual scope s.heap.objs.size f cdv::outer).filterMap (·.frame))).get? b=some o :=
  λe n=>y4w _ e n
 have own:∀{b:Addr},b ∉ frs outer->b<s.heap.objs.size->b ∉ (envOfC qual scope s.heap.objs.size f cdv::outer).filterMap (·.frame):=λ{b} h1 h2 hm=>by
  obtain⟨env,he,hf⟩:=y2d.mp hm;rcases y0a.mp he with rfl | he
  ·exact y1c _ (y04 h2 (y3j (y0q hf)))
  ·exact h1 (y2d.mpr ⟨env,he,hf⟩)
 have new1:s1.heap.get? a=none:=hx.new;show wpAny _ _ (leaving _ _) _ _ _;refine wpAny_leaves_madeW (h:=s1.heap) I.ok.frames rfl (λb o q=>y52 _ q) (PySem.W.funFrames_hide fr1 hin) hx λh2 t x1 x2 x3 x4=>?_;refine⟨a,.ref t,_,C,H1,rfl,I.os,I.bare,x1,?_,?_,hE,λh3 st up=>⟨⟨λb o e n hb hx'=>?_,λb o e n hb hx'=>?_,I.base.free,λb o e hx'=>?_,I.base.tups,I.base.frzs,I.base.tbls⟩,λb o e=>?_⟩⟩
 ·cases q:s.heap.get? a with
  | none=>rfl
  | some o =>
   obtain⟨o',e1⟩:=I.base.there a o q (by simp[z38])
   rw[new1] at e1;cases e1
 ·cases q:H1 a with
  | none=>rfl
  | some o =>
   obtain⟨o',e1⟩:=ObjOk.some (I.hok a o q);rw[new1] at e1;cases e1
 ·exact st _ _ (hB (I.base.keep b o e n hb (by simp[z38])) (own hb (Heap.lt_size e)))
 ·obtain⟨sl,e1⟩:=I.base.slot b o e n hb (by simp[z38])
  obtain⟨_,o',e2,nf⟩:=I.ok.funs.mem hb;have e2':s.heap.get? b=some o':=e2;rw[e] at e2';cases e2';obtain⟨sl2,e3⟩:=x4 b _ (hx.keeps _ _ e1) nf;obtain⟨sl3,e4⟩:=up b _ e3 nf;exact⟨sl3,e4⟩
 ·by_cases hb:b∈frs outer
  ·have n:H b=none:=I.ok.frf b hb;obtain⟨sl,e1⟩:=I.base.slot b o e n hb (by simp[z38])
   obtain⟨_,o',e2,nf⟩:=I.ok.funs.mem hb;have e2':s.heap.get? b=some o':=e2;rw[e] at e2';cases e2';obtain⟨sl2,e3⟩:=x4 b _ (hx.keeps _ _ e1) nf;obtain⟨sl3,e4⟩:=up b _ e3 nf;exact⟨_,e4⟩
  ·obtain⟨o',e1⟩:=I.base.there b o e (by simp[z38])
   exact⟨o',st _ _ (hB e1 (own hb (Heap.lt_size e)))⟩
 ·have trk:∀c u,H1 c≠none->s1.heap.get? c=some u->h3.get? c=some u:=λc u n e1=>st _ _ (hB e1 λhm=>n (I.stkFree c hm));refine(I.hok b o e).stay (λc u hc q=>?_) (λ_ q=>q) λ_ _ q=>q;rcases hc with z | z
  ·exact trk c u (by rw[z,e];simp) q
  ·exact trk c u (by rw[z];simp) q
theorem zln {C:CT}{sx:Sx}(e:sx.H=H):XW (z38 (CXg P w) P w K mg base N qual scope f cdv A outer s H E) ⟨C,sx,λc s2=>E (.ref (C.xc c)) none s2.H⟩ where
 made:=λaa σ s2 s1 h' a us c I n w' m=>zl8 aa σ s2.H s1 h' a _ us I w' m
 pass:=by
  intro aa σ H1 s1 E' e s' I h ⟨a,t,B,C',H',ee,os,br,fly,n1,n2,hE',cl⟩;subst ee;obtain⟨c,s2,ec,eH,nx,w'⟩:=h C' H' hE';subst ec eH;show wpAny _ _ (leaving _ _) _ _ _;refine wpAny_leaves_onW I.ok.frames rfl fly λh2 fly2 up2=>?_;refine⟨a,t,B,C.xc c,s2.H,rfl,os.trans I.os,br,fly2,?_,n2,w',λh3 st up=>?_⟩
  ·cases q:s.heap.get? a with
   | none=>rfl
   | some o =>
    obtain⟨o',e1⟩:=I.base.there a o q (by simp[z38])
    rw[n1] at e1;cases e1
  ·obtain⟨u3,k3⟩:=cl h3 st (up2.trans up);have I3:Inv (z38 (CXg P w) P w K mg base N qual scope f cdv A outer s H E) aa σ s2.H { s' with heap:=h3 }:=I.call' (ch:=[]) os u3 k3 br (λb z=>absurd z (by simp))
   exact⟨I3.base,I3.hok⟩
end
noncomputable def eMap (ds:List D) (k:Nat):DEn:=y0l (motive:=λ_=>DEn) (y0b k none) (λd _ ih=>some d::ih) ds
theorem zcx (k:Nat):∀ds,eMap ds k=ds.map some++y0b k none
 | []=>rfl
 | d::ds=>by rw[y10,y48,←zcx k ds];rfl
noncomputable def fnR (keep:Bool) (n k:Nat) (f:RS) (ds:List D) (h:TH):R D:=z18 (y17 (eln ds) n) (match f (eMap ds k) h with
 | .ok (.nx _) h'=>bif keep then .ok .non h' else trunc (eln h) .non h'
 | .ok (.rt v) h'=>bif keep then .ok v h' else trunc (eln h) v h'
 | .ex c h'=>bif keep then .ex c h' else truncX (eln h) c h'
 | .no=>.no)
section
variable {P:Program}{w:World}{K:y00}{mg:Str->Option Value}{base:Heap}{N:List Str}{x qual:Str}{st:Stmt}{k:Nat}{ps:List Str}{C:CT}{f:Addr}{fd:FuncData}{keep:Bool}{fs:RS}{Q:VK}{E:L2.XK}{s:Sx}{ds:List D}{vs:List V}
theorem z5v (al:All C s ds vs)(hn:ds.length=n)(hL:N.length=n+j):En C s (eMap ds j) (z48 N vs):=by
 unfold z48;rw[zcx,show N.length - vs.length=j by rw[←al.len];omega]
 refine⟨by simp[al.len],λi d z=>?_⟩
 rw[y4r] at z ⊢
 rw[y0e] at z ⊢
 rw[al.len] at z
 split at z
 ·rename_i lt;rw[if_pos lt];rw[y0g,y1k] at z;obtain⟨d',z1,z2⟩:=z;cases z2;obtain⟨x,y1,y2⟩:=al.get z1;exact⟨x,by rw[y0g,y1];rfl,y2⟩
 ·rw[y27] at z
  split at z<;>cases z
theorem ziq {W:Nat->Sx->Prop}(R0:Rl C s)(hW:∀c s2,W c s2=E (.ref (C.xc c)) none s2.H)(q:(match fs (eMap ds j) s.h with
 | .ok (.nx _) h'=>bif keep then .ok .non h' else trunc (eln s.h) .non h'
 | .ok (.rt v) h'=>bif keep then .ok v h' else trunc (eln s.h) v h'
 | .ex c h'=>bif keep then .ex c h' else truncX (eln s.h) c h'
 | .no=>.no:R D).sat (λv h'=>∀{ι H' w},Go C s ⟨ι,h',H'⟩->Is C ⟨ι,h',H'⟩ v w->Q w H') (λc h'=>∀{ι H'},Go C s ⟨ι,h',H'⟩->E (.ref (C.xc c)) none H')) :
  (fs (eMap ds j) s.h).sat (CF ⟨C,s,W⟩ s { nx:=λ_ H'=>Q .non H',rt:=Q }) (XK ⟨C,s,W⟩):=by
 have ln:eln s.h=s.h.length:=z06 _;have back:∀{v:D} {h':TH} {ι:List Addr} {H':Hp} {u:V},(bif keep then R.ok v h' else trunc (eln s.h) v h').sat (λv h'=>∀{ι H' w},Go C s ⟨ι,h',H'⟩->Is C ⟨ι,h',H'⟩ v w->Q w H') (λc h'=>∀{ι H'},Go C s ⟨ι,h',H'⟩->E (.ref (C.xc c)) none H')->Go C s ⟨ι,h',H'⟩->Is C ⟨ι,h',H'⟩ v u->Q u H':=λ{v h' ι H' u} q g i=>by
  cases keep with
  | true=>exact q g i
  | false =>
   have q:(trunc (eln s.h) v h').sat _ _:=q;unfold trunc at q;cases z:y17 (eln h') (eln s.h) with
   | true=>rw[z] at q;exact q g i
   | false =>
   rw[z] at q;obtain⟨h0,e1,q⟩:=R.sat.o q;obtain⟨v0,e2,q⟩:=q.o;obtain⟨g2,k2⟩:=z93 (s:=⟨ι,h',H'⟩) g e1 ln R0;exact q g2 (k2 i e2)
 split at q
 ·rename_i e;rw[e];exact λ{ι H'} g {σ} E2=>back q g rfl
 ·rename_i e;rw[e];exact λ{ι H'} g {u} i=>back q g i
 ·rename_i c h' e;rw[e];intro ι H' g;show W c _;rw[hW];cases keep with
  | true=>exact q g
  | false =>
   have q:(truncX (eln s.h) c h').sat _ _:=q;unfold truncX at q;cases z:y17 (eln h') (eln s.h) with
   | true=>rw[z] at q;exact q g
   | false =>
   rw[z] at q;obtain⟨h0,e1,q⟩:=R.sat.o q;obtain⟨g2,_⟩:=z93 (s:=⟨ι,h',H'⟩) g e1 ln R0;exact q g2
 ·exact q.elim
theorem ztu (F:Fun K x qual st f fd)(S:FnScope N ps (z0a st))(hL:N.length=ps.length+j)
  (body:∀(X:Cx) (Z:Ct) (cdv:Value) (A:Around) (outer:List Env) (s:Shared) (H:Hp) (E:L2.XK),X=z38 (CXg P w) P w K mg base N qual (z0a st) f cdv A outer s H E->Room k X.A->Z.c=C->XW X Z->PSs X (z0o st) (xS Z fs)) :
  FnOk P w K mg base (CXg P w) (k+1) f fd ps (spR C (fnR keep ps.length j fs)):=by
 obtain⟨oc,od,kV,doc,pm,an,cdv,ct,osl,rfl,lk,hcd⟩:=F.ex;refine zrf lk hcd S (λvs H Q E ⟨s,ds,_,_,al,q⟩=>?_) λA outer s H vs Q E hr ⟨sx,ds,eH,R0,al,q⟩=>?_
 ·obtain⟨eb,_⟩:=R.sat.i q;rw[←al.len,←z06];exact y13 eb
 ·obtain⟨eb,q⟩:=R.sat.i q;have hn:ds.length=ps.length:=by rw[←z06];exact y13 eb
  subst eH;exact⟨_,body _ ⟨C,sx,λc s2=>E (.ref (C.xc c)) none s2.H⟩ cdv A outer s sx.H E rfl hr rfl (zln rfl),sx,eMap ds j,rfl,⟨.refl R0,z5v al hn hL⟩,ziq R0 (λ_ _=>rfl) q⟩
end
end L2.RX
set_option Elab.async false
set_option linter.all false
set_option maxRecDepth 100000
namespace L2.RX
open PySem PySem.Spec PyProof.Rows L2.EX
def zhm (te:TE)(σ:St)(H:Hp)(Q:VK):Prop:=te σ H λx H1=>∃a kvs,x = .ref a/\Rd H1 a (.dK kvs)/\kvs.length≤1000/\∀(ts:List Addr) (l:Addr) (H2:Hp),ts.length=kvs.length->(∀b∈l::ts,H1 b=none)->(∀b,b ∉ l::ts->H2 b=H1 b)->(∀(j:Nat) t p,ts[j]?=some t->kvs[j]?=some p->H2 t=some (.tup [kV p.1,p.2]))->H2 l=some (.lst (ts.map V.ref))->Q (.ref l) H2
theorem zfa {X:Cx}{o:Expr}{te:TE}{p pos ah ac:Pos}(hm:X.mg "list"=none)(ho:PE X o te)(hg:Gl X "list")(hc:X.calm=true)(az:attributeBase o "items" X.env (eval o X.env)=eval o X.env)(ar:(ah.endLine==ac.line)=true)
  (hs:starEach [.Call (.Attribute o "items" ah) [] [] ac] X.env = [(false,eval (.Call (.Attribute o "items" ah) [] [] ac) X.env)]) :
  PE X (.Call (.Name "list" p) [.Call (.Attribute o "items" ah) [] [] ac] [] pos) (zhm te):=by
 intro aa s σ H Q I hq;refine Call_ (z16 I hg hm z88 (y0f ?_ hs rfl));rw[hs];refine Calls.spliced_cons ?_;refine wpAny_Call_method0_late az ar (thn (z0f ho aa s σ H _ I ⟨_,hq,λ_ _ q=>q⟩) λu s1 h1=>?_);obtain⟨v,H1,I1,ru,a,kvs,rfl,rd,hz,q1⟩:=h1;cases ru;obtain⟨t1,t2,t3⟩:=z8z I1 (.inl ⟨_,rd⟩);obtain⟨_,_,vs,rel,dd⟩:=z4b I1.hok rd;refine⟨"dict","dict.items",y2a,y43,PySem.F.type_dict_items,t1,t2,Calls.callWith_builtin rfl (y4x ?_)⟩;refine call_meetsIn y43 t1 PySem.F.entry_dict_items (PySem.F.args_dict_items_1 _) (meets_dict_items (z0d X.prog X.w) a t3) ⟨⟨vs,dd⟩,Calls.spliced_nil ?_⟩;obtain⟨od,es,ep,g1,g2,g3,g4⟩:=id dd;have hat:(s1.heap.push { cls:=.type "dict_items",data:=.fields #[.ref a] }).DictAt (z0d X.prog X.w) a vs ep:=⟨od,es,Heap.get?_push_of_some _ g1,g2,g3,g4⟩;have vl:vs.length=kvs.length:=rel.length.symm
 refine PySem.W.kdx_call (knd:=z0d X.prog X.w) (kvs:=vs) (ep:=ep) (I1.ok.hd hc) ⟨_,Heap.get?_push_size _ rfl,rfl,rfl⟩ hat (by rw[vl];exact sz hz) λh' tk acc cc as hkp hS hl hG hacc=>?_
 have kp:∀b o,s1.heap.get? b=some o->h'.get? b=some o:=λb o e=>hkp b o (Heap.get?_push_of_some _ e);have I2:Inv X aa σ H1 { s1 with heap:=h',toks:=tk }:=I1.kept kp
 have sz2:(s1.heap.push { cls:=.type "dict_items",data:=.fields #[.ref a] }).objs.size=s1.heap.objs.size+1:=Heap.size_push ..;rw[sz2] at hG hS ⊢
 have nd:as.Nodup:=hG.rise.imp λh=>y06 h;have ab:∀b∈as,s1.heap.objs.size≤b:=λb hb=>y22 (Nat.lt_of_succ_lt (hG.above b hb))
 obtain⟨H2,J,sm,ot,tt⟩:=z5e I1 as (kvs.map λp=>[kV p.1,p.2]) H1 I2 (by rw[hl,vl,y0e]) nd (λb hb=>⟨ab b hb,I1.hok.fresh (ab b hb)⟩) λj b rr hj hr=>by
  rw[y0g] at hr;obtain⟨⟨x,w⟩,e1,rfl⟩:=y1k.mp hr;refine⟨sz (by show 2≤1000;decide),?_⟩
  obtain⟨key,kk,y,f1,f2,f3⟩:=hG.pairs j b hj;obtain⟨y',e5,e6⟩:=zb6 rel e1;rw[f1] at e5;cases e5;exact⟨[key,y],.cons (zj1 f2) (.cons e6 .nil),⟨_,f3,rfl,0,rfl⟩⟩
 have hln:s1.heap.objs.size+1 ∉ as:=λhm=>y1c _ (hG.above _ hm);have hl1:H1 (s1.heap.objs.size+1)=none:=I1.hok.fresh (y3d _)
 have hl2:H2 (s1.heap.objs.size+1)=none:=by rw[ot _ hln];exact hl1
 obtain⟨f0,f1,f2,f3,f4,f5⟩:=I1.fpOk (y3d s1.heap.objs.size) hl2;have av:Vals (as.map V.ref) (as.map Value.ref):=by
  clear hG hl nd ab tt ot hln hacc
  induction as with
  | nil=>exact .nil
  | cons b as ih=>exact .cons rfl ih
 have J2:=zex (o:=.lst (as.map V.ref)) J hl2 (y0j I1.sz (y3d _)) f1 f4 f5 ⟨by rw[y0e,hl,vl];exact sz hz,as.map Value.ref,cc,av,by rw[hS,←hacc]⟩
 refine⟨.ref (s1.heap.objs.size+1),_,J2,rfl,q1 as _ _ (by rw[hl,vl]) (λb hb=>?_) (λb hb=>?_) (λj t p h1 h2=>?_) z08⟩
 ·rcases y0a.mp hb with rfl | hb
  ·exact hl1
  ·exact I1.hok.fresh (ab b hb)
 ·rw[z04 λz=>hb (by rw[z];exact y0p),ot b λz=>hb (y0c _ z)]
 ·rw[z04 (λz:t=s1.heap.objs.size+1=>hln (by rw[←z];exact y0o h1))]
  exact tt j t _ h1 (by rw[y0g,h2];rfl)
noncomputable def prs (ks:List Key) (ds:List D):List D:=y0l (motive:=λ_=>List D->List D) (λ_=>[]) (λk _ ih ds=>y0l (motive:=λ_=>List D) [] (λd t _=>.tup [kd k,d]::ih t) ds) ks ds
theorem zdq:∀{ks:List Key} {ds:List D} {i:Nat} {e:D},(prs ks ds)[i]?=some e->∃k d,ks[i]?=some k/\ds[i]?=some d/\e = .tup [kd k,d]
 | [],_,_,_,h=>by simp[prs] at h
 | _::_,[],_,_,h=>by simp[prs] at h
 | k::ks,d::ds,0,e,h=>by cases h;exact⟨k,d,rfl,rfl,rfl⟩
 | k::ks,d::ds,i+1,e,h=>by
  obtain⟨k',d',h1,h2,h3⟩:=zdq (ks:=ks) (ds:=ds) (i:=i) (e:=e) (by
   have:prs (k::ks) (d::ds) = .tup [kd k,d]::prs ks ds:=rfl;rw[this] at h;simpa using h)
  exact⟨k',d',by simpa using h1,by simpa using h2,h3⟩
theorem zcd:∀{ks:List Key} {ds:List D},ks.length=ds.length->(prs ks ds).length=ks.length
 | [],[],_=>rfl
 | [],_::_,h=>by simp at h
 | _::_,[],h=>by simp at h
 | k::ks,d::ds,h=>by
  have:prs (k::ks) (d::ds) = .tup [kd k,d]::prs ks ds:=rfl;rw[this,y0u,y0u,zcd (by simpa using h)]
section
variable {C:CT}{Z:Ct}{X:Cx}{s:Sx}{ta tb tc:TE}{fa fb fc:RE}{t:TA}{f:RA}{e o:Expr}{p pos ah ac:Pos}{x y:Str}{c k:Nat}{Q:VK}
noncomputable def rItems (m:Bool) (fa:RE):RE:=fun ρ h=>(fa ρ h).bnd λx h=>ofO (eK h x) λp=>z18 (y1m (eln p.1) 1000) (mk m (prs p.1 p.2) h)
theorem zey {m:Bool}(sa:Sm Z ta fa):Sm Z (zhm ta) (rItems m fa):=λA q=>sa A <| q.go λx h1 q0 ι H w g1 i1=>by
 obtain⟨⟨ks,ds⟩,e1,q1⟩:=q0.o;obtain⟨eb,q⟩:=q1.i;clear q0 q1;obtain⟨a,xs,rfl,rd,l,B⟩:=z7h (s:=⟨ι,h1,H⟩) g1.rl i1 e1;have lz:(ks.zip xs).length=ks.length:=by rw[y1h,←B.len,←l,y2h]
 rw[z06] at eb;refine⟨a,_,rfl,rd,by rw[lz];exact y1i.mp eb,λts l2 H2 ap aU hold htup hl2=>?_⟩
 have nm:∀b,zah Z.c ⟨ι,h1,H⟩ b->b ∉ l2::ts:=λb mb hb=>g1.rl.ex mb (aU b hb);have nl:l2 ∉ ts:=λhm=>by
  obtain⟨j,hj⟩:=y1u hm;have lt:=(y01.mp hj).1;have:=htup j l2 _ hj (y02 (by rw[←ap];exact lt))
  rw[hl2] at this;cases this
 have eH:upd (λb=>if b=l2 then none else H2 b) l2 (.lst (ts.map V.ref))=H2:=by
  funext b
  by_cases z:b=l2
  ·subst z;rw[z08];exact hl2.symm
  ·rw[z04 z,if_neg z]
 have n3:¬zah Z.c ⟨ι,h1,H⟩ l2:=λmb=>nm _ mb y0p;have sm3:Same (cut Z.c ⟨ι,h1,H⟩) (cut Z.c ⟨ι,h1,λb=>if b=l2 then none else H2 b⟩):=λb u z=>by
  have nb:=z2l z;rw[z0p nb] at z;rw[z0p (s:=⟨ι,h1,λb=>if b=l2 then none else H2 b⟩) nb]
  show(if b=l2 then none else H2 b)=_
  have hb:b ∉ l2::ts:=λhb=>by rw[show(⟨ι,h1,H⟩:Sx).H b=none from aU b hb] at z;cases z
  rw[if_neg λy=>hb (by rw[y];exact y0p),hold b hb];exact z
 have g3:Go Z.c ⟨ι,h1,H⟩ ⟨ι,h1,λb=>if b=l2 then none else H2 b⟩:=g1.rl.with sm3 λb mb=>by
  show H b=if b=l2 then none else H2 b
  rw[if_neg (λy:b=l2=>n3 (y▸mb)),hold b (nm b mb)]
 have B3:All Z.c ⟨ι,h1,λb=>if b=l2 then none else H2 b⟩ (prs ks ds) (ts.map V.ref):=DAll.of_get (by rw[zcd l,y0e,ap,lz]) λi e he=>by
  obtain⟨k,d,h3,h4,rfl⟩:=zdq he;obtain⟨v,h5,h6⟩:=B.get h4;have lt:i<ts.length:=by rw[ap,lz];exact(y01.mp h3).1
  have ht:=y02 lt;refine⟨.ref ts[i],by rw[y0g,ht];rfl,ts[i],[kV k,v],rfl,SqT.of ?_,_,_,rfl,ziz k,_,_,rfl,g3.is h6,rfl⟩
  have h7:=htup i ts[i] (k,v) ht (y1p.mpr ⟨h3,h5⟩);rw[z0p (s:=⟨ι,h1,λb=>if b=l2 then none else H2 b⟩) (a:=ts[i]) λmb=>nm _ mb (y0c _ (y0o ht))]
  show(if ts[i]=l2 then none else H2 ts[i])=_
  rw[if_neg (λy:ts[i]=l2=>nl (by rw[←y];exact y0o ht))];exact h7
 have z:=z4z (s:=⟨ι,h1,λb=>if b=l2 then none else H2 b⟩) (p:=l2) g3.rl B3 (R.sat.mono q λ_ _ q=>q.go (g1.trans g3)) (if_pos rfl)
 rw[eH] at z;exact z
noncomputable def rDz (m:Bool) (fa fb:RE):RE:=fun ρ h=>(fa ρ h).bnd λx h=>(fb ρ h).bnd λy h=>ofO (eS h x) λds=>ofO (eS h y) λes=>ofO (emap dk ds) λks=>z18 (kNd ks&&(y17 (eln ks) (eln es)&&y1m (eln ks) 1000)) (mkD m ks es h)
theorem zci {C:CT}{ι:List Addr}{M:Hp}:∀{ds:List D} {xs:List V} {ks:List Key},DAll C ι M ds xs->emap dk ds=some ks->xs=ks.map kV
 | [],_,_,A,e=>by cases e;exact A
 | d::ds,_,_,⟨v,vs,rfl,q,A⟩,e=>by
  obtain⟨x,ys,h1,h2,rfl⟩:=emap_cons.mp e;rw[zci A h2,z7y q h1];rfl
theorem zbo {κ:Type}(g:κ->V):∀{ks:List κ} {xs:List V},ks.length=xs.length->(ks.zip xs).map (λp=>g p.1)=ks.map g/\(ks.zip xs).map Prod.snd=xs
 | [],[],_=>⟨rfl,rfl⟩
 | [],_::_,h=>by simp at h
 | _::_,[],h=>by simp at h
 | k::ks,x::xs,h=>by
  obtain⟨a,b⟩:=zbo g (ks:=ks) (xs:=xs) (by simpa using h)
  exact⟨congrArg (g k :: ·) a,congrArg (x :: ·) b⟩
theorem zu2 {m:Bool}(sa:Sm Z ta fa)(sb:Sm Z tb fb):Sm Z (fun σ H Q=>zim Z.c.K ta tb σ H (uFz m Q)) (rDz m fa fb):=λA q=>sa A <| q.go λx h1 q _ _ w1 g1 i1=>sb (A.go g1) <| q.go λy h2 q0 ι H w2 g2 i2=>by
 obtain⟨ds,e1,q1⟩:=q0.o;obtain⟨es,e2,q2⟩:=q1.o;obtain⟨ks,e3,q3⟩:=q2.o;obtain⟨eb,q9⟩:=q3.i;clear q0 q1 q2 q3;rw[y09,y09,z06,z06] at eb;obtain⟨n1,n2,n3⟩:=eb;have n2:=y13 n2;have i1:=g2.is i1
 obtain⟨a,xs,rfl,sx,B1⟩:=z20 (s:=⟨ι,h2,H⟩) g2.rl i1 e1;obtain⟨b,ys,rfl,sy,B2⟩:=z20 (s:=⟨ι,h2,H⟩) g2.rl i2 e2;have ex:=zci B1 e3;have lk:ks.length=ys.length:=by rw[n2,B2.len]
 obtain⟨z1,z2⟩:=zbo kV lk;refine⟨z11 x,z11 y,ks.zip ys,?_,?_,by rw[y1h,←lk,y2h];exact y1i.mp n3,λp hp=>?_⟩
 ·rw[z1,←ex];unfold SqS;cases ht:z11 x with
  | true=>rw[ht] at sx;exact sx
  | false=>rw[ht] at sx;exact sx
 ·rw[z2];unfold SqS;cases ht:z11 y with
  | true=>rw[ht] at sy;exact sy
  | false=>rw[ht] at sy;exact sy
 ·rw[z3q (z70 n1) (λ_ _=>rfl),y3b];exact z9i (s:=⟨ι,h2,H⟩) g2.rl n2 B2 (R.sat.mono q9 λ_ _ q=>q.go (g1.trans g2)) hp
noncomputable def upKD (ks:List Key) (ds:List D) (ls:List Key) (es:List D):List Key×List D:=y0l (motive:=λ_=>List D->List Key->List D->List Key×List D) (λ_ ks ds=>(ks,ds)) (λl _ ih es ks ds=>y0l (motive:=λ_=>List Key×List D) (ks,ds) (λe t _=>ih t (putKs l ks) (putDs l e ks ds)) es) ls es ks ds
theorem z9s {k:Key}:∀{ks:List Key},ks.Nodup->(putKs k ks).Nodup/\∀j,j∈putKs k ks->j=k∨j∈ks
 | [],_=>⟨by simp[putKs],λj h=>.inl (by simpa [putKs] using h)⟩
 | j::ks,h=>by
  have e1:putKs k (j::ks)=bif kEq j k then j::ks else j::putKs k ks:=rfl;have h2:=y1g.mp h
  obtain⟨n,m⟩:=z9s (k:=k) h2.2;rw[e1,z56]
  by_cases z:j=k
  ·rw[decide_eq_true z];exact⟨h,λi hi=>.inr hi⟩
  ·rw[decide_eq_false z];refine⟨y1g.mpr ⟨λhm=>(m j hm).elim z h2.1,n⟩,λi hi=>?_⟩;rcases y0a.mp hi with rfl | hi
   ·exact .inr y0p
   ·exact(m i hi).elim .inl λz=>.inr (y0c _ z)
theorem z6k {C:CT}{ι:List Addr}{M:Hp}:∀{ls:List Key} {es:List D} {us:List V} {ks:List Key} {ds:List D} {vs:List V},ks.Nodup->ks.length=ds.length->DAll C ι M ds vs->ls.length=es.length->DAll C ι M es us ->
  ∃ys,z3o (ks.zip vs) (ls.zip us)=(upKD ks ds ls es).1.zip ys/\DAll C ι M (upKD ks ds ls es).2 ys/\(upKD ks ds ls es).1.length=(upKD ks ds ls es).2.length
 | [],[],_,ks,ds,vs,_,l,r,_,r2=>by cases (show _ = [] from r2);exact⟨vs,rfl,r,l⟩
 | [],_::_,_,_,_,_,_,_,_,h,_=>by simp at h
 | _::_,[],_,_,_,_,_,_,_,h,_=>by simp at h
 | x::ls,e::es,_,ks,ds,vs,nd,l,r,h,⟨w,us,rfl,i,r2⟩=>by
  obtain⟨ys,e1,e2,e3⟩:=z7s (k:=x) i nd l r;obtain⟨zs,f1,f2,f3⟩:=z6k (z9s (k:=x) nd).1 e3 e2 (by simpa using h) r2
  refine⟨zs,?_,f2,f3⟩;rw[y12];refine Eq.trans ?_ f1;rw[←e1];rfl
noncomputable def rUpd (fa fb:RE):RE:=fun ρ h=>(fa ρ h).bnd λx h=>z18 (isD x h) <| (fb ρ h).bnd λy h=>ofO (eMd h x) λp=>ofO (eMd h y) λr=>z18 (!Nat.beq p.1 r.1&&(kNd p.2.1&&y1m (eln p.2.1+eln r.2.1) 1000)) (.ok .non (hs h p.1 (.md (upKD p.2.1 p.2.2 r.2.1 r.2.2).1 (upKD p.2.1 p.2.2 r.2.1 r.2.2).2)))
theorem zme (sa:Sm Z ta fa)(sb:Sm Z tb fb):Sm Z (zoj ta tb) (rUpd fa fb):=λA q=>sa A <| q.go λx h1 q0 ι1 H1 w1 g1 i1=>by
 obtain⟨eb,q1⟩:=q0.i;unfold isD at eb
 split at eb
 ·rename_i p e0;obtain⟨a,xs,rfl,rd,_⟩:=z7h (s:=⟨ι1,h1,H1⟩) (ks:=p.1) (ds:=p.2) g1.rl i1 e0;refine⟨a,rfl,.inl ⟨_,rd⟩,sb (A.go g1) <| q1.go λy h2 q0 ι H w2 g2 i2=>?_⟩
  obtain⟨⟨i,ks,ds⟩,e1,q2⟩:=q0.o;obtain⟨⟨j,ls,es⟩,e2,q3⟩:=q2.o;obtain⟨eb,q9⟩:=q3.i;clear q0 q1 q2 q3;rw[y09,y09,z06,z06] at eb;obtain⟨n1,n2,n3⟩:=eb;obtain⟨rfl,a',xs,ea,ei,li,e4,l,B1⟩:=z5h (s:=⟨ι,h2,H⟩) g2.rl (g2.is i1) e1;cases ea;obtain⟨rfl,b,us,rfl,ej,lj,e5,l2,B2⟩:=z5h (s:=⟨ι,h2,H⟩) g2.rl i2 e2;obtain⟨ys,f1,f2,f3⟩:=z6k (z70 n2) l B1 l2 B2;have ab:a≠b:=λz=>by
   have:=g2.rl.nd i j a li lj ei (z▸ej);rw[this] at n1;simp at n1
  have g3:=g2.rl.put (t:=.md (upKD ks ds ls es).1 (upKD ks ds ls es).2) (u:=.dK (z3o (ks.zip xs) (ls.zip us))) ei li λ_=>⟨ys,by rw[z08,f1],f3,f2⟩
  have q4:=@q9 ι (upd H a (.dK (z3o (ks.zip xs) (ls.zip us)))) .non;simp only[z3r] at q4;refine⟨b,_,_,rfl,ab,e4,e5,?_,q4 (g1.trans (g2.trans g3)) rfl⟩;rw[y1h,y1h,←B1.len,←B2.len,←l,←l2,y2h,y2h];exact y1i.mp n3
 ·cases eb
noncomputable def dStr:D->Option Str
 | .str x=>some x
 | _=>none
theorem zd2 {C:CT}{ι:List Addr}{M:Hp}:∀{ds:List D} {xs:List V} {ks:List Str},DAll C ι M ds xs->emap dStr ds=some ks->xs=ks.map V.str
 | [],_,_,A,e=>by cases e;exact A
 | d::ds,_,_,⟨v,vs,rfl,q,A⟩,e=>by
  obtain⟨x,ys,h1,h2,rfl⟩:=emap_cons.mp e;cases d<;>cases h1
  rw[zd2 A h2,show v=V.str _ from q];rfl
noncomputable def sHas (k:Str) (ks:List Str):Bool:=y0l (motive:=λ_=>Bool) false (λd _ ih=>sEq d k||ih) ks
theorem zbu (k:Str):∀ks,sHas k ks=decide (k∈ks)
 | []=>by simp[sHas]
 | d::ks=>by
  have:sHas k (d::ks)=(sEq d k||sHas k ks):=rfl
  rw[this,zbu k ks,z40,y0d,y3c,decide_eq_true_iff,decide_eq_true_iff,decide_eq_true_iff,y0a];exact⟨λh=>h.imp Eq.symm id,λh=>h.imp Eq.symm id⟩
noncomputable def seen' (ks:List Str):List Str->List Str:=y0l (motive:=λ_=>List Str->List Str) (λacc=>acc) (λk _ ih acc=>ih (bif sHas k acc then acc else eap acc [k])) ks
theorem zcf:∀(ks acc:List Str),seen' ks acc=ks.foldl (λacc k=>if k∈acc then acc else acc ++ [k]) acc
 | [],acc=>rfl
 | k::ks,acc=>by
  have:seen' (k::ks) acc=seen' ks (bif sHas k acc then acc else eap acc [k]):=rfl;rw[this,zcf ks,y5q,zbu,z1s];congr 1
  by_cases z:k∈acc<;>simp[z]
noncomputable def rLs (fa:RE):RE:=fun ρ h=>(fa ρ h).bnd λx h=>ofO (eS h x) λds=>ofO (emap dStr ds) λks=>z18 (!z11 x&&y1m (eln ks) 1000) (.ok (.int (.ofNat (eln (seen' ks [])))) h)
theorem zu3 (sa:Sm Z ta fa):Sm Z (zav Z.c.K ta) (rLs fa):=λA q=>sa A <| q.go λx h1 q0 ι H w g1 i1=>by
 obtain⟨ds,e1,q1⟩:=q0.o;obtain⟨ks,e2,q2⟩:=q1.o;obtain⟨eb,q⟩:=q2.i;clear q0 q1 q2;rw[y09,z06] at eb;have ht:z11 x=false:=by simpa using eb.1
 obtain⟨a,xs,rfl,sq,B⟩:=z20 (s:=⟨ι,h1,H⟩) g1.rl i1 e1;rw[ht] at sq;cases zd2 B e2;rw[zcf,z06] at q;exact⟨a,ks,rfl,sq,y1i.mp eb.2,q g1 rfl⟩
noncomputable def rChain (g g':D->D->TH->R D) (fa fb fc:RE):RE:=fun ρ h=>(fa ρ h).bnd λx h=>(fb ρ h).bnd λy h=>(g x y h).bnd λz h=>match z with
 | .bl b=>bif b then (fc ρ h).bnd λu h=>g' y u h else .ok (.bl false) h
 | _=>.no
theorem zew {r r':R2}{g g':D->D->TH->R D}(k:Sm2 Z r g)(k':Sm2 Z r' g')(sa:Sm Z ta fa)(sb:Sm Z tb fb)(sc:Sm Z tc fc):Sm Z (fun σ H Q=>ta σ H λx H1=>tb σ H1 λy H2=>r x y H2 λz H3=>∃b,z = .bl b/\if b=true then tc σ H3 λu H4=>r' y u H4 Q else Q (.bl false) H3) (rChain g g' fa fb fc):=λA q =>
 sa A <| q.go λx h1 q _ _ w1 g1 i1=>sb (A.go g1) <| q.go λy h2 q ι2 H2 w2 g2 i2=>k (s:=⟨ι2,h2,H2⟩) (A.g.trans (g1.trans g2)) (g2.is i1) i2 <| q.go λz h3 q ι3 H3 w3 g3 i3=>by
 split at q
 ·rename_i b;refine⟨b,i3,?_⟩;cases b with
  | false=>rw[if_neg (by decide)];exact q (g1.trans (g2.trans g3)) rfl
  | true =>
   rw[if_pos rfl];exact sc (A.go (g1.trans (g2.trans g3))) <| R.sat.go q λu h4 q ι4 H4 w4 g4 i4=>k' (s:=⟨ι4,h4,H4⟩) (A.g.trans (g1.trans (g2.trans (g3.trans g4)))) (g4.is (g3.is i2)) i4 <| R.sat.mono q λ_ _ q=>q.go (g1.trans (g2.trans (g3.trans g4)))
 ·exact q.elim
end
end L2.RX
set_option Elab.async false
set_option linter.all false
set_option maxRecDepth 100000
namespace L2.RX
open PySem PySem.Spec PyProof.Rows L2.EX
structure LamK (mg:Str->Option Value)(base:Heap)(c P:Addr):Prop where
 code:PySem.W.CodeHd base c P
 blt:base.BuiltinsAt mg P
 ne:mainGlobals≠P
theorem z68 {au:Pos}{a b:Int}{c cv:Value}:∀(l:List Value),TriplesOk l->codeAmong au (l ++ [rawInt a,rawInt b,c])=some cv->cv=c∨codeAmong au l=some cv:=by
 intro l h e
 fun_induction TriplesOk l with
 | case1 =>
  simp only[y3b,rawInt,codeAmong] at e
  split at e
  ·cases e;exact .inl rfl
  ·cases e
 | case2 a' t b' u x rest ih =>
  simp only[y48,codeAmong] at e ⊢
  split at e
  ·rename_i z;cases e;rw[if_pos z];exact .inr rfl
  ·rename_i z;rw[if_neg z];exact ih h e
 | case3 l h1 h2=>exact h.elim
theorem zg8 {P:Program}{w:World}{H:Hp}{h:Heap}{c:Addr}{q:Str}(x:h.CodeRec (.ref c) q):ObjOk P w H h c (z4o c q):=by
 refine⟨x,?_,λh1 h2 y k=>?_⟩
 ·obtain⟨c',o,vs,t,e,ho,_⟩:=x;cases e;exact⟨o,ho⟩
 ·obtain⟨c',o,vs,t,e,ho,r⟩:=y;cases e;exact⟨_,o,vs,t,rfl,k _ ho,r⟩
theorem zdi {P:Program}{w:World}{H:Hp}{h:Heap}{a c:Addr}{L:Lam}{pm ctv:Value}(x:h.get? a=some (y2w "<lambda>" L.qual L.params L.body L.scope [] pm c ctv)):ObjOk P w H h a (zhb a L pm c ctv):=⟨x,⟨_,x⟩,λh1 h2 y k=>k _ y⟩
section
variable {X:Cx}{aa:List (Addr×Obj)}{σ:St}{H:Hp}{s:Shared}{P c':Addr}{h2:Heap}{ps more:Array Value}{L:Lam}{pm ctv:Value}{tk:Nat}
theorem Inv.lam (I:Inv X aa σ H s)(hP:H P=some (.tbl ps))(hx:Heap.ExtBut P s.heap h2)(hc:s.heap.objs.size≤c')(hcl:c'<h2.objs.size)(hrec:h2.CodeRec (.ref c') L.qual)(htb:h2.get? P=some (y3r (ps++more))) :
  Inv X aa σ (upd (upd (upd H c' (z4o c' L.qual)) P (.tbl (ps++more))) h2.objs.size (zhb h2.objs.size L pm c' ctv)) { s with heap:=h2.push (y2w "<lambda>" L.qual L.params L.body L.scope [] pm c' ctv),toks:=tk }:=by
 have hPs:P<s.heap.objs.size:=(I.hok P _ hP).lt;have hcn:H c'=none:=I.hok.fresh hc
 have old:∀{b:Addr} {o:Obj},s.heap.get? b=some o->b≠c'/\b≠h2.objs.size:=λ{b o} e=>by
  have:=Heap.lt_size e;exact⟨y06 (y04 this hc),y06 (y04 this (y22 (y23 hc hcl)))⟩
 have hf:∀{b:Addr} {u:HO},H b=some u->b≠c'/\b≠h2.objs.size:=λ{b u} e=>by
  obtain⟨o,ho⟩:=ObjOk.some (I.hok b u e);exact old ho
 have get:∀{b:Addr} {u:HO},H b=some u->b≠P->(upd (upd (upd H c' (z4o c' L.qual)) P (.tbl (ps++more))) h2.objs.size (zhb h2.objs.size L pm c' ctv)) b=some u:=λ{b u} e n=>by
  rw[z04 (hf e).2,z04 n,z04 (hf e).1];exact e
 have atP:(upd (upd (upd H c' (z4o c' L.qual)) P (.tbl (ps++more))) h2.objs.size (zhb h2.objs.size L pm c' ctv)) P=some (.tbl (ps++more)):=by
  rw[z04 (hf hP).2,z08]
 have kp:∀{b:Addr} {o:Obj},s.heap.get? b=some o->b≠P->(h2.push (y2w "<lambda>" L.qual L.params L.body L.scope [] pm c' ctv)).get? b=some o:=λ{b o} e n=>Heap.get?_push_of_some _ (hx b o n e);have nP:∀{b:Addr},H b=none->b≠P:=λ{b} n z=>by rw[z,hP] at n;cases n
 refine I.un ⟨λb o e n _ _=>kp e (nP n),λb o e n _ _=>⟨o.slots,kp e (nP n)⟩,λb o e n _=>?_,λb o e _=>?_,λb xs e=>get e λz=>(by rw[z,hP] at e;cases e),λb o u e=>get e λz=>(by rw[z,hP] at e;cases e),λb qs e=>?_⟩ λb u e=>?_
 ·rw[z04 (old e).2,z04 (nP n),z04 (old e).1];exact n
 ·by_cases z:b=P
  ·exact⟨_,Heap.get?_push_of_some _ (z▸htb)⟩
  ·exact⟨o,kp e z⟩
 ·by_cases z:b=P
  ·subst z;rw[hP] at e;cases e;exact⟨more,atP⟩
  ·exact⟨#[],by rw[get e z];simp⟩
 ·by_cases z1:b=h2.objs.size
  ·subst z1;rw[z08] at e;cases e;exact zdi (Heap.get?_push_size _ rfl)
  ·rw[z04 z1] at e
   by_cases z2:b=P
   ·subst z2;rw[z08] at e;cases e;exact Heap.get?_push_of_some _ htb
   ·rw[z04 z2] at e
    by_cases z3:b=c'
    ·subst z3;rw[z08] at e;cases e;obtain⟨c2,o,vs,t,e1,ho,r⟩:=hrec;cases e1;exact zg8 ⟨_,o,vs,t,rfl,Heap.get?_push_of_some _ ho,r⟩
    ·rw[z04 z3] at e;refine(I.hok b u e).stay (λd v hd q=>kp q ?_) (λd q=>get q λz=>(by rw[z,hP] at q;cases q)) λd xs q=>get q λz=>(by rw[z,hP] at q;cases q)
     rcases hd with rfl | hd
     ·exact z2
     ·exact λz=>by rw[z,hP] at hd;cases hd
end
theorem Rl.tabs {C:CT}{s:Sx}{k:Nat}{u:HO}(R:Rl C s)(hk:k<C.nl)(inj:∀j,j<C.nl->C.tb j=C.tb k->(C.lm j).qual=(C.lm k).qual)(hm:zg7 (cut C s) (upd s.H (C.tb k) u) (C.tb k) (C.lm k).qual):Go C s ⟨s.ι,s.h,upd s.H (C.tb k) u⟩:=by
 have sm:Same (cut C s) (cut C ⟨s.ι,s.h,upd s.H (C.tb k) u⟩):=λb o z=>by
  have nb:=z2l z;rw[z0p nb] at z;rw[z0p (s:=⟨s.ι,s.h,upd s.H (C.tb k) u⟩) nb];show upd s.H (C.tb k) u b=_;rw[z04 (by rintro rfl;exact nb (.inr ⟨k,hk,rfl⟩))];exact z
 have up:∀{H:Hp} {a q},zg7 (cut C s) H a q->zg7 (cut C ⟨s.ι,s.h,upd s.H (C.tb k) u⟩) H a q:=λ⟨ps,q,t,r⟩=>⟨ps,q,t,λpos c hc=>let ⟨c',e',q'⟩:=r pos c hc;⟨c',e',sm _ _ q'⟩⟩
 refine⟨⟨[],by simp⟩,sm,R.len,R.nd,λi o a h1 h2=>?_,λj hj=>?_,R.ntb⟩
 ·by_cases z:o = .no
  ·subst z;trivial
  ·exact(R.at_ i o a h1 h2).go (λ_ _ q=>q) sm (z04 (Ne.symm (R.ntb i a k ⟨o,h1,z⟩ h2 hk))).symm
 ·by_cases z:C.tb j=C.tb k
  ·rw[z,inj j hj z];exact up hm
  ·obtain⟨ps,q,r⟩:=R.tab j hj;exact up ⟨ps,by show upd s.H (C.tb k) u (C.tb j)=_;rw[z04 z];exact q,r⟩
section
variable {X:Cx}{Z:Ct}{c k:Nat}{params:Arguments}{body:Expr}{scope:Scope}{pos p:Pos}{fa:RE}{fA:RA}{x:Str}{e:Expr}{es:List Expr}
noncomputable def rLam (k:Nat):RE:=λ_ h=>.ok (.at (hn h)) (hp h (.mf k))
theorem zu4 {cd:Addr}(L:LamK X.mg X.base cd (Z.c.tb k))(hk:k<Z.c.nl)(inj:∀j,j<Z.c.nl->Z.c.tb j=Z.c.tb k->(Z.c.lm j).qual=(Z.c.lm k).qual)(hL:Z.c.lm k=⟨X.env.qual ++ "<lambda>",params,body,scope⟩)(hcode:X.env.code = .ref cd)(hcl:closureFor scope X.env=pure [])(hdef:defaultsOf params X.env=([],[])) :
  PE X (.Lambda params body scope pos) (xR Z (rLam k)):=by
 intro aa s' σ H Q I ⟨s,ρ,eH,A,q⟩;subst eH;have R0:=A.g.rl;obtain⟨ps,hP,ht,hr⟩:=R0.tab k hk;rw[hL] at hr;dsimp only at hr;have hPh:s'.heap.get? (Z.c.tb k)=some (y3r ps):=I.hok (Z.c.tb k) _ hP
 have C:=L.code.keeps I.bk;have hg:s'.heap.Ns mainGlobals X.mg:=I.ok.mod.glob.keeps I.bk
 obtain⟨bm,ob,b1,b2,b3,b4,b5,b6⟩:=L.blt;have hb:s'.heap.BuiltinsAt X.mg (Z.c.tb k):=⟨bm,ob,b1,b2,b3,b4,I.bk _ _ b5,b6⟩;refine PySem.W.kla_eval hdef ?_;have fin:∀{s1:Sx} {a:Addr} {pm ctv:Value} {c':Addr},Go Z.c s s1->s1.ι=s.ι->s1.h=s.h->s1.H a=none->cut Z.c s1 c'=some (z4o c' (X.env.qual ++ "<lambda>"))->Q (.ref a) (upd s1.H a (zhb a ⟨X.env.qual ++ "<lambda>",params,body,scope⟩ pm c' ctv)):=λ{s1 a pm ctv c'} g1 e1 e2 hn hc=>by
  have g2:=g1.rl.mut hn (t:=.mf k) (u:=zhb a ⟨X.env.qual ++ "<lambda>",params,body,scope⟩ pm c' ctv) (by intro z;cases z) ⟨pm,c',ctv,by rw[hL];exact z08,by rw[hL];exact hc⟩
  rw[e1,e2,←zda] at g2;exact q (g1.trans g2) ⟨a,z74 R0,rfl⟩
 cases e:codeAmong pos ps.toList with
 | none =>
  refine PySem.W.kla_makeFunction (mg:=X.mg) hcl I.ok.glob hg hcode C hPh ht e L.ne hb λc' ctv h' tk hx hge hlt hrec htb=>?_;have hcn:s.H c'=none:=I.hok.fresh hge;obtain⟨g1,e1⟩:=R0.imm hcn (z4o c' (X.env.qual ++ "<lambda>"));have hPc:Z.c.tb k≠c':=λz=>by rw[z,hcn] at hP;cases hP
  have g2:=g1.rl.tabs (u:=.tbl (ps ++ #[rawInt pos.line,rawInt pos.col,.ref c'])) hk inj (by
   rw[hL];refine⟨_,z08,by simpa using TriplesOk_snoc pos.line pos.col (.ref c') ps.toList ht,λau cv hcv=>?_⟩
   have key:cv = .ref c'∨codeAmong au ps.toList=some cv:=z68 ps.toList ht (by simpa using hcv)
   rcases key with rfl | key
   ·exact⟨c',rfl,e1⟩
   ·obtain⟨c2,z1,z2⟩:=hr au cv key;exact⟨c2,z1,g1.same _ _ z2⟩)
  have hfn:(upd (upd s.H c' (z4o c' (X.env.qual ++ "<lambda>"))) (Z.c.tb k) (.tbl (ps ++ #[rawInt pos.line,rawInt pos.col,.ref c']))) h'.objs.size=none:=by
   have hs:s'.heap.objs.size≤h'.objs.size:=y22 (y23 hge hlt);rw[z04 (y1j (y04 (I.hok (Z.c.tb k) _ hP).lt hs)),z04 (y1j hlt)];exact I.hok.fresh hs
  exact⟨.ref h'.objs.size,_,Inv.lam (L:=⟨X.env.qual ++ "<lambda>",params,body,scope⟩) I hP hx hge hlt hrec htb,rfl,fin (g1.trans g2) rfl rfl hfn (g2.same _ _ e1)⟩
 | some cv =>
  obtain⟨c',e1,e2⟩:=hr pos cv e;subst e1;refine PySem.W.kla_makeFunctionHit (mg:=X.mg) hcl I.ok.glob hg hcode C hPh ht e hb λctv h' tk hk' hs=>?_;have hfn:s.H h'.objs.size=none:=I.hok.fresh hs;exact⟨.ref h'.objs.size,_,I.laid (t':=tk) (λb o e=>Heap.get?_push_of_some _ (hk' b o e)) hs (zdi (Heap.get?_push_size _ rfl)),rfl,fin (.refl R0) rfl rfl hfn e2⟩
structure LamF (B:Bg)(C:CT)(j k:Nat)(n:Nat)(fb:RE):Prop where
 ex:∃ps:List Str,ps.length=n/\FnScope ps ps (C.lm k).scope/\(∀(pm cd ct:Value) (us:List Value),us.length=ps.length->bindArgs (PySem.W.kla_fn "<lambda>" (C.lm k).qual (C.lm k).params (C.lm k).body (C.lm k).scope [] pm cd ct) ⟨us,[]⟩=pure (ps.zip us)) /\
  ∀(sx:Sx) (f:Addr) (cd:Value) (A:Around) (outer:List Env) (s:Shared) (H:Hp),Room (j+1) A->PE (z38 CX0 B.P B.w B.K B.mg B.base ps (C.lm k).qual (C.lm k).scope f cd A outer s H E0).nox (C.lm k).body (xR ⟨C,sx,λ_ _=>False⟩ fb)
noncomputable def eMf (h:TH):D->Option Nat
 | .at i=>match eg h i with
  | some (.mf k)=>some k
  | _=>none
 | _=>none
theorem zhq {C:CT}{s:Sx}{d:D}{v:V}{k:Nat}(R:Rl C s)(q:Is C s d v)(e:eMf s.h d=some k):∃a pm c ctv,v = .ref a/\s.H a=some (zhb a (C.lm k) pm c ctv)/\cut C s c=some (z4o c (C.lm k).qual):=by
 unfold eMf at e
 split at e
 ·obtain⟨a,e2,rfl⟩:=q
  split at e
  ·rename_i e1;cases e;rw[z0r] at e1;obtain⟨pm,c,ctv,h1,h2⟩:=R.at_ _ _ a e1 e2;exact⟨a,pm,c,ctv,rfl,h1,h2⟩
  ·cases e
 ·cases e
noncomputable def rLcall (lb:Nat->Option (Nat×RE)) (fa:RE) (f:RA):RE:=fun ρ h=>(fa ρ h).bnd λx h=>ofO (eMf h x) λk=>(f ρ h).bnd λxs h=>ofO (eMf h x) λk=>ofO (lb k) λp=>z18 (y17 (eln xs) p.1) (p.2 (eMap xs 0) h).nox
theorem zje {lb:Nat->Option (Nat×RE)}{j:Nat}(hr:Room (j+1) X.A)(LF:∀k p,lb k=some p->LamF X.bg Z.c j k p.1 p.2)(hn:PE X (.Name x p) (xR Z fa))(ha:PA X (e::es) (xA Z fA))
  (he:starEach (e::es) X.env=(false,eval e X.env)::starEach es X.env) (hpl:(backTo pos (starEach es X.env)).any (·.1)=false):PE X (.Call (.Name x p) (e::es) [] pos) (xR Z (rLcall lb fa fA)):=by
 intro aa s' σ H Q I ⟨s,ρ,eH,A,q⟩;subst eH;refine wpAny_Call_Name_kw (thn (hn aa s' σ s.H (λv H1=>∃s1 d,s1.H=H1/\Go Z.c s s1/\Is Z.c s1 d v/\(ofO (eMf s1.h d) λk=>(fA ρ s1.h).bnd λxs h=>ofO (eMf h d) λk=>ofO (lb k) λp=>z18 (y17 (eln xs) p.1) (p.2 (eMap xs 0) h).nox).sat (CK Z s1 Q) (XK Z)) I ⟨s,ρ,rfl,A,q.go λd h1 q ι1 H1 w g1 i1=>⟨⟨ι1,h1,H1⟩,d,rfl,g1,i1,R.sat.mono q λ_ _ q=>q.go g1⟩⟩) λu s1' h1=>?_);obtain⟨v,H1,I1,ru,s1,d,eH,g1,i1,q1⟩:=h1;subst eH;obtain⟨k0,e1,q2⟩:=q1.o;obtain⟨a,pm,c1,ctv,rfl,e2,e3⟩:=zhq g1.rl i1 e1;cases ru;refine PySem.W.callWith_F ⟨_,_,_,_,(I1.hok a _ e2).1⟩ (thn (ha pos aa s1' σ s1.H (λvs H2=>∃s2 ds,s2.H=H2/\Go Z.c s1 s2/\All Z.c s2 ds vs/\(ofO (eMf s2.h d) λk=>ofO (lb k) λp=>z18 (y17 (eln ds) p.1) (p.2 (eMap ds 0) s2.h).nox).sat (CK Z s2 Q) (XK Z)) I1 ⟨s1,ρ,rfl,A.go g1,q2.go λds h2 q ι2 H2 vs g2 i2=>⟨⟨ι2,h2,H2⟩,ds,rfl,g2,i2,R.sat.mono q λ_ _ q=>q.go g2⟩⟩) λus s2' h2=>?_) he hpl;obtain⟨vs,H2,I2,r,s2,ds,eH,g2,i2,q3⟩:=h2;subst eH;obtain⟨k1,e4,q4⟩:=q3.o;obtain⟨⟨n,fb⟩,e5,q5⟩:=q4.o;obtain⟨eb,q6⟩:=q5.i;obtain⟨a',pm,c2,ctv,ea,e6,e7⟩:=zhq g2.rl (g2.is i1) e4;cases ea;obtain⟨ps,hps,S,hbind,hb⟩:=(LF k1 _ e5).ex;have ho:s2'.heap.get? a=some (y2w "<lambda>" (Z.c.lm k1).qual (Z.c.lm k1).params (Z.c.lm k1).body (Z.c.lm k1).scope [] pm c2 ctv):=(I2.hok a _ e6).1;refine⟨⟨_,_,_,_,ho⟩,?_⟩;have hcd:s2'.heap.CodeRec (.ref c2) (Z.c.lm k1).qual:=(I2.hok c2 _ (z0x _ _ e7)).1
 have e0:=I2.env0;have hdl:ds.length=ps.length:=by rw[hps,←z06];exact y13 eb
 have hul:us.length=ps.length:=by rw[←r.length,←i2.len];exact hdl
 have ay:∀y∈ps.zip us,(Z.c.lm k1).scope.names.lookup y.1=some .local∨((Z.c.lm k1).scope.names.lookup y.1=some .cell/\((cellsFrom (s2'.heap.objs.size+1) (Z.c.lm k1).scope.names []).lookup y.1).isSome=true):=λ⟨n,v⟩ hy=>by
  rcases S.par n (y3a hy).1 with q | q
  ·exact .inl q
  ·exact .inr ⟨q,y2y _ _ _ (.inl q)⟩
 refine wpAny_call (PySem.W.kla_callFunE hr.depth ho rfl S.co S.gen rfl hcd ?_);rw[show(⟨[]++us,[]⟩:Args)=⟨us,[]⟩ from rfl,hbind pm (.ref c2) ctv us hul]
 refine wpAny_pure (wpAny_newFunctionEnv_cells S.kind ay λenv he s1 x=>?_);subst he;refine⟨I2.nolimit.keeps x.toInCall.keep,PySem.W.kla_codeExpr ?_⟩;have J:Inv (z38 CX0 X.prog X.w X.K X.mg X.base ps (Z.c.lm k1).qual (Z.c.lm k1).scope a (.ref c2) X.A X.stack s2' s2.H E0) [] (z48 ps vs) s2.H s1:=z6l S hr.hd e0 (by rw[←i2.len];exact hdl) r x
 have z:=hb s2 a (.ref c2) X.A X.stack s2' s2.H hr [] s1 (z48 ps vs) s2.H (λv H'=>Q v H') (J.wish _) ⟨s2,eMap ds 0,rfl,⟨.refl g2.rl,z5v i2 hdl (by simp)⟩,R.sat.unx (R.sat.mono q6 λ_ _ q=>q)⟩
 refine wpAny_mono z (λu s' hs=>?_) λ_ _ f=>f.elim;obtain⟨v,H',J',rv,q⟩:=hs;exact I2.after (Q:=Q) ⟨v,H',J'.unwish.os,J'.unwish.bare,J'.unwish.base,J'.unwish.hok,rv,q⟩
end
section
variable {X:Cx}{aa:List (Addr×Obj)}{σ:St}{H H':Hp}{s:Shared}{a:Addr}
theorem Inv.caught' {C:Addr}{s':Shared}(I:Inv X aa σ H s)(ho:s'.os=s.os)(hg:AllBare s'.gens)(u:Un (frs X.stack) [] H H' s.heap s'.heap)(k:HOk X.prog X.w H' s'.heap)(n1:s.heap.get? a=none)(n2:H' a=none)
  (x:ExcAt a C s'.heap):Inv X aa σ (upd H' a (z9x a C)) s':=by
 refine I.call' (ch:=[]) ho ⟨u.keep,u.slot,λb o e n hx=>?_,u.there,λb xs e=>?_,λb o v e=>?_,λb ps e=>?_⟩ (λb o e=>?_) hg (λb z=>absurd z (by simp))
 ·rw[z04 (λz=>by rw[z,n1] at e;cases e)]
  exact u.free b o e n hx
 ·have:=u.tups b xs e;rw[z04 (z0i this n2)];exact this
 ·have:=u.frzs b o v e;rw[z04 (z0i this n2)];exact this
 ·obtain⟨m,this⟩:=u.tbls b ps e;exact⟨m,by rw[z04 (z0i this n2)];exact this⟩
 ·by_cases z:b=a
  ·subst z;rw[z08] at e;cases e;exact zmr x
  ·rw[z04 z] at e;exact(k b o e).stay (λ_ _ _ q=>q) (λc q=>by rw[z04 (z0i q n2)];exact q) λc xs q=>by rw[z04 (z0i q n2)];exact q
end
section
variable {X:Cx}{Z:Ct}{fx y n:Str}{D0:Addr}{i k:Nat}{ps:List Str}{ev:List D->TH->R D}{yk:Nat->Bool}{e:Expr}{es:List Expr}{fA:RA}{b₀:Stmt}{suite:List Stmt}{fs:RS}{fp ac xpos np hpos tpos:Pos}
noncomputable def rTry2 (i:Nat) (fs:RS) (ρ:DEn) (c:Nat) (h':TH):R Fl:=(fs (est ρ i (some (.at (hn h')))) (hp h' (.mx c))).nox.bnd λx h2=>match x with
 | .nx ρ'=>.ok (.nx (est ρ' i none)) h2
 | .rt v=>.ok (.rt v) h2
noncomputable def rTry1 (i:Nat) (yk:Nat->Bool) (fs:RS) (ρ:DEn) (r:R D):R Fl:=match r with
 | .ok _ h'=>.ok (.nx ρ) h'
 | .ex c h'=>z18 (yk c) (rTry2 i fs ρ c h')
 | .no=>.no
noncomputable def rTry (i:Nat) (yk:Nat->Bool) (ev:List D->TH->R D) (f:RA) (fs:RS):RS:=fun ρ h=>(f ρ h).bnd λxs h=>rTry1 i yk fs ρ (ev xs h)
theorem R.sat.nox_go {α β:Type}{r:R α}{k:α->TH->R β}{P:β->TH->Prop}{P':α->TH->Prop}{E E':Nat->TH->Prop}(q:(r.nox.bnd k).sat P E)(f:∀a h,(k a h).sat P E->P' a h):r.nox.sat P' E':=by
 cases r with
 | ok a h=>exact f a h q
 | ex c h=>exact q.elim
 | no=>exact q.elim
theorem En.drop {C:CT}{s:Sx}{ρ:DEn}{σ:St}(E:En C s ρ σ)(j:Nat):En C s (ρ.set j none) (σ.set j none):=by
 refine⟨by simp[E.len],λi d' q=>?_⟩
 rw[y5d] at q ⊢
 split at q
 ·split at q
  ·cases q
  ·cases q
 ·rename_i z;rw[if_neg z];exact E.is i d' q
theorem zuz (nd:X.N.Nodup)(F:RDef X.bg Z.c fx k ps ev)(hr:Room k X.A)(ha:PA X (e::es) (xA Z fA))(Y:∀c,yk c=true->ExcY X.K X.mg y D0 (Z.c.xc c))(hs:∀a,PSs (Cx.held X a) (b₀::suite) (xS Z.nox fs))
  (hi:X.N[i]?=some n) (hlo:X.env.scope.names.lookup n=some .local) (hgf:Gl X fx) (hgy:Gl X y) (hdf:(fx==("__debug__":Str))=false) (hdy:(y==("__debug__":Str))=false)
  (hst:X.stack=X.env::X.outer) (hfr:X.env.frame=some X.env.locals) (hxe:∀v s',X.xe v s'->False)
  (he:starEach (e::es) X.env=(false,eval e X.env)::starEach es X.env) (hpl:(backTo ac (starEach es X.env)).any (·.1)=false) (hsw:swapsWith (.Call (.Name fx fp) (e::es) [] ac) none xpos.line X.env=pure false) :
  PS X (.Try [.Expr (.Call (.Name fx fp) (e::es) [] ac) xpos] [.ExceptHandler (some (.Name y np)) (some n) (b₀::suite) hpos] [] [] tpos) (xS Z (rTry i yk ev fA fs)):=by
 intro aa s' σ H E I ⟨s,ρ,eH,A,q⟩;subst eH;obtain⟨f,fd,G,hb,hm,hk⟩:=F.is;refine wpAny_Try_except (wpAny_execs_cons (wpAny_Expr_any ?_ I.quiet hsw));refine wpAny_Call_Name_kw (z2a I hgf hm ?_ hdf);refine y2x (h₀:=X.base) I.ok.mod.kin hk (wpAny_mono (ha ac aa s' σ s.H (λvs H1=>∃s1 ds,s1.H=H1/\Go Z.c s s1/\All Z.c s1 ds vs/\(rTry1 i yk fs ρ (ev ds s1.h)).sat (CF Z s1 E) (XK Z)) I ⟨s,ρ,rfl,A,q.go λds h1 q ι1 H1 vs g1 i1=>⟨⟨ι1,h1,H1⟩,ds,rfl,g1,i1,R.sat.mono q λ_ _ q=>q.go g1⟩⟩) (λus s1' h1=>?_) (λv s' z=>(hxe v s' z).elim)) he hpl;obtain⟨vs,H1,I1,r,s1,ds,eH,g1,i1,q1⟩:=h1;subst eH;have hsp:spR Z.c ev vs s1.H (λ_ H2=>∃s2,s2.H=H2/\Go Z.c s1 s2/\CF Z s1 E (.nx ρ) s2.h) (λcc _ H2=>∃c s2,cc = .ref (Z.c.xc c)/\s2.H=H2/\Go Z.c s1 s2/\yk c=true/\(rTry2 i fs ρ c s2.h).sat (CF Z s1 E) (XK Z)):=by
  refine⟨s1,ds,rfl,g1.rl,i1,?_⟩;unfold rTry1 at q1
  split at q1
  ·rename_i e;rw[e];exact λ{ι H' w} g _=>⟨⟨ι,_,H'⟩,rfl,g,q1⟩
  ·rename_i e;rw[e];obtain⟨z,q1⟩:=q1.i;exact λ{ι H'} g=>⟨_,⟨ι,_,H'⟩,rfl,rfl,g,z,q1⟩
  ·exact q1.elim
 have hl:us.length=ps.length:=by rw[←r.length];exact G.len _ _ _ _ hsp
 refine⟨I1.kIn,wpAny_call (codeAny_mono (G.run X.A X.stack s1' s1.H ⟨us,[]⟩ us vs _ _ hr I1.env0 (by
  have z:=hb s1' us I1.kIn (by rw[y1z];exact hl)
  rw[y1z] at z;exact z) r hsp) λrs s2' hq=>?_)⟩
 cases rs with
 | ok fl =>
  cases fl with
  | ret u =>
   obtain⟨v,H2,I2,_,s2,eH,g2,z⟩:=I1.after hq;subst eH;exact wpAny_execs_nil (wpAny_execs_nil ⟨σ,s2.H,I2,z (ι:=s2.ι) (H:=s2.H) g2 ((A.en.go g1).go g2)⟩)
  | next=>exact False.elim hq
  | brk=>exact False.elim hq
  | cont=>exact False.elim hq
 | error ex =>
  obtain⟨a,a0,B,C,H2,rfl,os2,br2,fly,m1,m2,⟨c,s2,ec,eH,g2,yc,q3⟩,cl⟩:=hq;subst eH;cases ec;have hfrm:X.A.frames=some (X.env::X.outer):=by rw[←hst];exact I.ok.frames
  rw[hst] at fly;refine wpAny_looks_onW hfrm hfr fly λh4 held4 up4=>?_;refine wpAny_landsW held4 λh5 fly5 up5=>?_;have c5:=cl h5 fly5.1 (up4.trans up5);have at_:∀{h6:Heap},Heap.FlyingW B (X.env::X.outer) a (.ref (Z.c.xc c)) a0 h6->ExcAt a (Z.c.xc c) h6:=λz=>by
   obtain⟨oe,ws,w1,w2,w3,_⟩:=z.first
   exact⟨oe,ws,w1,w2,w3⟩
  have I5:Inv X aa σ (upd s2.H a (z9x a (Z.c.xc c))) { s2' with heap:=h5 }:=Inv.caught' I1 os2 br2 c5.1 c5.2 m1 m2 (at_ fly5)
  refine wpAny_handleBy_cons (codeAny_handlers_test ?_) (by intro q;cases q)
  refine z2a (X:=Cx.held X a) (Inv.held I5 a) hgy (Y c yc).mg ?_ hdy;refine zfy (Y c yc) I5.kIn (at_ fly5) ?_;refine codeAny_handlers_suite_as ?_;refine lands_againW fly5 λh6 fly6 up6=>?_;have c6:=cl h6 fly6.1 ((up4.trans up5).trans up6);have I6:Inv X aa σ (upd s2.H a (z9x a (Z.c.xc c))) { s2' with heap:=h6 }:=Inv.caught' I1 os2 br2 c6.1 c6.2 m1 m2 (at_ fly6)
  have n3:=g2.rl.mut (t:=.mx c) (u:=z9x a (Z.c.xc c)) m2 (by intro z;cases z) z08
  have g13:=g1.trans (g2.trans n3);refine z3j (X:=X) (v:=.ref a) I6 nd hi (.inl hlo) rfl (λs7 I7=>?_) (.inr hlo);unfold rTry2 at q3;rw[zda] at q3;have q4:(fs (est ρ i (some (.at (hn s2.h)))) (s2.h ++ [.mx c])).sat (CF Z.nox ⟨s2.ι ++ [a],s2.h ++ [.mx c],upd s2.H a (z9x a (Z.c.xc c))⟩ { nx:=fun σ' H'=>E.nx (σ'.set i none) H',rt:=E.rt }) (XK Z.nox):=R.sat.unx (E:=XK Z) (R.sat.nox_go q3 λx h8 q ι8 H8 g8=>by
   have g9:=(g2.trans n3).trans g8;cases x with
   | nx ρ'=>exact λ{σ'} En=>q g9 (by rw[z14];exact En.drop i)
   | rt v=>exact λ{w} i8=>q g9 i8)
  have z:=hs a aa s7 (σ.set i (some (.ref a))) (upd s2.H a (z9x a (Z.c.xc c))) { nx:=fun σ' H'=>E.nx (σ'.set i none) H',rt:=E.rt } (Inv.held I7 a) ⟨⟨s2.ι ++ [a],s2.h ++ [.mx c],upd s2.H a (z9x a (Z.c.xc c))⟩,est ρ i (some (.at (hn s2.h))),rfl,⟨A.g.trans g13,by rw[z14];exact(A.en.go g13).set (d:=.at (hn s2.h)) (v:=.ref a) ⟨a,z74 g2.rl,rfl⟩ i⟩,q4⟩
  refine wpAny_mono z (λfl s8 h8=>?_) (λ_ _ z=>z.elim);have gone:∀{σ':St} {H':Hp} {fl:Flow},Inv (Cx.held X a) aa σ' H' s8->(∀s9,Inv X aa (σ'.set i none) H' s9->SP X aa E fl s9) ->
    wpAny (model X.prog X.w) X.A (do bindName X.env n .none;unbindBehindTheSuite X.env n hpos) (λ_ s9=>SP X aa E fl s9) X.xe s8:=λ{σ' H' fl} J z=>by
   have J':=Inv.unheld J I.ok;obtain⟨m,hn,hl⟩:=J'.loc;exact wpAny_nameGoes_keeps hlo hn (by rw[I.ok.kind];rfl) λh' v hn' sm=>z _ (Inv.gone J' nd hi hn hl hn' sm)
  cases fl with
  | next =>
   obtain⟨σ',H',J,q⟩:=h8;exact gone (fl:=.next) J λs9 I9=>⟨_,H',I9,q⟩
  | ret u =>
   obtain⟨v,σ',H',J,rv,q⟩:=h8;exact gone (fl:=.ret u) J λs9 I9=>⟨v,_,H',I9,rv,q⟩
  | brk=>obtain⟨_,_,_,z⟩:=h8;exact False.elim z
  | cont=>obtain⟨_,_,_,z⟩:=h8;exact False.elim z
end
end L2.RX
set_option Elab.async false
set_option linter.all false
set_option maxRecDepth 100000
namespace L2.RX
open PySem PySem.Spec PyProof.Rows L2.EX
def bltN:List Str:=["abs","all","any","bool","dict","enumerate","int","isinstance","len","list","max","min","range","reversed","set","sorted","str","sum","tuple","zip","ValueError"]
class Yx (X:Cx) (Z:Ct) (k:outParam Nat):Prop where
 K:Z.c.K=X.K
 room:Room k X.A
 calm:X.calm=true
 xw:XW X Z
 blt:∀x∈bltN,X.mg x=none
 nd:X.N.Nodup
 po:PassesOwn (model X.prog X.w) X.A X.env X.xe
 fld:∀c f,(Z.c.nm c).contains f=true->ClsF X.K (Z.c.cl c) f
theorem Yx.comp {X:Cx}{Z:Ct}{k:Nat} [Y:Yx X Z k] {scope:Scope}{N:List Str}{c:CC}(h:N.Nodup):Yx (z05 X scope N c) Z.nox k:=⟨Y.K,Y.room,Y.calm,XW.none,Y.blt,h,PassesOwn.never,Y.fld⟩
abbrev xI (Z:Ct)(fi:RI):TI:=fun σ H Q=>∃s ρ,s.H=H/\At Z s ρ σ/\(fi ρ s.h).sat (CI Z s Q) (XK Z)
theorem sxi {Z:Ct}{fi:RI}:SmI Z (xI Z fi) fi:=λ{s ρ σ Q} A q=>⟨s,ρ,rfl,A,q⟩
theorem sxo {Z:Ct}{fo:RO}:SmO Z (fun σ H Q=>∃s ρ,s.H=H/\At Z s ρ σ/\(fo ρ s.h).sat (CB Z s Q) (XK Z)) fo:=λ{s ρ σ Q} A q=>⟨s,ρ,rfl,A,q⟩
abbrev xO (Z:Ct)(fo:RO):TO:=fun σ H Q=>∃s ρ,s.H=H/\At Z s ρ σ/\(fo ρ s.h).sat (CB Z s Q) (XK Z)
structure QE (X:Cx)(Z:Ct)(e:Expr)(f:RE):Prop where
 h:PE X e (xR Z f)
structure QA (X:Cx)(Z:Ct)(e:List Expr)(f:RA):Prop where
 h:PA X e (xA Z f)
structure QT (X:Cx)(Z:Ct)(e:Expr)(f:RT):Prop where
 h:PT X e (xB Z f)
structure QW (X:Cx)(Z:Ct)(e:Expr)(f:RT):Prop where
 h:PW X e (xB Z f)
structure QS (X:Cx)(Z:Ct)(e:Stmt)(f:RS):Prop where
 h:PS X e (xS Z f)
structure QB (X:Cx)(Z:Ct)(e:List Stmt)(f:RS):Prop where
 h:PSs X e (xS Z f)
structure QO (X:Cx)(Z:Ct)(e:Option Expr)(f:RO):Prop where
 h:PO X e (xO Z f)
structure QI (X:Cx)(Z:Ct)(tg e:Expr)(f:RI):Prop where
 h:PI X tg e (xI Z f)
class CmpOk (X:Cx) (Z:Ct) (op:CmpOp) (g:D->D->TH->R D):Prop where
 ex:∃r,OpR X (compareOp op) r/\Sm2 Z r g
class BinOk (X:Cx) (Z:Ct) (op:Operator) (g:D->D->TH->R D):Prop where
 ex:∃r,OpR X (binaryOp op) r/\Sm2 Z r g
section
variable {X:Cx}{Z:Ct}{k:Nat} [Y:Yx X Z k] {m:Bool}
instance:CmpOk X Z .Lt gLt:=⟨_,zv5,zy1⟩
instance:CmpOk X Z .LtE gLe:=⟨_,zou,zyk⟩
instance:CmpOk X Z .Gt gGt:=⟨_,zt5,zxs⟩
instance:CmpOk X Z .GtE gGe:=⟨_,zud,zxf⟩
instance:CmpOk X Z .Is (gIs false):=⟨_,zts,zy4⟩
instance:CmpOk X Z .IsNot (gIs true):=⟨_,zf8,zut⟩
instance:CmpOk X Z .Eq (gEq false):=⟨_,zrb Y.K Y.room,zwj⟩
instance:CmpOk X Z .NotEq (gEq true):=⟨_,zr5 Y.K Y.room,zwj⟩
instance:CmpOk X Z .In (gIn false):=⟨_,Y.K.symm▸zvm Y.room,zw4⟩
instance:CmpOk X Z .NotIn (gIn true):=⟨_,Y.K.symm▸zmt Y.room,zw4⟩
instance:BinOk X Z .Add (gAdd m):=⟨_,znk,zue⟩
instance:BinOk X Z .Sub z9r:=⟨_,zmb,zs7⟩
instance:BinOk X Z .Mult (gMul m):=⟨_,zqo,zur⟩
instance:BinOk X Z .FloorDiv z19:=⟨_,zoz,zs9⟩
instance:BinOk X Z .Mod z1c:=⟨_,zrj,zuy⟩
instance:BinOk X Z .Pow zlk:=⟨_,zqv,zvh⟩
end
structure RCst (C:CT)(mg:Str->Option Value)(x:Str)(d:D):Prop where
 is:∃u v,mg x=some u/\RelV v u/\∀s,Is C s d v
noncomputable abbrev rCp (_N:List Str):=rComp
def z25:RT:=λ_ h=>.ok true h
theorem zhc {Z:Ct}:SmT Z zvc z25:=λ{s ρ σ Q} A q=>q (ι:=s.ι) (H:=s.H) (.refl A.g.rl)
section
variable {X:Cx}{Z:Ct}{k:Nat} [Y:Yx X Z k] {m:Bool}{a b c e o:Expr}{es rest:List Expr}{x f:Str}{pos p q ah ac:Pos}{fa fb fc fe:RE}{fA:RA}{fT fU:RT}{g g':D->D->TH->R D}{i j:Nat}{n:Int}
theorem q_v (hN:X.N[i]?=some x:=by rfl)(hv:Vis X.env.scope x:=by first | exact y4u rfl | exact y45 (y4u rfl) | exact y45 (y45 rfl))(hd:(x==("__debug__":Str))=false:=by decide)(hcd:(x==("__classdict__":Str))=false:=by decide):QE X Z (.Name x pos) (rV i):=⟨re (cv i hN hv hd hcd) (zvs i)⟩
theorem zqn:QE X Z (.Constant (.int n) j pos) (rC (.int n)):=⟨re zbr (zpp λ_=>by exact rfl)⟩
theorem zwe:QE X Z (.Constant (.bool m) j pos) (rC (.bl m)):=⟨re ztt (zpp λ_=>by exact rfl)⟩
theorem zm3:QE X Z (.Constant .none j pos) (rC .non):=⟨re zq0 (zpp λ_=>by exact rfl)⟩
theorem zoo:QE X Z (.Constant (.str x) j pos) (rC (.str x)):=⟨re zrl (zpp λ_=>by exact rfl)⟩
theorem zob {d:D}(h:RCst Z.c X.mg x d:=by assumption)(hg:Gl X x:=by rfl)(hd:(x==("__debug__":Str))=false:=by decide):QE X Z (.Name x pos) (rC d):=⟨by
 obtain⟨u,v,h1,h2,h3⟩:=h.is;exact re (zbt hg h1 h2 hd) (zpp λs=>h3 s)⟩
theorem zwd {op:Operator} [B:BinOk X Z op g] (ha:QE X Z a fa)(hb:QE X Z b fb):QE X Z (.BinOp a op b pos) (rOp g fa fb):=⟨by
 obtain⟨r,h1,h2⟩:=B.ex;exact re (zus h1 ha.h hb.h) (zcc h2 sx sx)⟩
theorem zp8 {op:CmpOp} [B:CmpOk X Z op g] (ha:QE X Z a fa)(hb:QE X Z b fb)(hm:behindInMarks op b=false:=by rfl):QE X Z (.Compare a [op] [b] pos) (rOp g fa fb):=⟨by
 obtain⟨r,h1,h2⟩:=B.ex;exact re (zk0 h1 ha.h hb.h hm) (zcc h2 sx sx)⟩
theorem zhs {op:CmpOp} [B:CmpOk X Z op g] (ha:QE X Z a fa)(hb:QE X Z b fb)(hm:behindInMarks op b=false:=by rfl):QT X Z (.Compare a [op] [b] pos) (z0b (rOp g fa fb)):=⟨by
 obtain⟨r,h1,h2⟩:=B.ex;exact rt (zr1 h1 ha.h hb.h hm) (zi3 (zcc h2 sx sx))⟩
theorem zas {op op':CmpOp} [B:CmpOk X Z op g] [B':CmpOk X Z op' g'] (ha:QE X Z a fa)(hb:QE X Z b fb)(hc:QE X Z c fc)(hm:lastMarks [op,op'] [b,c]=false:=by with_unfolding_all rfl):QE X Z (.Compare a [op,op'] [b,c] pos) (rChain g g' fa fb fc):=⟨by
 obtain⟨r,h1,h2⟩:=B.ex;obtain⟨r',h3,h4⟩:=B'.ex;exact re (zek h1 h3 ha.h hb.h hc.h hm) (zew h2 h4 sx sx sx)⟩
theorem zor (ha:QE X Z a fa):QE X Z (.UnaryOp .USub a pos) (rUn z5a fa):=⟨re (zvb zn0 ha.h) (ztb zsj sx)⟩
theorem zm8 (ha:QE X Z a fa):QE X Z (.UnaryOp .Not a pos) (zjb fa):=⟨re (znt ha.h) (zpx sx)⟩
theorem zm6 (ha:QE X Z a fa)(hb:QE X Z (.BoolOp .And (b::rest) pos) fb):QE X Z (.BoolOp .And (a::b::rest) pos) (z3x fa fb):=⟨re (zpc ha.h hb.h) (zmd sx sx)⟩
theorem zvp (ha:QE X Z a fa)(hb:QE X Z (.BoolOp .Or (b::rest) pos) fb):QE X Z (.BoolOp .Or (a::b::rest) pos) (zsh fa fb):=⟨re (zs4 ha.h hb.h) (zt6 sx sx)⟩
theorem zx3 (hc:QT X Z c fT)(ha:QE X Z a fa)(hb:QE X Z b fb):QE X Z (.IfExp c a b pos) (rIf fT fa fb):=⟨re (zgp hc.h ha.h hb.h) (zsv sxt sx sx)⟩
theorem zoe (ha:QE X Z e fa)(he:∀aZ,isTrue e X.env aZ=(do let v ←aZ;standAt e.pos;holding [v] (truthy v)):=by intro _;rfl):QT X Z e (z0b fa):=⟨rt (zof ha.h he) (zi3 sx)⟩
theorem zii (ha:QT X Z a fT):QT X Z (.UnaryOp .Not a pos) (z6e fT):=⟨rt (zm1 ha.h) (zpo sxt)⟩
theorem z99 (ha:QT X Z a fT)(hb:QW X Z (.BoolOp .And (b::rest) pos) fU):QW X Z (.BoolOp .And (a::b::rest) pos) (ze3 fT fU):=⟨rw_ (znp ha.h hb.h) (zoc sxt sxt)⟩
theorem zf7 (ha:QT X Z a fT)(hb:QW X Z (.BoolOp .Or (b::rest) pos) fU):QW X Z (.BoolOp .Or (a::b::rest) pos) (rOr fT fU):=⟨rw_ (zsu ha.h hb.h) (ztc sxt sxt)⟩
theorem zmy {op:BoolOp}(h:QE X Z a fa):QE X Z (.BoolOp op [a] pos) fa:=⟨zot h.h⟩
theorem zgs (h:QW X Z a fT):QT X Z a fT:=⟨h.h.pt⟩
theorem zcn (h:QT X Z a fT):QW X Z (.BoolOp .And [a] pos) fT:=⟨zit h.h⟩
theorem zh8 (h:QT X Z a fT):QW X Z (.BoolOp .Or [a] pos) fT:=⟨zmn h.h⟩
theorem zp7:QA X Z [] z01:=⟨ra z1w zra⟩
theorem zib (ha:QE X Z e fa)(hr:QA X Z es fA)(hs:starEach (e::es) X.env=(false,eval e X.env)::starEach es X.env:=by rfl):QA X Z (e::es) (z00 fa fA):=⟨ra (z0l ha.h hr.h hs) (zkc sx sxa)⟩
theorem zq6 {t:Nat}(h:QA X Z es fA):QE X Z (.Tuple es t pos) (rTup fA):=⟨re (zmc h.h) (zll sxa)⟩
theorem zqw (h:QA X Z es fA):QE X Z (.List es pos) (rLst m fA):=⟨re (zlp h.h) (znh sxa)⟩
theorem zp4:QE X Z (.Dict [] [] pos) (rNewD m):=⟨re (zjn m zf4) zld⟩
theorem zvy (h:QE X Z e fa):QE X Z e (rFz fa):=⟨re (zhy h.h) (zsi sx)⟩
include Y in
theorem zw2 (ha:QE X Z a fa)(hb:QE X Z b fb)(h1:zv8 b:=by exact λ_ _=>rfl)(h2:zd3 b:=by exact λ_ _=>rfl):QE X Z (.Subscript a b pos) (rAt fa fb):=⟨re (zhr (u:=tOp (rIx Z.c.K) (xR Z fa) (xR Z fb)) (zj6 (hu1 Y.room) ha.h hb.h h1) (ztq (by rw[Y.K];exact zpy) ha.h hb.h h2)) (zrn sx sx)⟩
end
end L2.RX
set_option Elab.async false
set_option linter.all false
set_option maxRecDepth 100000
namespace L2.RX
open PySem PySem.Spec PyProof.Rows L2.EX
structure SC (X:Cx)(x:Str)(pos:Pos)(e:Expr)(es:List Expr):Prop where
 g:Gl X x
 d:(x==("__debug__":Str))=false
 n:x ≠ "__name__"
 st:starEach (e::es) X.env=(false,eval e X.env)::starEach es X.env
 pl:(backTo pos (starEach es X.env)).any (·.1)=false
class BOk (X:Cx) (Z:Ct) (x:Str) (g:List D->TH->R D):Prop where
 ex:∃r v,CallR X v r/\SmN Z r g/\X.mg x=none/\bootBuiltins x=some v/\((∃i,v = .builtin i)∨∃i,v = .type i)
theorem Yx.no {X:Cx}{Z:Ct}{k:Nat}(Y:Yx X Z k)(x:Str)(h:bltN.contains x=true:=by decide +kernel):X.mg x=none:=Y.blt x (y35.mp h)
def zlq (N:List Str)(f:Str)(n:Nat):Bool:=match N,n with
 | [],_=>false
 | g::_,0=>g==f
 | g::N,n+1=>!(g==f)&&zlq N f n
theorem z7v:∀{N:List Str} {f:Str} {n:Nat},zlq N f n=true->FAt N f n
 | g::N,f,0,h=>⟨by rw[show g=f from beq_iff_eq.mp h];rfl,λm hm=>absurd hm (y4j _)⟩
 | g::N,f,n+1,h=>by
  obtain⟨h1,h2⟩:=y4s.mp h;obtain⟨i1,i2⟩:=z7v h2;refine⟨i1,λm hm=>?_⟩;cases m with
  | zero=>intro z;cases z;simp at h1
  | succ m=>exact i2 m (Nat.lt_of_succ_lt_succ hm)
theorem z7x:∀{N:List Str} {f:Str} {n:Nat},zlq N f n=true->N.contains f=true
 | g::N,f,0,h=>by rw[show g=f from beq_iff_eq.mp h];simp
 | g::N,f,n+1,h=>by
  have:=z7x (y4s.mp h).2;simp only[List.contains_cons,this,Bool.or_true]
theorem zhe {N:List Str}{f:Str}(h:N.contains f=false):f ∉ N:=λz=>by rw[y35.mpr z] at h;cases h
section
variable {X:Cx}{Z:Ct}{k:Nat} [Y:Yx X Z k] {m:Bool}
instance:BOk X Z "len" gLen:=⟨_,_,zkf,Y.K▸zs3,Y.no _,PySem.boot_len,.inl ⟨_,rfl⟩⟩
instance:BOk X Z "any" (gBls bAny):=⟨_,_,znx Y.calm,Y.K▸zul,Y.no _,zpj,.inl ⟨_,rfl⟩⟩
instance:BOk X Z "all" (gBls bAll):=⟨_,_,zr9 Y.calm,Y.K▸zsn,Y.no _,by decide +kernel,.inl ⟨_,rfl⟩⟩
instance:BOk X Z "sum" gSum:=⟨_,_,zqe Y.calm,Y.K▸zsg,Y.no _,zod,.inl ⟨_,rfl⟩⟩
instance:BOk X Z "min" gMin:=⟨_,_,zkp Y.calm,Y.K▸zrz,Y.no _,znq,.inl ⟨_,rfl⟩⟩
instance:BOk X Z "max" gMax:=⟨_,_,zlf Y.calm,ztw,Y.no _,zpv,.inl ⟨_,rfl⟩⟩
instance:BOk X Z "abs" gAbs:=⟨_,_,zos,zty,Y.no _,zp0,.inl ⟨_,rfl⟩⟩
instance:BOk X Z "list" (gList m):=⟨_,_,zep Y.calm,Y.K▸zma,Y.no _,z88,.inr ⟨_,rfl⟩⟩
end
structure SM (X:Cx)(o:Expr)(m:Str)(ah:Pos)(e:Expr)(es:List Expr)(ac:Pos):Prop where
 base:attributeBase o m X.env (eval o X.env)=eval o X.env
 few:((backTo ac (starEach (e::es) X.env)).all (λx=>!x.1)&&(backToKw ac (keywordEach [] X.env)).all (λx=>x.1.isSome)
  &&decide ((e::es).length+([]:List Keyword).length+(if ([]:List Keyword).isEmpty then 0 else 1)<30))=true
 line:(ah.endLine==ac.line)=true
 st:starEach (e::es) X.env=(false,eval e X.env)::starEach es X.env
 pl:(backTo ac (starEach es X.env)).any (·.1)=false
section
variable {X:Cx}{Z:Ct}{k:Nat} [Y:Yx X Z k] {m:Bool}{a b c e o tg:Expr}{es rest aQ:List Expr}{x f:Str}{pos p p1 p2 aF ah ac tp:Pos}{fa fb fc fe:RE}{fA:RA}{g:List D->TH->R D}{i j kt:Nat}{ev:List D->TH->R D}{ps:List Str}
theorem q_b [B:BOk X Z x g] (ha:QA X Z (e::es) fA)(h:SC X x pos e es:=by exact⟨rfl,by decide,by decide,rfl,rfl⟩):QE X Z (.Call (.Name x p) (e::es) [] pos) (rCB g fA):=⟨by
 obtain⟨r,v,h1,h2,h3,h4,⟨i,rfl⟩ | ⟨i,rfl⟩⟩:=B.ex
 ·exact re (zrw h1 h3 h4 ha.h h.g h.n h.d h.st h.pl) (zke h2 sxa)
 ·exact re (zws h1 h3 h4 ha.h h.g h.n h.d h.st h.pl) (zke h2 sxa)⟩
include Y
theorem zik (ha:QA X Z (e::es) fA)(h:SC X "dict" pos e es:=by exact⟨rfl,by decide,by decide,rfl,rfl⟩):QE X Z (.Call (.Name "dict" p) (e::es) [] pos) (rCB (gDict m) fA):=⟨re (zjn m (zws (zfr Y.calm) (Y.no _) zdb ha.h h.g h.n h.d h.st h.pl)) (zke (r:=λxs H Q=>zc2 X.K xs H (uFz m Q)) (Y.K▸zo2) sxa)⟩
theorem zvv (h1:QE X Z a fa)(h2:QE X Z b fb)(hg:Gl X "dict":=by rfl)(hg2:Gl X "zip":=by rfl)(hs0:starEach [.Call (.Name "zip" p2) [a,b] [] aF] X.env = [(false,eval (.Call (.Name "zip" p2) [a,b] [] aF) X.env)]:=by rfl)(hs:starEach [a,b] X.env = [(false,eval a X.env),(false,eval b X.env)]:=by rfl)(hs2:starEach [b] X.env = [(false,eval b X.env)]:=by rfl) :
  QE X Z (.Call (.Name "dict" p1) [.Call (.Name "zip" p2) [a,b] [] aF] [] pos) (rDz m fa fb):=⟨re (zjn m (zfk (Y.no _) (Y.no _) h1.h h2.h Y.calm hg hg2 hs0 hs hs2)) (Y.K▸zu2 sx sx)⟩
theorem z8o (h1:QE X Z a fa)(hg:Gl X "list":=by rfl)(hg2:Gl X "range":=by rfl)(hs0:starEach [Expr.Call (.Name "range" p2) [a] [] aF] X.env = [(false,eval (Expr.Call (.Name "range" p2) [a] [] aF) X.env)]:=by rfl)(hs:starEach [a] X.env = [(false,eval a X.env)]:=by rfl) :
  QE X Z (.Call (.Name "list" p1) [.Call (.Name "range" p2) [a] [] aF] [] pos) (rLRange m fa):=⟨re (zaw (Y.no _) (Y.no _) h1.h hg hg2 hs0 hs Y.calm) (ze6 sx)⟩
theorem zwq (h1:QE X Z a fa)(hg:Gl X "len":=by rfl)(hg2:Gl X "set":=by rfl)(hs0:starEach [.Call (.Name "set" p2) [a] [] aF] X.env = [(false,eval (.Call (.Name "set" p2) [a] [] aF) X.env)]:=by rfl)(hs:starEach [a] X.env = [(false,eval a X.env)]:=by rfl) :
  QE X Z (.Call (.Name "len" p1) [.Call (.Name "set" p2) [a] [] aF] [] pos) (rLs fa):=⟨re (zdv (Y.no _) (Y.no _) h1.h Y.calm hg hg2 hs0 hs) (Y.K▸zu3 sx)⟩
theorem zio (ho:QE X Z o fa)(he:QE X Z a fb)(hf:QE X Z b fc)(h:M2 X o "get" ah a b ac:=by exact⟨rfl,rfl,rfl,rfl⟩):QE X Z (.Call (.Attribute o "get" ah) [a,b] [] ac) (rGet2 fa fb fc):=⟨re (zga (hu1 Y.room) ho.h he.h hf.h h) (zk5 sx sx sx)⟩
omit Y
theorem zih (ho:QE X Z o fa)(he:QE X Z a fb)(h:M1 X o "pop" ah a ac:=by exact⟨rfl,rfl,rfl,rfl⟩):QE X Z (.Call (.Attribute o "pop" ah) [a] [] ac) (rDpop fa fb):=⟨re (zg6 ho.h he.h h) (zk9 sx sx)⟩
theorem znn (ho:QE X Z o fa)(he:QE X Z a fb)(h:M1 X o "update" ah a ac:=by exact⟨rfl,rfl,rfl,rfl⟩):QE X Z (.Call (.Attribute o "update" ah) [a] [] ac) (rUpd fa fb):=⟨re (zky ho.h he.h h) (zme sx sx)⟩
theorem zm5 (ho:QE X Z o fa)(ha:QA X Z (e::es) fA)(h:SM X o "append" ah e es ac:=by exact⟨rfl,rfl,rfl,rfl,rfl⟩):QE X Z (.Call (.Attribute o "append" ah) (e::es) [] ac) (rApp fa fA):=⟨re (z6x ho.h ha.h h.base h.few h.line h.st h.pl) (zoq sx sxa)⟩
theorem zq8 (ho:QE X Z o fa)(ha:QA X Z (e::es) fA)(h:SM X o "extend" ah e es ac:=by exact⟨rfl,rfl,rfl,rfl,rfl⟩):QE X Z (.Call (.Attribute o "extend" ah) (e::es) [] ac) (rExt fa fA):=⟨re (z6i ho.h ha.h h.base h.few h.line h.st h.pl) (zlm sx sxa)⟩
theorem zr6 (ho:QE X Z o fa)(az:attributeBase o "pop" X.env (eval o X.env)=eval o X.env:=by rfl)(ar:(ah.endLine==ac.line)=true:=by rfl):QE X Z (.Call (.Attribute o "pop" ah) [] [] ac) (rPopL fa):=⟨re (zby ho.h az ar) (zoy sx)⟩
theorem zba (ho:QE X Z o fa)(az:attributeBase o "clear" X.env (eval o X.env)=eval o X.env:=by rfl)(ar:(ah.endLine==ac.line)=true:=by rfl):QE X Z (.Call (.Attribute o "clear" ah) [] [] ac) (rClr fa):=⟨re (z84 ho.h az ar) (zff sx)⟩
include Y
theorem zc9 (ho:QE X Z o fa)(ha:QA X Z (e::es) fA)(h:SM X o "index" ah e es ac:=by exact⟨rfl,rfl,rfl,rfl,rfl⟩):QE X Z (.Call (.Attribute o "index" ah) (e::es) [] ac) (rIdx fa fA):=⟨re (z7f Y.room ho.h ha.h h.base h.few h.line h.st h.pl) (zfi sx sxa)⟩
theorem zwm {lo hi:Option Expr}{fl fu:RO}(he:QE X Z a fa)(hl:QO X Z lo fl)(hu:QO X Z hi fu):QE X Z (.Subscript a (.Slice lo hi none p2) pos) (rSl m fa fl fu):=⟨re (zfc zy3 he.h hl.h hu.h) (Y.K▸zv0 sx sxo sxo)⟩
omit Y in
theorem zwr:QO X Z none rO0:=⟨λp1 s σ H Q I ⟨s0,ρ,eH,A,q⟩=>ze5 p1 s σ H Q I (by subst eH;exact zjl A q)⟩
omit Y in
theorem zx2 (h:QE X Z a fa):QO X Z (some a) (rO1 fa):=⟨λp1 s σ H Q I ⟨s0,ρ,eH,A,q⟩=>z87 h.h p1 s σ H Q I (by subst eH;exact zjt sx A q)⟩
theorem zq4 {i1 i2:Int}{j1 j2:Nat}{q1 q2:Pos}{bb:Bool}(he:QE X Z a fa)(h1:i1=(if bb then 0 else 1):=by rfl)(h2:i2=2:=by rfl):QE X Z (.Subscript a (.Slice (some (.Constant (.int i1) j1 q1)) none (some (.Constant (.int i2) j2 q2)) p2) pos) (rSl2 m bb fa):=⟨by
 subst h1 h2;exact re (zkd he.h (z87 zbr) ze5 (z87 zbr)) (Y.K▸zp5 sx bb)⟩
theorem zrc {c n:Nat}(he:QE X Z a fa)(hf:zlq (Z.c.nm c) f n=true:=by rfl)(hb:attributeBase a f X.env (eval a X.env)=eval a X.env:=by rfl):QE X Z (.Attribute a f pos) (rFld c n fa):=⟨re (zmp (Y.fld c f (z7x hf)) he.h hb) (zph (z7v hf) sx)⟩
theorem zbz (ho:QE X Z o fa)(hg:Gl X "list":=by rfl)(az:attributeBase o "items" X.env (eval o X.env)=eval o X.env:=by rfl)(ar:(ah.endLine==ac.line)=true:=by rfl)
  (hs:starEach [.Call (.Attribute o "items" ah) [] [] ac] X.env = [(false,eval (.Call (.Attribute o "items" ah) [] [] ac) X.env)]:=by rfl):QE X Z (.Call (.Name "list" p) [.Call (.Attribute o "items" ah) [] [] ac] [] pos) (rItems m fa):=⟨re (zfa (Y.no _) ho.h hg Y.calm az ar hs) (zey sx)⟩
theorem zwy (h:QE X Z e fa):QI X Z tg e (rIs fa):=⟨ri (zhg (zo8 h.h) (zhg (zk3 h.h) (zpt h.h))) (Y.K▸zov sx)⟩
theorem zx9 (ha:QA X Z [a] fA)(hg:Gl X "range":=by rfl)(hs:starEach [a] X.env = [(false,eval a X.env)]:=by rfl):QI X Z tg (.Call (.Name "range" p) [a] [] pos) (rIr fA):=⟨ri (zs6 (Y.no _) ha.h hg hs) (zu8 sxa)⟩
theorem zvo (ha:QE X Z a fa)(hg:Gl X "enumerate":=by rfl)(hs:starEach [a] X.env = [(false,eval a X.env)]:=by rfl):QI X Z (.Tuple aQ kt tp) (.Call (.Name "enumerate" p) [a] [] pos) (rIe fa):=⟨ri (zju (Y.no _) ha.h hg hs) (Y.K▸zjd sx)⟩
theorem zww (h1:QE X Z a fa)(h2:QE X Z b fb)(hg:Gl X "zip":=by rfl)(hs:starEach [a,b] X.env = [(false,eval a X.env),(false,eval b X.env)]:=by rfl)(hs2:starEach [b] X.env = [(false,eval b X.env)]:=by rfl):QI X Z (.Tuple aQ kt tp) (.Call (.Name "zip" p) [a,b] [] pos) (rIz fa fb):=⟨ri (zjo (Y.no _) h1.h h2.h hg hs hs2) (Y.K▸zh0 sx sx)⟩
theorem zn3 {n:String}(h1:QE X Z a fa)(h2:QE X Z b fb)(hg:Gl X "zip":=by rfl)(hs:starEach [a,b] X.env = [(false,eval a X.env),(false,eval b X.env)]:=by rfl)(hs2:starEach [b] X.env = [(false,eval b X.env)]:=by rfl):QI X Z (.Name n tp) (.Call (.Name "zip" p) [a,b] [] pos) (rIz fa fb):=⟨ri (zg9 (Y.no _) h1.h h2.h hg hs hs2) (Y.K▸zh0 sx sx)⟩
theorem zmf (h1:QE X Z a fa)(h2:QE X Z b fb)(h3:QE X Z c fc)(hg:Gl X "zip":=by rfl)(hs:starEach [a,b,c] X.env = [(false,eval a X.env),(false,eval b X.env),(false,eval c X.env)]:=by rfl)(hs2:starEach [b,c] X.env = [(false,eval b X.env),(false,eval c X.env)]:=by rfl)(hs3:starEach [c] X.env = [(false,eval c X.env)]:=by rfl) :
  QI X Z (.Tuple aQ kt tp) (.Call (.Name "zip" p) [a,b,c] [] pos) (rIz3 fa fb fc):=⟨ri (zjk (Y.no _) h1.h h2.h h3.h hg hs hs2 hs3) (Y.K▸zlh sx sx sx)⟩
theorem zi2 {k':Nat}(ha:QA X Z (e::es) fA)(F:RDef X.bg Z.c x k' ps ev:=by assumption)(hk:y1m k' k=true:=by rfl)(h:SC X x pos e es:=by exact⟨rfl,by decide,by decide,rfl,rfl⟩):QE X Z (.Call (.Name x p) (e::es) [] pos) (rCB ev fA):=⟨zre F (Y.room.mono (y14 hk)) Y.xw ha.h h.g h.d h.st h.pl⟩
theorem zht {k' c:Nat}(ha:QA X Z (e::es) fA)(F:RCls X.bg Z.c x c k' ps ev:=by assumption)(hk:y1m (k'+1) k=true:=by rfl)(h:SC X x pos e es:=by exact⟨rfl,by decide,by decide,rfl,rfl⟩):QE X Z (.Call (.Name x p) (e::es) [] pos) (rCB (gMake c ev) fA):=⟨zrd F (Y.room.mono (y14 hk)) ha.h h.g h.d h.st h.pl⟩
theorem zcm {k' c:Nat}(F:RCls X.bg Z.c x c k' ps ev:=by assumption)(hk:y1m (k'+1) k=true:=by rfl)(hg:Gl X x:=by rfl)(hd:(x==("__debug__":Str))=false:=by decide):QE X Z (.Call (.Name x p) [] [] pos) (rCB (gMake c ev) z01):=⟨zkl F (Y.room.mono (y14 hk)) hg hd⟩
theorem zgy {k' c:Nat}(he:QE X Z o fa)(ha:QA X Z (e::es) fA)(F:RMet X.bg Z.c c x k' ps ev:=by assumption)(hk:y1m k' k=true:=by rfl)(hm:(Z.c.nm c).contains x=false:=by rfl)
  (hst:starEach (e::es) X.env=(false,eval e X.env)::starEach es X.env:=by rfl) (hpl:(backTo pos (starEach es X.env)).any (·.1)=false:=by rfl)
  (ht:eval (.Call (.Attribute o x ah) (e::es) [] pos) X.env=(do
   let ov ←eval o X.env
   standAt ah.atName
   let (f,first) ←holding [ov] (getMethod ov x (do return (←importBound o X.env).getD true))
   callWith pos f first (backTo pos (starEach (e::es) X.env)) (backToKw pos (keywordEach [] X.env))):=by rfl):QE X Z (.Call (.Attribute o x ah) (e::es) [] pos) (rMeth c ev fa fA):=⟨zro F (Y.room.mono (y14 hk)) Y.xw (zhe hm) he.h ha.h hst hpl ht⟩
theorem zdc {k' c:Nat}(he:QE X Z o fa)(F:RMet X.bg Z.c c x k' ps ev:=by assumption)(hk:y1m k' k=true:=by rfl)(hm:(Z.c.nm c).contains x=false:=by rfl)
  (ht:eval (.Call (.Attribute o x ah) [] [] pos) X.env=(do
   let ov ←eval o X.env
   standAt ah.atName
   let (f,first) ←holding [ov] (getMethod ov x (do return (←importBound o X.env).getD true))
   callWith pos f first (backTo pos (starEach [] X.env)) (backToKw pos (keywordEach [] X.env))):=by rfl):QE X Z (.Call (.Attribute o x ah) [] [] pos) (rMeth c ev fa z01):=⟨zla F (Y.room.mono (y14 hk)) Y.xw (zhe hm) he.h ht⟩
end
end L2.RX
set_option Elab.async false
set_option linter.all false
set_option maxRecDepth 100000
namespace L2.RX
open PySem PySem.Spec PyProof.Rows L2.EX
def tn:Nat->String
 | 0=>"NoneType"
 | 1=>"bool"
 | 2=>"int"
 | 3=>"str"
 | 4=>"list"
 | 5=>"tuple"
 | _=>"dict"
noncomputable def tc (h:TH):D->Option Nat
 | .non=>some 0
 | .bl _=>some 1
 | .int _=>some 2
 | .str _=>some 3
 | .lst _=>some 4
 | .tup _=>some 5
 | .at i=>match eg h i with
  | some (.ml _)=>some 4
  | some (.mr _)=>some 4
  | some (.md _ _)=>some 6
  | _=>none
 | _=>none
def zwh (t c:Nat):Bool:=y17 t c||(y17 t 1&&y17 c 2)
def TyX (K:y00)(H:Hp)(x:V)(t:String):Prop:=TyOf K H x (.type t)∨∃a ys,x = .ref a/\SqT K H a ys/\t = "tuple"
def uTy (K:y00)(xs:List V)(H:Hp)(Q:VK):Prop:=∃x t b v c,xs = [x,v]/\TyX K H x t/\RelV v c/\y1b K (.type t) c=some b/\(∀u,RelV v u->u=c)/\Q (.bl b) H
theorem zmh {X:Cx}:CallR X (.builtin "isinstance") (uTy X.K):=by
 intro aa s σ H xs us Q I r ⟨x,t,b,v,c,e,ty,_,kt,uq,q⟩;subst e;obtain⟨u,w,rfl,rx,rc⟩:=z62 r;cases uq w rc;rcases ty with ty | ⟨a,ys,rfl,sq,rfl⟩
 ·exact zam I rx ty kt λtk=>⟨.bl b,H,I.tok tk,rfl,q⟩
 ·cases (show u=Value.ref a from rx)
  obtain⟨its,_,p,_⟩:=I.tuple sq;obtain⟨o,h1,h2,_⟩:=p;exact y11 y53 I.kIn ⟨o,h1,h2⟩ kt (λz=>nomatch z) λtk=>⟨.bl b,H,I.tok tk,rfl,q⟩
section
variable {C:CT}{s:Sx}{d:D}{v:V}{t:Nat}
theorem zvd (R:Rl C s)(q:Is C s d v)(e:tc s.h d=some t):TyX C.K s.H v (tn t):=by
 unfold tc at e
 split at e
 ·cases e;cases (show v=_ from q);exact .inl .non
 ·cases e;cases (show v=_ from q);exact .inl (.bl _)
 ·cases e;cases (show v=_ from q);exact .inl (.int _)
 ·cases e;cases (show v=_ from q);exact .inl (.str _)
 ·cases e;obtain⟨a,xs,rfl,h,_⟩:=q;exact .inl (.lst (z0x _ _ h))
 ·cases e;obtain⟨a,xs,rfl,h,_⟩:=q;exact .inr ⟨a,xs,rfl,Same.tup z0x h,rfl⟩
 ·obtain⟨a,e1,rfl⟩:=q
  split at e
  ·rename_i z;cases e;rw[z0r] at z;obtain⟨xs,h,_⟩:=R.at_ _ _ a z e1;exact .inl (.lst h)
  ·rename_i z;cases e;rw[z0r] at z;obtain⟨o,h⟩:=R.at_ _ _ a z e1;exact .inl (.frz h)
  ·rename_i z;cases e;rw[z0r] at z;obtain⟨xs,h,_⟩:=R.at_ _ _ a z e1;exact .inl (.dK h)
  ·cases e
 ·cases e
theorem zv7 {h:TH}(e:tc h d=some t):t<7:=by
 unfold tc at e
 split at e<;>first | (cases e;decide) | (cases e;done) | skip
 split at e<;>first | (cases e;decide) | (cases e;done)
end
theorem zsl (K:y00):∀{t c:Nat},t<7->c<7->c≠0->y1b K (.type (tn t)) (.type (tn c))=some (zwh t c):=by
 intro t c ht hc h0;have e1:tn t ∈ ["NoneType","bool","int","str","list","tuple","dict"]:=by
  match t,ht with
  | 0,_ | 1,_ | 2,_ | 3,_ | 4,_ | 5,_ | 6,_=>decide
 have e2:tn c ∈ ["int","bool","str","list","tuple","dict"]:=by
  match c,hc,h0 with
  | 1,_,_ | 2,_,_ | 3,_,_ | 4,_,_ | 5,_,_ | 6,_,_=>decide
 rw[zks K e1 e2]
 match t,ht,c,hc,h0 with
 | 0,_,1,_,_ | 0,_,2,_,_ | 0,_,3,_,_ | 0,_,4,_,_ | 0,_,5,_,_ | 0,_,6,_,_
 | 1,_,1,_,_ | 1,_,2,_,_ | 1,_,3,_,_ | 1,_,4,_,_ | 1,_,5,_,_ | 1,_,6,_,_
 | 2,_,1,_,_ | 2,_,2,_,_ | 2,_,3,_,_ | 2,_,4,_,_ | 2,_,5,_,_ | 2,_,6,_,_
 | 3,_,1,_,_ | 3,_,2,_,_ | 3,_,3,_,_ | 3,_,4,_,_ | 3,_,5,_,_ | 3,_,6,_,_
 | 4,_,1,_,_ | 4,_,2,_,_ | 4,_,3,_,_ | 4,_,4,_,_ | 4,_,5,_,_ | 4,_,6,_,_
 | 5,_,1,_,_ | 5,_,2,_,_ | 5,_,3,_,_ | 5,_,4,_,_ | 5,_,5,_,_ | 5,_,6,_,_
 | 6,_,1,_,_ | 6,_,2,_,_ | 6,_,3,_,_ | 6,_,4,_,_ | 6,_,5,_,_ | 6,_,6,_,_=>rfl
noncomputable def rInst (c:Nat) (fa:RE):RE:=fun ρ h=>(fa ρ h).bnd λx h=>ofO (tc h x) λt=>.ok (.bl (zwh t c)) h
noncomputable def rIsX (bs:Nat->Option Bool) (fa:RE):RE:=fun ρ h=>(fa ρ h).bnd λx h=>match x with
 | .non=>.ok (.bl false) h
 | .at i=>match eg h i with
  | some (.mx c)=>ofO (bs c) λb=>.ok (.bl b) h
  | _=>.no
 | _=>.no
structure IsXF (C:CT)(K:y00)(c:Value)(bs:Nat->Option Bool):Prop where
 non:y1b K (.type "NoneType") c=some false
 exc:∀k b,bs k=some b->ExcK K (C.xc k)/\y1b K (.ref (C.xc k)) c=some b
section
variable {X:Cx}{Z:Ct}{k:Nat} [Y:Yx X Z k] {m:Bool}{a b c e o tg elt iter:Expr}{es rest aQ:List Expr}{x y f:Str}{pos p q ah ac tp aR py au:Pos}{fa fb fc fe:RE}{fA:RA}{fT fU:RT}{i j n kt:Nat}{ev:List D->TH->R D}{ps N:List Str}{fr:List Nat}{scope:Scope}{fi:RI}{g:TG}{fg:RG}{st:Stmt}{sts body:List Stmt}{fs fu:RS}
include Y
theorem zhh {nc:Nat}(ha:QE X Z e fa)(hy:bltN.contains y=true:=by decide +kernel)(hv:bootBuiltins y=some (.type (tn nc)):=by decide +kernel)(hn:nc<7:=by decide)(h0:nc≠0:=by decide)(h:SC X "isinstance" pos e [.Name y q]:=by exact⟨rfl,by decide,by decide,rfl,rfl⟩)(h2:SC X y pos (.Name y q) []:=by exact⟨rfl,by decide,by decide,rfl,rfl⟩) :
  QE X Z (.Call (.Name "isinstance" p) [e,.Name y q] [] pos) (rInst nc fa):=⟨by
 refine re (zrw zmh (Y.no _) z1n (z0l ha.h (z0l (zqq (Y.no y hy) hv h2.g h2.n h2.d) z1w h2.st) h.st) h.g h.n h.d h.st h.pl) λA q=>?_;refine sx A <| q.go λx h1 q0 ι H w g1 i1=>?_
 obtain⟨t,e1,q1⟩:=q0.o;exact⟨w,_,_,.ty (tn nc),.type (tn nc),rfl,Y.K▸zvd (s:=⟨ι,h1,H⟩) g1.rl i1 e1,rfl,zsl _ (zv7 e1) hn h0,λu z=>z,q1 g1 rfl⟩⟩
theorem zlz {bs:Nat->Option Bool}{cv:Value}{v:V}(F:IsXF Z.c X.K cv bs)(ha:QE X Z e fa)(hN:PE X (.Name y q) (tC v))(hr:RelV v cv)(hu:∀u,RelV v u->u=cv)(hv:(∃D,v = .ref D)∨∃T,v = .ty T)(h:SC X "isinstance" pos e [.Name y q]:=by exact⟨rfl,by decide,by decide,rfl,rfl⟩)(h2:starEach [.Name y q] X.env=(false,eval (.Name y q) X.env)::starEach [] X.env:=by rfl) :
  QE X Z (.Call (.Name "isinstance" p) [e,.Name y q] [] pos) (rIsX bs fa):=⟨by
 have P1:=zrw (p:=p) (zmh (X:=X)) (Y.no _) z1n (z0l ha.h (z0l hN z1w h2) h.st) h.g h.n h.d h.st h.pl;have P2:=zrw (p:=p) (zqa (X:=X)) (Y.no _) z1n (z0l ha.h (z0l hN z1w h2) h.st) h.g h.n h.d h.st h.pl
 refine re (zhr P1 P2) λ{s ρ σ Q} A q=>?_;unfold rIsX at q;have q:=q.bnd
 by_cases z:∃h1,fa ρ s.h = .ok .non h1
 ·obtain⟨h1,z⟩:=z;refine .inl (sx A ?_);rw[z] at q ⊢
  exact λ{ι H w} g1 i1=>by
   cases (show w=_ from i1)
   exact⟨.non,"NoneType",false,v,cv,rfl,.inl .non,hr,F.non,hu,q g1 rfl⟩
 ·refine .inr (sx A ?_);revert q z;cases fa ρ s.h with
  | ok d h1 =>
   intro q z ι H w g1 i1;cases d with
   | non=>exact absurd ⟨h1,rfl⟩ z
   | «at» i =>
    obtain⟨a,e1,rfl⟩:=i1;have q:(match eg h1 i with
     | some (.mx c)=>ofO (bs c) λb=>R.ok (.bl b) h1
     | _=>.no:R D).sat (CK Z s Q) (XK Z):=q
    split at q
    ·rename_i c z;rw[z0r] at z;obtain⟨b,e2,q1⟩:=q.o;have ho:H a=some (z9x a (Z.c.xc c)):=g1.rl.at_ i _ a z e1;obtain⟨x1,x2⟩:=F.exc c b e2;rcases hv with ⟨D,rfl⟩ | ⟨T,rfl⟩
     ·cases (show cv=Value.ref D from hr)
      exact⟨_,b,ho,x1,x2,q1 g1 rfl⟩
     ·cases (show cv=Value.type T from hr)
      exact⟨_,b,ho,x1,x2,q1 g1 rfl⟩
    ·exact q.elim
   | bl _=>exact q.elim
   | int _=>exact q.elim
   | str _=>exact q.elim
   | lst _=>exact q.elim
   | tup _=>exact q.elim
   | dic _ _=>exact q.elim
   | fn _=>exact q.elim
  | ex c h1=>intro q _;exact q
  | no=>intro q _;exact q⟩
end
end L2.RX
set_option Elab.async false
set_option linter.all false
set_option maxRecDepth 100000
namespace L2.RX
open PySem PySem.Spec PyProof.Rows L2.EX
structure SCo (X:Cx)(scope:Scope)(N:List Str)(fr:List Nat)(n:Nat)(iter:Expr):Prop where
 nd:N.Nodup
 len:N.length=n+fr.length
 fr:fr.map (λi=>X.N[i]?)=(N.drop n).map some
 sc:∀x∈N.drop n,scope.names.lookup x=some .free
 fi:FreeIn X.env ((scope.names.filter λy=>y.2 == .free).map (·.1))
 kind:scope.kind = .function
 cell:∀y∈scope.names,y.2 ≠ .cell
 nm:∀y∈scope.names,y.2 = .local->scope.names.lookup y.1=some .local
 fs:∀x,foldedSetIterable iter X.env x=pure x
structure QG (X:Cx)(tg:Expr)(g:TG):Prop where
 h:PG X tg g
def zhk:RS:=λ_ _=>.no
noncomputable def rFzS (i:Nat) (f:RS):RS:=fun ρ h=>(f ρ h).bnd λx h=>match x with
 | .nx ρ=>match eg ρ i with
  | some (some d)=>ofO (eMd h d) λp=>.ok (.nx (est ρ i (some (.dic p.2.1 p.2.2)))) (hs h p.1 .no)
  | _=>.no
 | .rt v=>.ok (.rt v) h
section
variable {X:Cx}{Z:Ct}{k:Nat} [Y:Yx X Z k] {m:Bool}{a b c e o tg elt iter:Expr}{es rest aQ:List Expr}{x y f:Str}{pos p q ah ac tp aR py px pz au np:Pos}{fa fb fc fe:RE}{fA:RA}{fT fU:RT}{i j l n kt:Nat}{ev:List D->TH->R D}{ps N:List Str}{fr:List Nat}{scope:Scope}{fi:RI}{g:TG}{fg:RG}{st:Stmt}{sts body alt:List Stmt}{fs fu:RS}{w:Option Nat}
omit Y in
theorem z1d (Y:Yx X Z k)(hi:X.N[i]?=some x:=by rfl)(hx:Loc X.env.scope x:=by first | exact y4u rfl | exact y45 rfl)(hf:X.fn x=true∨X.env.scope.names.lookup x=some .local:=by first | exact .inl rfl | exact .inr rfl):QG X (.Name x pos) (z1m i):=⟨zkb i Y.nd hi hx hf⟩
omit Y in
theorem ze9 (Y:Yx X Z k)(h1:QG X (.Name x px) (z1m i))(h2:QG X (.Name y py) (z1m j)):QG X (.Tuple [.Name x px,.Name y py] kt pos) (xT2 Z.c.K i j):=⟨Y.K▸zux h1.h h2.h Y.calm⟩
omit Y in
theorem zru {z:Str}(Y:Yx X Z k)(h1:QG X (.Name x px) (z1m i))(h2:QG X (.Name y py) (z1m j))(h3:QG X (.Name z pz) (z1m l)):QG X (.Tuple [.Name x px,.Name y py,.Name z pz] kt pos) (xT3 Z.c.K i j l):=⟨Y.K▸ztf h1.h h2.h h3.h Y.calm⟩
include Y
theorem z5b (G:SmG Z.nox g fg)(hk:GOk n g)(S:SCo X scope N fr n iter)(hi:QI X Z tg iter fi)(hg:∀c:CC,Yx (z05 X scope N c) Z.nox k->QG (z05 X scope N c) tg g)(he:∀c:CC,Yx (z05 X scope N c) Z.nox k->QE (z05 X scope N c) Z.nox elt fa) :
  QE X Z (.ListComp elt [⟨tg,iter,[],0⟩] scope pos) (rCp N m fi n fr fg z25 fa):=⟨re (ziy n hi.h (λc h=>(hg c (.comp h)).h) (λc h=>(he c (.comp h)).h) S.nd hk S.len S.fr S.sc S.fi S.kind S.cell S.nm Y.calm S.fs) (z5t n fr sxi G zhc sx)⟩
theorem z5m (G:SmG Z.nox g fg)(hk:GOk n g)(S:SCo X scope N fr n iter)(hi:QI X Z tg iter fi)(hg:∀c:CC,Yx (z05 X scope N c) Z.nox k->QG (z05 X scope N c) tg g)(ht:∀cc:CC,Yx (z05 X scope N cc) Z.nox k->QT (z05 X scope N cc) Z.nox c fT)(he:∀c:CC,Yx (z05 X scope N c) Z.nox k->QE (z05 X scope N c) Z.nox elt fa) :
  QE X Z (.ListComp elt [⟨tg,iter,[c],0⟩] scope pos) (rCp N m fi n fr fg fT fa):=⟨re (zd4 n hi.h (λc h=>(hg c (.comp h)).h) (λc h=>(ht c (.comp h)).h) (λc h=>(he c (.comp h)).h) S.nd hk S.len S.fr S.sc S.fi S.kind S.cell S.nm Y.calm S.fs) (z5t n fr sxi G sxt sx)⟩
theorem z60 (G:SmG Z.nox g fg)(hk:GOk n g)(S:SCo X scope N fr n iter)(hi:QI X Z tg iter fi)(hg:∀c:CC,Yx (z05 X scope N c) Z.nox k->QG (z05 X scope N c) tg g)(he:∀c:CC,Yx (z05 X scope N c) Z.nox k->QE (z05 X scope N c) Z.nox elt fa)
  (hy:X.N[i]?=some y:=by rfl) (hly:X.env.scope.names.lookup y=some .local:=by rfl) (hsw:swapsWith (.ListComp elt [⟨tg,iter,[],0⟩] scope pos) (some (.Name y py)) aR.line X.env=pure true:=by rfl) :
  QS X Z (.Assign [.Name y py] (.ListComp elt [⟨tg,iter,[],0⟩] scope pos) aR) (z07 (rCp N m fi n fr fg z25 fa) (rN i)):=⟨rs (zj5 i n Y.nd hi.h (λc h=>(hg c (.comp h)).h) (λc h=>(he c (.comp h)).h) S.nd hk S.len S.fr S.sc S.fi S.kind S.cell S.nm Y.calm S.fs hy hly hsw) (z9t (z5t n fr sxi G zhc sx) (z0z i))⟩
theorem z3n (G:SmG Z.nox g fg)(hk:GOk n g)(S:SCo X scope N fr n iter)(hi:QI X Z tg iter fi)(hg:∀c:CC,Yx (z05 X scope N c) Z.nox k->QG (z05 X scope N c) tg g)(ht:∀cc:CC,Yx (z05 X scope N cc) Z.nox k->QT (z05 X scope N cc) Z.nox c fT)(he:∀c:CC,Yx (z05 X scope N c) Z.nox k->QE (z05 X scope N c) Z.nox elt fa)
  (hy:X.N[i]?=some y:=by rfl) (hly:X.env.scope.names.lookup y=some .local:=by rfl) (hsw:swapsWith (.ListComp elt [⟨tg,iter,[c],0⟩] scope pos) (some (.Name y py)) aR.line X.env=pure true:=by rfl) :
  QS X Z (.Assign [.Name y py] (.ListComp elt [⟨tg,iter,[c],0⟩] scope pos) aR) (z07 (rCp N m fi n fr fg fT fa) (rN i)):=⟨rs (zc5 i n Y.nd hi.h (λc h=>(hg c (.comp h)).h) (λc h=>(ht c (.comp h)).h) (λc h=>(he c (.comp h)).h) S.nd hk S.len S.fr S.sc S.fi S.kind S.cell S.nm Y.calm S.fs hy hly hsw) (z9t (z5t n fr sxi G sxt sx) (z0z i))⟩
omit Y
theorem ze2:QS X Z st zhk:=⟨λ_ _ _ _ _ _ ⟨_,_,_,_,q⟩=>q.elim⟩
theorem zic:QB X Z [] z09:=⟨rss zle zdr⟩
theorem zh5 (h:QS X Z st fs):QB X Z [st] fs:=⟨zbs h.h⟩
theorem zo7 (h:QS X Z st fs)(h2:QB X Z sts fu):QB X Z (st::sts) (z03 fs fu):=⟨rss (zg2 h.h h2.h) (zqi sxs sxs)⟩
theorem zi1:QS X Z (.Pass pos) z09:=⟨rs zkk zdr⟩
theorem zwk (h:QE X Z e fa)(hs:swapsWith e none pos.line X.env=pure false:=by rfl):QS X Z (.Expr e pos) (rDo fa):=⟨rs (zjp h.h hs) (zj3 sx)⟩
theorem zpw (h:QE X Z e fa):QS X Z (.Return (some e) pos) (z0h fa):=⟨rs (zmi h.h) (zqt sx)⟩
theorem zr8 (hc:QT X Z c fT)(ha:QB X Z body fs)(hb:QB X Z alt fu):QS X Z (.If c body alt pos) (z0q fT fs fu):=⟨rs (zs8 hc.h ha.h hb.h) (zss sxt sxs sxs)⟩
include Y
theorem zm0 (h:QE X Z e fa)(hi:X.N[i]?=some x:=by rfl)(hx:Loc X.env.scope x:=by first | exact y4u rfl | exact y45 rfl)(hs:swapsWith e (some (.Name x au)) pos.line X.env=pure false:=by rfl)(hf:X.fn x=true∨X.env.scope.names.lookup x=some .local:=by first | exact .inl rfl | exact .inr rfl) :
  QS X Z (.Assign [.Name x au] e pos) (z07 fa (rN i)):=⟨rs (zhf Y.nd hi hx h.h hs hf) (z9t sx (z0z i))⟩
omit Y
include Y in
theorem zwt {c n:Nat}(hv:QE X Z e fb)(ha:QE X Z o fa)(hf:zlq (Z.c.nm c) f n=true:=by rfl)(hN:y1m (Z.c.nm c).length 99=true:=by rfl)(hs:swapsWith e (some (.Attribute o f au)) pos.line X.env=pure false:=by rfl):QS X Z (.Assign [.Attribute o f au] e pos) (rSF c n fa fb):=⟨rs (zq5 (Y.fld c f (z7x hf)) ha.h hv.h hs) (zub (z7v hf) (by have:=y14 hN;omega) sx sx)⟩
include Y
theorem zop (hv:QE X Z e fe)(ho:QE X Z o fa)(hi:QE X Z a fb)(hs:swapsWith e (some (.Subscript o a au)) pos.line X.env=pure false:=by rfl)(hs':swapsWithSole [.Subscript o a au] e pos.line X.env=pure false:=by rfl)(hw:swappedStores [.Subscript o a au] e X.env=pure none:=by rfl)(h1:(assignEach [.Subscript o a au] X.env).map (·.2) = [assign (.Subscript o a au) X.env]:=by rfl)
  (ha:∀v,assign (.Subscript o a au) X.env v=(do
   let ov ←holding [v] (eval o X.env)
   let iv ←holding [v,ov] (eval a X.env)
   standAt au
   holding [v,ov,iv] (setItem ov iv v)
   release [v,ov,iv] []):=by intro _;rfl):QS X Z (.Assign [.Subscript o a au] e pos) (rPut fe fa fb):=⟨rs (zmk (zj4 (hu1 Y.room) ho.h hi.h hv.h hs) (zqd hv.h (zq3 ho.h hi.h zhp ha) hs' hw h1)) (zmm sx sx sx)⟩
omit Y
theorem zgd {op:Operator}{iop:Int->Int->Int}{tip:TIp}(ht:∀x y H (Q:VK),Q (.int (iop x y)) H->tip (.int x) (.int y) H Q)(hp:PIp X op tip)(ho:QE X Z o fa)(hi:QE X Z a fb)(he:QE X Z e fe)(ha:∀ov iv new,augStore a ov iv new=(do holding [new,ov,iv] (setItem ov iv new);release [new,ov,iv] [];pure .next):=by intros;rfl) :
  QS X Z (.AugAssign (.Subscript o a au) op e pos) (rAug iop fa fb fe):=⟨rs (zkg ho.h hi.h zlo he.h hp zhp ha) (zlw ht sx sx sx)⟩
include Y
theorem zab (G:SmG Z g fg)(hi:QI X Z tg iter fi)(hg:Yx X Z k->QG X tg g)(hb:QB X Z body fs)(hs:∀x,foldedSetIterable iter X.env x=pure x:=by intro _;rfl):QS X Z (.For tg iter body [] pos) (rFor fi fg fs):=⟨rs (zp3 hi.h (hg Y).h hb.h Y.po Y.calm hs) (zpe sxi G sxs)⟩
theorem zar (hc:QT X Z c fT)(hb:QB X Z body fs):QS X Z (.While c body [] pos) (rWhile w fT fs):=⟨rs (zbd hc.h hb.h Y.po) (zf6 sxt sxs)⟩
theorem zbl {nc:Nat}(ha:QA X Z (e::es) fA)(O:ExcD X.K X.mg x (Z.c.xc nc):=by assumption)(h:SC X x ac e es:=by exact⟨rfl,by decide,by decide,rfl,rfl⟩):QS X Z (.Raise (some (.Call (.Name x np) (e::es) [] ac)) none pos) (rRaise nc fA):=⟨zko O Y.xw ha.h Y.calm h.g h.d h.st h.pl⟩
omit Y
theorem zn5 {t:TS}(h:PS X st t):PS X st (λD σ H=>t { D with nx:=fun σ' H'=>∃a kvs,H' a=some (.dK kvs)/\∀o,D.nx σ' (upd H' a (.frz o (.dK kvs))) } σ H):=λaa s σ H D I q=>wpAny_mono (h aa s σ H _ I q) (λf s' z=>by
 cases f with
 | next =>
  obtain⟨σ',H',I',a,kvs,e,q'⟩:=z;obtain⟨o,I2⟩:=zct I' e;exact⟨σ',_,I2,q' o⟩
 | brk=>exact z
 | cont=>exact z
 | ret u=>exact z) λ_ _ e=>e
theorem znu (h:QS X Z st fs):QS X Z st (rFzS i fs):=⟨rs (zn5 h.h) λ{s ρ σ E} A q=>by
 refine sxs A <| q.go λx h1 q ι H g1=>?_
 cases x with
 | rt v=>exact q g1
 | nx ρ' =>
  intro σ' En;dsimp only at q
  split at q
  ·rename_i d ed;rw[z0r] at ed;obtain⟨⟨i1,ks,ds⟩,e1,q1⟩:=q.o;obtain⟨v,ev,iv⟩:=En.is _ _ ed;obtain⟨rfl,a,xs,rfl,ei,li,e3,l,B⟩:=z5h (s:=⟨ι,h1,H⟩) g1.rl iv e1;refine⟨a,_,e3,λo=>?_⟩;obtain⟨g2,e4⟩:=g1.rl.gone (u:=.frz o (.dK (ks.zip xs))) ei li;refine q1 (ι:=ι) (H:=upd H a (.frz o (.dK (ks.zip xs)))) (by rw[z3r];exact g1.trans g2) (σ:=σ') ?_
   rw[z14,z3r];have E2:=(En.go g2).set (d:=.dic ks ds) (v:=.ref a) ⟨a,o,xs,rfl,e4,l,B.go (λ_ _ z=>z) g2.same⟩ i;refine⟨by simpa using E2.len,λi' d' z=>?_⟩
   obtain⟨w,w1,w2⟩:=E2.is i' d' z;refine⟨w,?_,w2⟩
   by_cases y:i=i'
   ·subst y;have lt:=(y01.mp ev).1;rw[y0z lt] at w1;rw[ev];exact w1
   ·rw[y0h y] at w1;exact w1
  ·exact q.elim⟩
end
end L2.RX
set_option Elab.async false
set_option linter.all false
set_option maxRecDepth 100000
namespace L2.RX
open PySem PySem.Spec PyProof.Rows L2.EX
section
variable {X:Cx}{Z:Ct}{k:Nat} [Y:Yx X Z k] {e:Expr}{es:List Expr}{x y n fx:Str}{pos p q:Pos}{fa:RE}{fA:RA}{i j:Nat}{ev:List D->TH->R D}{ps:List Str}{scope:Scope}{params:Arguments}{body:Expr}
include Y
theorem zp9 {cd:Addr}{l:Nat}(L:LamK X.mg X.base cd (Z.c.tb l))(inj:∀j,j<Z.c.nl->Z.c.tb j=Z.c.tb l->(Z.c.lm j).qual=(Z.c.lm l).qual)(hk:y16 l Z.c.nl=true:=by rfl)(hL:Z.c.lm l=⟨X.env.qual ++ "<lambda>",params,body,scope⟩:=by rfl)(hcode:X.env.code = .ref cd:=by rfl)(hcl:closureFor scope X.env=pure []:=by rfl)(hdef:defaultsOf params X.env=([],[]):=by rfl) :
  QE X Z (.Lambda params body scope pos) (rLam l):=⟨zu4 L (y0y.mp hk) inj hL hcode hcl hdef⟩
theorem zce {lb:Nat->Option (Nat×RE)}{k':Nat}(LF:∀l p,lb l=some p->LamF X.bg Z.c k' l p.1 p.2)(hk:y1m (k'+1) k=true)(hn:QE X Z (.Name x p) fa)(ha:QA X Z (e::es) fA)(hst:starEach (e::es) X.env=(false,eval e X.env)::starEach es X.env:=by rfl)(hpl:(backTo pos (starEach es X.env)).any (·.1)=false:=by rfl) :
  QE X Z (.Call (.Name x p) (e::es) [] pos) (rLcall lb fa fA):=⟨zje (Y.room.mono (y14 hk)) LF hn.h ha.h hst hpl⟩
theorem zn4 {y y' n:Str}{D0:Addr}{k':Nat}{yk:Nat->Bool}{fp ac xpos np hpos tpos p1 p2 p3:Pos}(ha:QA X Z (e::es) fA)(F:RDef X.bg Z.c fx k' ps ev:=by assumption)(hk:y1m k' k=true:=by rfl)(YY:∀c,yk c=true->ExcY X.K X.mg y D0 (Z.c.xc c):=by assumption)
  (h:SC X fx ac e es:=by exact⟨rfl,by decide,by decide,rfl,rfl⟩) (hgy:Gl X y:=by rfl) (hdy:(y==("__debug__":Str))=false:=by decide) (hi:X.N[i]?=some n:=by rfl) (hlo:X.env.scope.names.lookup n=some .local:=by rfl) (hj:X.N[j]?=some y':=by rfl) (hjl:X.env.scope.names.lookup y'=some .local:=by rfl)
  (hd1:(n==("__debug__":Str))=false:=by decide) (hd2:(n==("__classdict__":Str))=false:=by decide)
  (hst:X.stack=X.env::X.outer:=by rfl) (hfr:X.env.frame=some X.env.locals:=by rfl) (hxe:∀v s',X.xe v s'->False:=by intro _ _ z;exact z) (hsw:swapsWith (.Call (.Name fx fp) (e::es) [] ac) none xpos.line X.env=pure false:=by rfl)
  (hsw2:swapsWith (.Name n p1) (some (.Name y' p2)) p3.line X.env=pure false:=by rfl) :
  QS X Z (.Try [.Expr (.Call (.Name fx fp) (e::es) [] ac) xpos] [.ExceptHandler (some (.Name y np)) (some n) [.Assign [.Name y' p2] (.Name n p1) p3] hpos] [] [] tpos) (rTry i yk ev fA (z07 (rV i) (rN j))):=⟨zuz Y.nd F (Y.room.mono (y14 hk)) ha.h YY (λa=>by
  refine rss (zbs (zhf Y.nd hj (.inl hjl) (cv i hi (.inl hlo) hd1 hd2) hsw2 (.inr hjl))) (z9t (zvs i) (z0z j))) hi hlo h.g hgy h.d hdy hst hfr hxe h.st h.pl hsw⟩
end
section
variable {P:Program}{w:World}{K:y00}{mg:Str->Option Value}{base:Heap}{N:List Str}{x qual:Str}{st:Stmt}{k c:Nat}{ps:List Str}{C:CT}{f:Addr}{fd:FuncData}{keep:Bool}{fs:RS}
structure Bx (C:CT)(K:y00)(mg:Str->Option Value):Prop where
 eK:C.K=K
 blt:∀x∈bltN,mg x=none
 fld:∀c f,(C.nm c).contains f=true->ClsF K (C.cl c) f
theorem zoi {qual:Str}{scope:Scope}{f:Addr}{cdv:Value}{A:Around}{outer:List Env}{s:Shared}{H:Hp}{E:L2.XK}{Z:Ct}(B:Bx Z.c K mg)(nd:N.Nodup)(hr:Room k (z38 (CXg P w) P w K mg base N qual scope f cdv A outer s H E).A)(xw:XW (z38 (CXg P w) P w K mg base N qual scope f cdv A outer s H E) Z):Yx (z38 (CXg P w) P w K mg base N qual scope f cdv A outer s H E) Z k :=
 ⟨B.eK,hr,rfl,xw,B.blt,nd,PassesOwn.leaving,B.fld⟩
theorem zn7 {qual:Str}{scope:Scope}{f:Addr}{cdv:Value}{A:Around}{outer:List Env}{s:Shared}{H:Hp}{sx:Sx}(B:Bx C K mg)(nd:N.Nodup)(hr:Room (k+1) A):Yx (z38 CX0 P w K mg base N qual scope f cdv A outer s H E0).nox ⟨C,sx,λ_ _=>False⟩ k :=
 ⟨B.eK,hr.deeper _,rfl,XW.none (Z:=⟨C,sx,λ_ _=>False⟩),B.blt,nd,PassesOwn.never,B.fld⟩
abbrev zrs (P:Program)(w:World)(K:y00)(mg:Str->Option Value)(base:Heap)(C:CT)(N:List Str)(qual:Str)(st:Stmt)(k:Nat)(fs:RS):Prop :=
 ∀(f:Addr) (cdv:Value) (A:Around) (outer:List Env) (s:Shared) (H:Hp) (E:L2.XK) (sx:Sx) (W:Nat->Sx->Prop),Yx (z38 (CXg P w) P w K mg base N qual (z0a st) f cdv A outer s H E) ⟨C,sx,W⟩ k->QB (z38 (CXg P w) P w K mg base N qual (z0a st) f cdv A outer s H E) ⟨C,sx,W⟩ (z0o st) fs
theorem z64 (B:Bx C K mg)(F:Fun K x qual st f fd)(S:FnScope N ps (z0a st)){j:Nat}(hL:N.length=ps.length+j)(h:zrs P w K mg base C N qual st k fs):FnOk P w K mg base (CXg P w) (k+1) f fd ps (spR C (fnR keep ps.length j fs)) :=
 ztu F S hL λX Z cdv A outer s H E hX hr hZ xw=>by
  obtain⟨C',sx,W⟩:=Z;cases hZ;subst hX;exact(h f cdv A outer s H E sx W (zoi B S.nd hr xw)).h
theorem z2q (B:Bx C K mg)(T:Top K mg x st ps)(S:FnScope N ps (z0a st)){j n:Nat}(hn:ps.length=n)(hL:N.length=n+j)(h:zrs P w K mg base C N x st k fs):RDef ⟨P,w,K,mg,base⟩ C x (k+1) ps (fnR keep n j fs):=by
 subst hn;obtain⟨f,fd,F,hb,hm⟩:=T.is;exact⟨f,fd,z64 B F S hL h,hb,hm,F.kp⟩
theorem z1u (B:Bx C K mg)(T:MTop K (C.cl c) x qual st ps)(S:FnScope N ps (z0a st)){j n:Nat}(hn:ps.length=n)(hL:N.length=n+j)(h:zrs P w K mg base C N qual st k fs):RMet ⟨P,w,K,mg,base⟩ C c x (k+1) ps (fnR keep n j fs):=by
 subst hn;obtain⟨f,fd,F,hb,hm⟩:=T.is;exact⟨⟨f,fd,z64 B F S hL h,hb,hm⟩,T.cl⟩
theorem zs1 {y:Str}(B:Bx C K mg)(T:∃f fd,Fun K x qual st f fd/\Binds K fd ps []/\Mk K (C.cl c) f)(hm:mg y=some (.ref (C.cl c)))(S:FnScope N ps (z0a st)){j n:Nat}(hn:ps.length=n)(hL:N.length=n+j)(h:zrs P w K mg base C N qual st k fs):RCls ⟨P,w,K,mg,base⟩ C y c (k+1) ps (fnR keep n j fs):=by
 subst hn;obtain⟨f,fd,F,hb,hk⟩:=T;exact⟨⟨f,fd,z64 B F S hL h,hb,hk⟩,hm⟩
end
end L2.RX
set_option Elab.async false
set_option linter.all false
set_option maxRecDepth 100000
namespace L2.RX
open PySem PySem.Spec PyProof.Rows L2.EX
def zrv (fs:RS):RS:=fun ρ h=>(fs ρ h).nox
theorem zns {X:Cx}{Z:Ct}{k:Nat} [Y:Yx X Z k] {sts:List Stmt}{fs:RS}(h:Yx X.nox Z.nox k->QB X.nox Z.nox sts fs):QB X Z sts (zrv fs):=⟨rss (PSs.nox (h ⟨Y.K,Y.room,Y.calm,XW.none,Y.blt,Y.nd,PassesOwn.never,Y.fld⟩).h) λ{s ρ σ E} A q=>⟨s,ρ,rfl,⟨A.g,A.en⟩,R.sat.unx (E:=XK Z) (by
  unfold zrv at q;cases e:fs ρ s.h with
  | ok a h=>rw[e] at q;exact q
  | ex c h=>rw[e] at q;exact q
  | no=>rw[e] at q;exact q)⟩⟩
noncomputable def rFg (c i:Nat) (fa:RE):RE:=fun ρ h=>(fa ρ h).bnd λv h=>(rV i ρ h).bnd λx h=>ofO (eMi c h x) λp=>.ok v (hs h p.1 .no)
theorem zgk {H:Hp}{a:Addr}{u:HO}(e:H a=some u):upd H a u=H:=by
 funext b
 by_cases z:b=a
 ·subst z;rw[z08,e]
 ·exact z04 z
theorem zto {Z:Ct}{ta:TE}{fa:RE}{c i:Nat}(sa:Sm Z ta fa):Sm Z ta (rFg c i fa):=λ{s ρ σ Q} A q=>sa A <| q.go λv h1 q0 ι H w g1 i1=>by
 cases e:eg ρ i with
 | none=>unfold rV at q0;rw[e] at q0;exact q0.elim
 | some o =>
  cases o with
  | none=>unfold rV at q0;rw[e] at q0;exact q0.elim
  | some x =>
   unfold rV at q0;rw[e] at q0;obtain⟨⟨j,ds⟩,e1,q1⟩:=R.sat.o q0;rw[z0r] at e;obtain⟨u,e2,i2⟩:=(A.en.go g1).is i _ e;obtain⟨rfl,a,dx,xs,rfl,ei,li,e3,B⟩:=z6n (s:=⟨ι,h1,H⟩) g1.rl i2 e1;have g2:=(g1.rl.gone (u:=.ins (Z.c.cl c) dx ((Z.c.nm c).zip xs)) ei li).1;rw[show upd _ a _=H from zgk e3,show h1.set j .no=hs h1 j .no from (z14 _ _ _).symm] at g2
   exact q1 (g1.trans g2) (g2.is i1)
theorem zw8 {X:Cx}{Z:Ct}{e:Expr}{fa:RE}{c i:Nat}(h:QE X Z e fa):QE X Z e (rFg c i fa):=⟨re h.h (zto sx)⟩
def bX (n j c:Nat):Option Bool:=bif y16 c n then some (y17 c j) else none
def bV (n c:Nat):Option Bool:=bif y16 c n then some true else none
structure IsXs (C:CT)(K:y00)(mg:Str->Option Value)(xnm:Nat->Option Str)(n:Nat):Prop where
 own:∀j y,xnm j=some y->∃D,mg y=some (.ref D)/\IsXF C K (.ref D) (bX n j)
 val:IsXF C K (.type "ValueError") (bV n)
theorem zni {X:Cx}{Z:Ct}{k:Nat} [Y:Yx X Z k] {xnm:Nat->Option Str}{n j:Nat}{e:Expr}{fa:RE}{y:Str}{p q pos:Pos}(F:IsXs Z.c X.K X.mg xnm n)(ha:QE X Z e fa)(hx:xnm j=some y:=by rfl)(hg:Gl X y:=by rfl)(hd:(y==("__debug__":Str))=false:=by decide)(h:SC X "isinstance" pos e [.Name y q]:=by exact⟨rfl,by decide,by decide,rfl,rfl⟩) :
  QE X Z (.Call (.Name "isinstance" p) [e,.Name y q] [] pos) (rIsX (bX n j) fa):=⟨by
 obtain⟨D,h1,h2⟩:=F.own j y hx;exact(zlz h2 ha (zbt (v:=.ref D) hg h1 rfl hd) rfl (λu z=>z) (.inl ⟨D,rfl⟩) h rfl).h⟩
theorem zqz {X:Cx}{Z:Ct}{k:Nat} [Y:Yx X Z k] {xnm:Nat->Option Str}{n:Nat}{e:Expr}{fa:RE}{p q pos:Pos}(F:IsXs Z.c X.K X.mg xnm n)(ha:QE X Z e fa)(hg:Gl X "ValueError":=by rfl)(h:SC X "isinstance" pos e [.Name "ValueError" q]:=by exact⟨rfl,by decide,by decide,rfl,rfl⟩) :
  QE X Z (.Call (.Name "isinstance" p) [e,.Name "ValueError" q] [] pos) (rIsX (bV n) fa):=⟨(zlz F.val ha (zqq (Y.no "ValueError") (by decide +kernel) hg (by decide) (by decide)) rfl (λu z=>z) (.inr ⟨_,rfl⟩) h rfl).h⟩
structure FunC (K:y00)(x qual:Str)(st:Stmt)(f:Addr)(fd:FuncData)(c:Addr):Prop where
 ex:∃(oc:Value) (od:Option Addr) (kV doc pm:Value) (an:Option Addr) (ct:Value) (osl:Array (Option Value)),
  fd=y19 x qual (z0y st) (z0o st) (z0a st) .none kV doc pm an (.ref c) ct/\K.lookup f=some ⟨oc,od,.func fd,osl⟩/\y1n K (.ref c) qual=true
structure MTopC (K:y00)(C:Addr)(m qual:Str)(st:Stmt)(ps:List Str)(c:Addr):Prop where
 is:∃(f:Addr) (fd:FuncData),FunC K m qual st f fd c/\Binds K fd ps []/\Meth K C m f
 cl:Cls K C
section
variable {P:Program}{w:World}{K:y00}{mg:Str->Option Value}{base:Heap}{N:List Str}{x qual:Str}{st:Stmt}{k c:Nat}{ps:List Str}{C:CT}{f cd:Addr}{fd:FuncData}{keep:Bool}{fs:RS}
abbrev zti (P:Program)(w:World)(K:y00)(mg:Str->Option Value)(base:Heap)(C:CT)(N:List Str)(qual:Str)(st:Stmt)(cd:Addr)(k:Nat)(fs:RS):Prop :=
 ∀(f:Addr) (A:Around) (outer:List Env) (s:Shared) (H:Hp) (E:L2.XK) (sx:Sx) (W:Nat->Sx->Prop),Yx (z38 (CXg P w) P w K mg base N qual (z0a st) f (.ref cd) A outer s H E) ⟨C,sx,W⟩ k->QB (z38 (CXg P w) P w K mg base N qual (z0a st) f (.ref cd) A outer s H E) ⟨C,sx,W⟩ (z0o st) fs
theorem zun (B:Bx C K mg)(T:MTopC K (C.cl c) x qual st ps cd)(S:FnScope N ps (z0a st)){j n:Nat}(hn:ps.length=n)(hL:N.length=n+j)(h:zti P w K mg base C N qual st cd k fs):RMet ⟨P,w,K,mg,base⟩ C c x (k+1) ps (fnR keep n j fs):=by
 subst hn;obtain⟨f,fd,F,hb,hm⟩:=T.is;refine⟨⟨f,fd,?_,hb,hm⟩,T.cl⟩;obtain⟨oc,od,kV,doc,pm,an,ct,osl,rfl,lk,hcd⟩:=F.ex;refine zrf lk hcd S (λvs H Q E ⟨s,ds,_,_,al,q⟩=>?_) λA outer s H vs Q E hr ⟨sx,ds,eH,R0,al,q⟩=>?_
 ·obtain⟨eb,_⟩:=R.sat.i q;rw[←al.len,←z06];exact y13 eb
 ·obtain⟨eb,q⟩:=R.sat.i q;have hn:ds.length=ps.length:=by rw[←z06];exact y13 eb
  subst eH;exact⟨_,(h f A outer s sx.H E sx (λc s2=>E (.ref (C.xc c)) none s2.H) (zoi B S.nd hr (zln rfl))).h,sx,eMap ds j,rfl,⟨.refl R0,z5v al hn hL⟩,ziq R0 (λ_ _=>rfl) q⟩
end
end L2.RX
set_option Elab.async false
set_option linter.all false
set_option maxRecDepth 100000
set_option maxHeartbeats 4000000
namespace My
open PySem PySem.Spec PyProof.Rows L2 L2.EX L2.RX
def top (i:Nat):Stmt:=PySem.Challenge.pw_evenyoke_k53_deeds_refused.main.body.getD i (.Pass ⟨0,0,0,0⟩)
def zv9 (q:Str)(st:Stmt):Lam:=match st with
 | .Assign _ (.Call _ [_,.Lambda ps b sc _] _ _) _=>⟨q,ps,b,sc⟩
 | _=>⟨q,default,.Constant .none 0 ⟨0,0,0,0⟩,default⟩
def lamS:Lam:=zv9 ((PyProof.Rows.envOfC "House.settle" (z0a (z02 (top 47) 15)) 0 0 (.ref 0)).qual ++ "<lambda>") ((z0o (z02 (top 47) 15)).getD 10 (.Pass ⟨0,0,0,0⟩))
abbrev gC (K:y00)(CP CR CH T:Addr)(XC:Nat->Addr):CT where
 K:=K
 cl:=λc=>match c with
  | 0=>CP
  | 1=>CR
  | _=>CH
 nm:=λc=>match c with
  | 0=>["many_gives","tie_ends","sent","spare","ties_at"]
  | 1=>["present","dealt","works","doers"]
  | _=>["crew","tasks","rows","burdens","piece_rows"]
 xc:=XC
 fa:=λ_=>0
 lm:=λ_=>lamS
 tb:=λ_=>T
 nl:=1
noncomputable def lb (l:Nat):Option (Nat×RE):=match l with
 | 0=>some (1,rOp gGt (rAt (rV 0) (rC (.int 0))) (rC (.int 0)))
 | _=>none
def yk (c:Nat):Bool:=y16 c 10
def xnms:List Str:=["NoName","Twice","TooMany","NoWork","NoHand","NoChore","NotSo","NoPart","NoDeed","NoLine"]
abbrev xnm (c:Nat):Option Str:=xnms[c]?
noncomputable def e_House_init:=fnR false 1 0 (z03 (rSF 2 0 (rV 0) (rNewD false)) (z03 (rSF 2 1 (rV 0) (rNewD false)) (z03 (rSF 2 2 (rV 0) (rNewD false)) (z03 (rSF 2 3 (rV 0) (rNewD false)) (rSF 2 4 (rV 0) (rC .non))))))
noncomputable def e_is_name:=fnR false 1 0 (z0h (z3x (rInst 3 (rV 0)) (z3x (rChain gLe gLe (rC (.int 1)) (rCB gLen (z00 (rV 0) z01)) (rC (.int 12))) (rCB (gBls bAll) (z00 (rCp ["sign"] false (rIs (rV 0)) 1 [] (rN 0) z25 (rChain gLe gLe (rC (.str "a")) (rV 0) (rC (.str "z")))) z01)))))
noncomputable def e_need_name:=fnR false 1 0 (z0q (z6e (z0b (rCB e_is_name (z00 (rV 0) z01)))) (rRaise 0 (z00 (rC (.str "a name is a text of one to twelve small letters")) z01)) z09)
noncomputable def e_Roll_init:=fnR false 3 3 (z03 (rSF 1 0 (rV 0) (rCp ["hand","crew"] false (rIs (rV 1)) 1 [1] (rN 0) (z0b (rAt (rV 1) (rV 0))) (rV 0))) (z03 (rSF 1 1 (rV 0) (rLst true z01)) (z03 (rSF 1 2 (rV 0) (rLst true z01)) (z03 (rSF 1 3 (rV 0) (rLst true z01)) (z03 (z07 (rCB (gDict false) (z00 (rCp ["number","hand"] false (rIe (rFld 1 0 (rV 0))) 2 [] (rN2 0 1) z25 (rTup (z00 (rV 1) (z00 (rV 0) z01)))) z01)) (rN 3)) (rFor (rIs (rV 2)) (rN 4) (z03 (z07 (rCp ["hand","number_of"] false (rIs (rAt (rAt (rV 2) (rV 4)) (rC (.int 1)))) 1 [3] (rN 0) (z0b (rOp (gIn false) (rV 0) (rV 1))) (rAt (rV 1) (rV 0))) (rN 5)) (z0q (z0b (rOp gGt (rCB gLen (z00 (rV 5) z01)) (rC (.int 0)))) (z03 (rDo (rApp (rFld 1 1 (rV 0)) (z00 (rV 4) z01))) (z03 (rDo (rApp (rFld 1 2 (rV 0)) (z00 (rAt (rAt (rV 2) (rV 4)) (rC (.int 0))) z01))) (rDo (rApp (rFld 1 3 (rV 0)) (z00 (rV 5) z01))))) z09))))))))
noncomputable def e_Roll_hand_names:=fnR false 2 0 (z0h (rCp ["number","self"] false (rIs (rV 1)) 1 [0] (rN 0) z25 (rAt (rFld 1 0 (rV 1)) (rV 0))))
noncomputable def e_House_old_row:=fnR false 4 2 (z03 (z07 (rAt (rFld 1 1 (rV 1)) (rV 2)) (rN 4)) (z03 (z0q (rOr (z0b (rOp (gEq false) (rV 4) (rV 3))) (z0b (rOp (gIn true) (rV 4) (rFld 2 2 (rV 0))))) (z0h (rC .non)) z09) (z03 (z07 (rMeth 1 e_Roll_hand_names (rV 1) (z00 (rAt (rFld 1 3 (rV 1)) (rV 2)) z01)) (rN 5)) (z03 (z0q (z0b (rCB (gBls bAny) (z00 (rCp ["hand","doers"] false (rIs (rAt (rFld 2 2 (rV 0)) (rV 4))) 1 [5] (rN 0) z25 (rOp (gIn true) (rV 0) (rV 1))) z01))) (z0h (rC .non)) z09) (z0h (rCp ["hand","self","chore"] false (rIs (rV 5)) 1 [0,4] (rN 0) z25 (rGet2 (rAt (rFld 2 2 (rV 1)) (rV 2)) (rV 0) (rC (.tup [.int 0,.int 1])))))))))
noncomputable def e_Pour_init:=fnR true 5 3 (z03 (rSF 0 0 (rV 0) (rCB gLen (z00 (rV 1) z01))) (z03 (rSF 0 1 (rV 0) (rCp ["give","take","self"] false (rIs (rV 3)) 2 [0] (rN2 0 1) z25 (rTup (z00 (rV 0) (z00 (rOp (gAdd false) (rFld 0 0 (rV 2)) (rV 1)) z01))))) (z03 (rSF 0 2 (rV 0) (rCB (gList true) (z00 (rV 4) z01))) (z03 (rSF 0 3 (rV 0) (rOp (gAdd true) (rV 1) (rV 2))) (z03 (rSF 0 4 (rV 0) (rCp ["end"] false (rIs (rFld 0 3 (rV 0))) 1 [] (rN 0) z25 (rLst true z01))) (rFor (rIe (rFld 0 1 (rV 0))) (rN2 5 6) (rFor (rIs (rV 6)) (rN 7) (z03 (rAug y5y (rFld 0 3 (rV 0)) (rV 7) (rAt (rFld 0 2 (rV 0)) (rV 5))) (rDo (rApp (rAt (rFld 0 4 (rV 0)) (rV 7)) (z00 (rV 5) z01)))))))))))
noncomputable def e_Pour_gives_with_rest:=fnR false 1 0 (z0h (rCp ["give","self"] false (rIr (z00 (rFld 0 0 (rV 0)) z01)) 1 [0] (rN 0) (z0b (rOp gGt (rAt (rFld 0 3 (rV 1)) (rV 0)) (rC (.int 0)))) (rV 0)))
noncomputable def e_Pour_has_room:=fnR false 2 0 (z0h (rCB (gBls bAny) (z00 (rCp ["end","self"] false (rIs (rV 1)) 1 [0] (rN 0) z25 (z3x (rOp gGe (rV 0) (rFld 0 0 (rV 1))) (rOp gGt (rAt (rFld 0 3 (rV 1)) (rV 0)) (rC (.int 0))))) z01)))
noncomputable def e_Pour_far_end:=fnR false 3 1 (z03 (z07 (rAt (rFld 0 1 (rV 0)) (rV 2)) (rN 3)) (z0h (rIf (z0b (rOp (gEq false) (rV 1) (rAt (rV 3) (rC (.int 0))))) (rAt (rV 3) (rC (.int 1))) (rAt (rV 3) (rC (.int 0))))))
noncomputable def e_Pour_may_go:=fnR false 3 0 (z0h (zsh (rOp gLt (rV 1) (rFld 0 0 (rV 0))) (rOp gGt (rAt (rFld 0 2 (rV 0)) (rV 2)) (rC (.int 0)))))
noncomputable def e_Pour_row_behind:=fnR true 3 4 (z03 (z07 (rLst true z01) (rN 3)) (z03 (rFor (rIs (rV 1)) (rN 4) (rFor (rIs (rAt (rFld 0 4 (rV 0)) (rV 4))) (rN 5) (z03 (z07 (rMeth 0 e_Pour_far_end (rV 0) (z00 (rV 4) (z00 (rV 5) z01))) (rN 6)) (z0q (ze3 (z0b (rOp gLt (rAt (rV 2) (rV 6)) (rC (.int 0)))) (z0b (rMeth 0 e_Pour_may_go (rV 0) (z00 (rV 4) (z00 (rV 5) z01))))) (z03 (rPut (rOp (gAdd false) (rAt (rV 2) (rV 4)) (rC (.int 1))) (rV 2) (rV 6)) (rDo (rApp (rV 3) (z00 (rV 6) z01)))) z09)))) (z0h (rV 3))))
noncomputable def e_Pour_steps_to_room:=fnR true 1 3 (z03 (z07 (rOp (gMul true) (rLst false (z00 (rUn z5a (rC (.int 1))) z01)) (rCB gLen (z00 (rFld 0 3 (rV 0)) z01))) (rN 1)) (z03 (z07 (rMeth 0 e_Pour_gives_with_rest (rV 0) z01) (rN 2)) (z03 (rFor (rIs (rV 2)) (rN 3) (rPut (rC (.int 0)) (rV 1) (rV 3))) (z03 (rWhile (some 400) (ze3 (z0b (rOp gGt (rCB gLen (z00 (rV 2) z01)) (rC (.int 0)))) (z6e (z0b (rMeth 0 e_Pour_has_room (rV 0) (z00 (rV 2) z01))))) (z07 (rMeth 0 e_Pour_row_behind (rV 0) (z00 (rV 2) (z00 (rV 1) z01))) (rN 2))) (z0h (rV 1))))))
noncomputable def e_Pour_leads_on:=fnR false 4 0 (z0h (z3x (rOp (gEq false) (rAt (rV 3) (rMeth 0 e_Pour_far_end (rV 0) (z00 (rV 1) (z00 (rV 2) z01)))) (rOp (gAdd false) (rAt (rV 3) (rV 1)) (rC (.int 1)))) (rMeth 0 e_Pour_may_go (rV 0) (z00 (rV 1) (z00 (rV 2) z01)))))
noncomputable def e_Pour_skip_dead_ties:=fnR false 4 1 (z03 (z07 (rAt (rFld 0 4 (rV 0)) (rV 1)) (rN 4)) (rWhile (some 400) (ze3 (z0b (rOp gLt (rAt (rV 3) (rV 1)) (rCB gLen (z00 (rV 4) z01)))) (z6e (z0b (rMeth 0 e_Pour_leads_on (rV 0) (z00 (rV 1) (z00 (rAt (rV 4) (rAt (rV 3) (rV 1))) (z00 (rV 2) z01))))))) (rAug Int.add (rV 3) (rV 1) (rC (.int 1)))))
noncomputable def e_Pour_way_from:=fnR true 4 4 (z03 (z07 (rLst true z01) (rN 4)) (z03 (z07 (rLst true (z00 (rV 1) z01)) (rN 5)) (z03 (rWhile (some 400) (ze3 (z0b (rOp gGt (rCB gLen (z00 (rV 5) z01)) (rC (.int 0)))) (z6e (z0b (rMeth 0 e_Pour_has_room (rV 0) (z00 (rLst false (z00 (rAt (rV 5) (rUn z5a (rC (.int 1)))) z01)) z01))))) (z03 (z07 (rAt (rV 5) (rUn z5a (rC (.int 1)))) (rN 6)) (z03 (rDo (rMeth 0 e_Pour_skip_dead_ties (rV 0) (z00 (rV 6) (z00 (rV 2) (z00 (rV 3) z01))))) (z0q (z0b (rOp gLt (rAt (rV 3) (rV 6)) (rCB gLen (z00 (rAt (rFld 0 4 (rV 0)) (rV 6)) z01)))) (z03 (z07 (rAt (rAt (rFld 0 4 (rV 0)) (rV 6)) (rAt (rV 3) (rV 6))) (rN 7)) (z03 (rDo (rApp (rV 4) (z00 (rV 7) z01))) (rDo (rApp (rV 5) (z00 (rMeth 0 e_Pour_far_end (rV 0) (z00 (rV 6) (z00 (rV 7) z01))) z01))))) (z03 (rDo (rPopL (rV 5))) (z0q (z0b (rOp gGt (rCB gLen (z00 (rV 5) z01)) (rC (.int 0)))) (z03 (rDo (rPopL (rV 4))) (rAug Int.add (rV 3) (rAt (rV 5) (rUn z5a (rC (.int 1)))) (rC (.int 1)))) z09)))))) (z0h (rV 4)))))
noncomputable def e_Pour_send_along:=fnR false 3 3 (z03 (z07 (rAt (rAt (rFld 0 1 (rV 0)) (rAt (rV 2) (rUn z5a (rC (.int 1))))) (rC (.int 1))) (rN 3)) (z03 (z07 (rCB gMin (z00 (rOp (gAdd false) (rLst false (z00 (rAt (rFld 0 3 (rV 0)) (rV 1)) (z00 (rAt (rFld 0 3 (rV 0)) (rV 3)) z01))) (rCp ["tie","self"] false (rIs (rSl2 false false (rV 2))) 1 [0] (rN 0) z25 (rAt (rFld 0 2 (rV 1)) (rV 0)))) z01)) (rN 4)) (z03 (rFor (rIs (rSl2 false true (rV 2))) (rN 5) (rAug Int.add (rFld 0 2 (rV 0)) (rV 5) (rV 4))) (z03 (rFor (rIs (rSl2 false false (rV 2))) (rN 5) (rAug y5y (rFld 0 2 (rV 0)) (rV 5) (rV 4))) (z03 (rAug y5y (rFld 0 3 (rV 0)) (rV 1) (rV 4)) (rAug y5y (rFld 0 3 (rV 0)) (rV 3) (rV 4)))))))
noncomputable def e_Pour_send_by_steps:=fnR true 2 3 (z03 (z07 (rOp (gMul true) (rLst false (z00 (rC (.int 0)) z01)) (rCB gLen (z00 (rFld 0 3 (rV 0)) z01))) (rN 2)) (rFor (rIs (rMeth 0 e_Pour_gives_with_rest (rV 0) z01)) (rN 3) (z03 (z07 (rMeth 0 e_Pour_way_from (rV 0) (z00 (rV 3) (z00 (rV 1) (z00 (rV 2) z01)))) (rN 4)) (rWhile (some 400) (z0b (rOp gGt (rCB gLen (z00 (rV 4) z01)) (rC (.int 0)))) (z03 (rDo (rMeth 0 e_Pour_send_along (rV 0) (z00 (rV 3) (z00 (rV 4) z01)))) (z07 (rIf (z0b (rOp gGt (rAt (rFld 0 3 (rV 0)) (rV 3)) (rC (.int 0)))) (rMeth 0 e_Pour_way_from (rV 0) (z00 (rV 3) (z00 (rV 1) (z00 (rV 2) z01)))) (rLst false z01)) (rN 4)))))))
noncomputable def e_Pour_fill:=fnR true 1 1 (z03 (z07 (rMeth 0 e_Pour_steps_to_room (rV 0) z01) (rN 1)) (z03 (rWhile (some 400) (z0b (rMeth 0 e_Pour_has_room (rV 0) (z00 (rCp ["end","step"] false (rIe (rV 1)) 2 [] (rN2 0 1) (z0b (rOp gGe (rV 1) (rC (.int 0)))) (rV 0)) z01))) (z03 (rDo (rMeth 0 e_Pour_send_by_steps (rV 0) (z00 (rV 1) z01))) (z07 (rMeth 0 e_Pour_steps_to_room (rV 0) z01) (rN 1)))) (z0h (rCp ["step"] false (rIs (rV 1)) 1 [] (rN 0) z25 (rOp gGe (rV 0) (rC (.int 0)))))))
noncomputable def e_pour_more:=fnR false 4 2 (z03 (z07 (rCB (gMake 0 e_Pour_init) (z00 (rV 0) (z00 (rV 1) (z00 (rV 2) (z00 (rV 3) z01))))) (rN 4)) (z03 (z07 (rMeth 0 e_Pour_fill (rV 4) z01) (rN 5)) (z0h (rTup (z00 (rFld 0 2 (rV 4)) (z00 (rTup (z00 (rSl false (rV 5) rO0 (rO1 (rCB gLen (z00 (rV 0) z01)))) (z00 (rSl false (rV 5) (rO1 (rCB gLen (z00 (rV 0) z01))) rO0) z01))) z01))))))
noncomputable def e_pour_all:=fnR false 3 0 (z0h (rCB e_pour_more (z00 (rV 0) (z00 (rV 1) (z00 (rV 2) (z00 (rOp (gMul false) (rLst false (z00 (rC (.int 0)) z01)) (rCB gLen (z00 (rV 2) z01))) z01))))))
noncomputable def e_ties_in:=fnR false 2 4 (z03 (z07 (rCB (gDict false) (z00 (rCp ["place","hand"] false (rIe (rAt (rV 1) (rC (.int 0)))) 2 [] (rN2 0 1) z25 (rTup (z00 (rV 1) (z00 (rV 0) z01)))) z01)) (rN 2)) (z03 (z07 (rLst true z01) (rN 3)) (z03 (rFor (rIe (rAt (rV 1) (rC (.int 1)))) (rN2 4 5) (rDo (rExt (rV 3) (z00 (rCp ["hand","give","place_of"] false (rIs (rAt (rV 0) (rV 5))) 1 [4,2] (rN 0) (z0b (rOp (gIn false) (rV 0) (rV 2))) (rTup (z00 (rV 1) (z00 (rAt (rV 2) (rV 0)) z01)))) z01)))) (z0h (rV 3)))))
noncomputable def e_work_in:=fnR false 2 0 (z0h (rCB gSum (z00 (rCp ["chore","works"] false (rIs (rAt (rV 1) (rC (.int 1)))) 1 [0] (rN 0) z25 (rAt (rV 1) (rV 0))) z01)))
noncomputable def e_pour_in:=fnR false 3 2 (z03 (z07 (rCB gLen (z00 (rAt (rV 2) (rC (.int 0))) z01)) (rN 3)) (z03 (z07 (rCp ["chore","works","many"] false (rIs (rAt (rV 2) (rC (.int 1)))) 1 [0,3] (rN 0) z25 (rOp (gMul false) (rAt (rV 1) (rV 0)) (rV 2))) (rN 4)) (z0h (rCB e_pour_all (z00 (rV 4) (z00 (rOp (gMul false) (rLst false (z00 (rCB e_work_in (z00 (rV 0) (z00 (rV 2) z01))) z01)) (rV 3)) (z00 (rCB e_ties_in (z00 (rV 1) (z00 (rV 2) z01))) z01)))))))
noncomputable def e_chosen:=fnR false 3 0 (z0h (rCp ["thing","mark","wanted"] false (rIz (rV 0) (rV 1)) 2 [2] (rN2 0 1) (z0b (rOp (gEq false) (rV 1) (rV 2))) (rV 0)))
noncomputable def e_crowds_by:=fnR false 3 5 (z03 (z07 (rLst true z01) (rN 3)) (z03 (z07 (rIf (z0b (rOp gGt (rV 2) (rC (.int 0)))) (rLst true (z00 (rTup (z00 (rLRange false (rV 2)) (z00 (rLRange false (rCB gLen (z00 (rV 0) z01))) z01))) z01)) (rLst true z01)) (rN 4)) (z03 (rWhile (some 400) (z0b (rOp gGt (rCB gLen (z00 (rV 4) z01)) (rC (.int 0)))) (z03 (z07 (rPopL (rV 4)) (rN 5)) (z03 (z07 (rAt (rCB e_pour_in (z00 (rV 0) (z00 (rV 1) (z00 (rV 5) z01)))) (rC (.int 1))) (rN 6)) (z0q (z0b (rCB (gBls bAny) (z00 (rAt (rV 6) (rC (.int 1))) z01))) (rFor (rIs (rTup (z00 (rC (.bl false)) (z00 (rC (.bl true)) z01)))) (rN 7) (rDo (rApp (rV 4) (z00 (rTup (z00 (rCB e_chosen (z00 (rAt (rV 5) (rC (.int 0))) (z00 (rAt (rV 6) (rC (.int 1))) (z00 (rV 7) z01)))) (z00 (rCB e_chosen (z00 (rAt (rV 5) (rC (.int 1))) (z00 (rAt (rV 6) (rC (.int 0))) (z00 (rV 7) z01)))) z01))) z01)))) (rDo (rApp (rV 3) (z00 (rV 5) z01))))))) (z0h (rV 3)))))
noncomputable def e_is_whole:=fnR false 1 0 (z0h (z3x (rInst 2 (rV 0)) (zjb (rInst 1 (rV 0)))))
noncomputable def e_divisor_of:=fnR false 2 3 (z03 (z07 (rCB gAbs (z00 (rV 0) z01)) (rN 2)) (z03 (z07 (rCB gAbs (z00 (rV 1) z01)) (rN 3)) (z03 (rWhile (some 400) (z0b (rOp gGt (rV 3) (rC (.int 0)))) (z03 (z07 (rOp z1c (rV 2) (rV 3)) (rN 4)) (z03 (z07 (rV 3) (rN 2)) (z07 (rV 4) (rN 3))))) (z0h (rV 2)))))
noncomputable def e_part_of:=fnR false 2 1 (z03 (z0q (rOr (z6e (z0b (rCB e_is_whole (z00 (rV 0) z01)))) (rOr (z6e (z0b (rCB e_is_whole (z00 (rV 1) z01)))) (z0b (rOp (gEq false) (rV 1) (rC (.int 0)))))) (rRaise 7 (z00 (rC (.str "a fraction is made of two whole numbers, the second not 0")) z01)) z09) (z03 (z07 (rCB e_divisor_of (z00 (rV 0) (z00 (rV 1) z01))) (rN 2)) (z03 (z0q (z0b (rOp gLt (rV 1) (rC (.int 0)))) (z07 (rUn z5a (rV 2)) (rN 2)) z09) (z0h (rTup (z00 (rOp z19 (rV 0) (rV 2)) (z00 (rOp z19 (rV 1) (rV 2)) z01)))))))
noncomputable def e_shares_in:=fnR false 3 1 (z03 (z07 (rAt (rCB e_pour_in (z00 (rV 0) (z00 (rV 1) (z00 (rV 2) z01)))) (rC (.int 0))) (rN 3)) (z0h (rCp ["amount","crowd"] false (rIs (rV 3)) 1 [2] (rN 0) z25 (rCB e_part_of (z00 (rV 0) (z00 (rCB gLen (z00 (rAt (rV 1) (rC (.int 0))) z01)) z01))))))
noncomputable def e_rows_from:=fnR false 4 6 (z03 (z07 (rCp ["hands","nothing"] false (rIs (rV 0)) 1 [3] (rN 0) z25 (rOp (gMul true) (rLst false (z00 (rV 1) z01)) (rCB gLen (z00 (rV 0) z01)))) (rN 4)) (z03 (rFor (rIz (rV 1) (rV 2)) (rN2 5 6) (rFor (rIz (rCB e_ties_in (z00 (rV 0) (z00 (rV 5) z01))) (rV 6)) (rN2 7 8) (z03 (z07 (rAt (rAt (rV 5) (rC (.int 1))) (rAt (rV 7) (rC (.int 0)))) (rN 9)) (rPut (rV 8) (rAt (rV 4) (rV 9)) (rIdx (rAt (rV 0) (rV 9)) (z00 (rAt (rAt (rV 5) (rC (.int 0))) (rAt (rV 7) (rC (.int 1)))) z01)))))) (z0h (rV 4))))
noncomputable def e_deal_evenly:=fnR false 3 2 (z03 (z07 (rCB e_crowds_by (z00 (rV 0) (z00 (rV 1) (z00 (rV 2) z01)))) (rN 3)) (z03 (z07 (rCp ["crowd","works","doers"] false (rIs (rV 3)) 1 [0,1] (rN 0) z25 (rCB e_shares_in (z00 (rV 1) (z00 (rV 2) (z00 (rV 0) z01))))) (rN 4)) (z0h (rCB e_rows_from (z00 (rV 1) (z00 (rV 3) (z00 (rV 4) (z00 (rTup (z00 (rC (.int 0)) (z00 (rC (.int 1)) z01))) z01))))))))
noncomputable def e_plus_in_lowest:=fnR false 2 3 (z03 (z07 (rCB e_divisor_of (z00 (rAt (rV 0) (rC (.int 1))) (z00 (rAt (rV 1) (rC (.int 1))) z01))) (rN 2)) (z03 (z07 (rOp (gAdd false) (rOp (gMul false) (rAt (rV 0) (rC (.int 0))) (rOp z19 (rAt (rV 1) (rC (.int 1))) (rV 2))) (rOp (gMul false) (rAt (rV 1) (rC (.int 0))) (rOp z19 (rAt (rV 0) (rC (.int 1))) (rV 2)))) (rN 3)) (z03 (z07 (rCB e_divisor_of (z00 (rV 3) (z00 (rV 2) z01))) (rN 4)) (z0h (rTup (z00 (rOp z19 (rV 3) (rV 4)) (z00 (rOp (gMul false) (rOp z19 (rAt (rV 0) (rC (.int 1))) (rV 2)) (rOp z19 (rAt (rV 1) (rC (.int 1))) (rV 4))) z01)))))))
noncomputable def e_sum_of_parts:=fnR false 1 2 (z03 (z07 (rTup (z00 (rC (.int 0)) (z00 (rC (.int 1)) z01))) (rN 1)) (z03 (rFor (rIs (rV 0)) (rN 2) (z07 (rCB e_plus_in_lowest (z00 (rV 1) (z00 (rV 2) z01))) (rN 1))) (z0h (rV 1))))
noncomputable def e_loads_of_shares:=fnR false 3 5 (z03 (z07 (rCp ["hand"] false (rIr (z00 (rV 1) z01)) 1 [] (rN 0) z25 (rLst true z01)) (rN 3)) (z03 (rFor (rIz (rV 0) (rV 2)) (rN2 4 5) (rFor (rIz (rV 4) (rV 5)) (rN2 6 7) (rDo (rApp (rAt (rV 3) (rV 6)) (z00 (rV 7) z01))))) (z0h (rCp ["parts"] false (rIs (rV 3)) 1 [] (rN 0) z25 (rCB e_sum_of_parts (z00 (rV 0) z01))))))
noncomputable def e_is_kept:=fnR false 3 0 (z0h (z3x (rOp (gIs true) (rV 1) (rC .non)) (rCB (gBls bAny) (z00 (rCp ["hand","share","stayed"] false (rIz (rV 0) (rV 1)) 2 [2] (rN2 0 1) z25 (z3x (rOp gGt (rAt (rV 1) (rC (.int 0))) (rC (.int 0))) (rAt (rV 2) (rV 0)))) z01))))
noncomputable def e_kept_up:=fnR false 5 3 (z03 (z07 (rCB e_deal_evenly (z00 (rV 0) (z00 (rV 1) (z00 (rV 2) z01)))) (rN 5)) (z03 (z07 (rCB e_loads_of_shares (z00 (rV 1) (z00 (rV 2) (z00 (rV 5) z01)))) (rN 6)) (z03 (z07 (rCp ["load","old_load"] false (rIz (rV 6) (rV 4)) 2 [] (rN2 0 1) z25 (rOp (gEq false) (rV 0) (rV 1))) (rN 7)) (z0h (rCp ["hands","old","new","stayed"] false (rIz3 (rV 1) (rV 3) (rV 5)) 3 [7] (rN3 0 1 2) z25 (rIf (z0b (rCB e_is_kept (z00 (rV 0) (z00 (rV 1) (z00 (rV 3) z01))))) (rCB (gList false) (z00 (rV 1) z01)) (rV 2)))))))
noncomputable def e_House_changes_to:=fnR false 2 1 (z03 (z07 (rCp ["hand","self","burdens"] false (rIs (rV 1)) 1 [0,1] (rN 0) z25 (rTup (z00 (rV 0) (z00 (rGet2 (rFld 2 3 (rV 1)) (rV 0) (rC (.tup [.int 0,.int 1]))) (z00 (rAt (rV 2) (rV 0)) z01))))) (rN 2)) (z0h (rCp ["change"] false (rIs (rV 2)) 1 [] (rN 0) (z0b (rOp (gEq true) (rAt (rV 0) (rC (.int 1))) (rAt (rV 0) (rC (.int 2))))) (rV 0))))
noncomputable def e_Roll_by_names:=fnR false 3 4 (z03 (z07 (rNewD true) (rN 3)) (z03 (rFor (rIz3 (rFld 1 1 (rV 0)) (rFld 1 3 (rV 0)) (rV 1)) (rN3 4 5 6) (rPut (rCB (gDict false) (z00 (rCp ["pair","is_above"] false (rIz (rMeth 1 e_Roll_hand_names (rV 0) (z00 (rV 5) z01)) (rV 6)) 1 [2] (rN 0) (z0b (rLcall lb (rV 1) (z00 (rAt (rV 0) (rC (.int 1))) z01))) (rV 0)) z01)) (rV 3) (rV 4))) (z0h (rFz (rV 3)))))
noncomputable def e_House_settle:=fnR false 4 7 (z03 (z07 (rCB (gMake 1 e_Roll_init) (z00 (rV 1) (z00 (rV 2) z01))) (rN 4)) (z03 (z07 (rCB gLen (z00 (rFld 1 0 (rV 4)) z01)) (rN 5)) (z03 (z07 (rCp ["place","self","roll","touched"] false (rIr (z00 (rCB gLen (z00 (rFld 1 1 (rV 4)) z01)) z01)) 1 [0,4,3] (rN 0) z25 (rMeth 2 e_House_old_row (rV 1) (z00 (rV 2) (z00 (rV 0) (z00 (rV 3) z01))))) (rN 6)) (z03 (z07 (rCp ["hand","self"] false (rIs (rFld 1 0 (rV 4))) 1 [0] (rN 0) z25 (rGet2 (rFld 2 3 (rV 1)) (rV 0) (rC (.tup [.int 0,.int 1])))) (rN 7)) (z03 (z07 (rCB e_kept_up (z00 (rFld 1 2 (rV 4)) (z00 (rFld 1 3 (rV 4)) (z00 (rV 5) (z00 (rV 6) (z00 (rV 7) z01)))))) (rN 8)) (z03 (z07 (rCB (gDict true) (z00 (rCp ["hand"] false (rIs (rV 1)) 1 [] (rN 0) z25 (rTup (z00 (rV 0) (z00 (rC (.tup [.int 0,.int 1])) z01)))) z01)) (rN 9)) (z03 (rFzS 9 (rDo (rUpd (rV 9) (rDz true (rFld 1 0 (rV 4)) (rCB e_loads_of_shares (z00 (rFld 1 3 (rV 4)) (z00 (rV 5) (z00 (rV 8) z01)))))))) (z03 (z07 (rMeth 2 e_House_changes_to (rV 0) (z00 (rV 9) z01)) (rN 10)) (z03 (rSF 2 0 (rV 0) (rV 1)) (z03 (rSF 2 1 (rV 0) (rV 2)) (z03 (rSF 2 2 (rV 0) (rMeth 1 e_Roll_by_names (rV 4) (z00 (rV 8) (z00 (rLam 0) z01)))) (z03 (rSF 2 3 (rV 0) (rV 9)) (z03 (rSF 2 4 (rV 0) (rC .non)) (z0h (rV 10)))))))))))))))
noncomputable def e_House_with_crew:=fnR false 3 1 (z03 (z07 (rCB (gDict true) (z00 (rFld 2 0 (rV 0)) z01)) (rN 3)) (z03 (rFzS 3 (rPut (rV 2) (rV 3) (rV 1))) (z0h (rMeth 2 e_House_settle (rV 0) (z00 (rV 3) (z00 (rFld 2 1 (rV 0)) (z00 (rC .non) z01)))))))
noncomputable def e_House_hire:=fnR false 2 0 (z03 (rDo (rCB e_need_name (z00 (rV 1) z01))) (z03 (z0q (z0b (rOp (gIn false) (rV 1) (rFld 2 0 (rV 0)))) (rRaise 1 (z00 (rC (.str "there is a hand of this name")) z01)) z09) (z03 (z0q (z0b (rOp gGe (rCB gLen (z00 (rFld 2 0 (rV 0)) z01)) (rC (.int 40)))) (rRaise 2 (z00 (rC (.str "there are forty hands")) z01)) z09) (z0h (rMeth 2 e_House_with_crew (rV 0) (z00 (rV 1) (z00 (rC (.bl true)) z01)))))))
noncomputable def e_House_need_hand:=fnR false 2 0 (z0q (z0b (rOp (gIn true) (rV 1) (rFld 2 0 (rV 0)))) (rRaise 4 (z00 (rC (.str "there is no hand of this name")) z01)) z09)
noncomputable def e_House_with_task:=fnR false 4 1 (z03 (z07 (rCB (gDict true) (z00 (rFld 2 1 (rV 0)) z01)) (rN 4)) (z03 (rFzS 4 (rPut (rTup (z00 (rV 2) (z00 (rV 3) z01))) (rV 4) (rV 1))) (z0h (rMeth 2 e_House_settle (rV 0) (z00 (rFld 2 0 (rV 0)) (z00 (rV 4) (z00 (rV 1) z01)))))))
noncomputable def e_House_put:=fnR false 4 1 (z03 (rDo (rCB e_need_name (z00 (rV 1) z01))) (z03 (z0q (z0b (rOp (gIn false) (rV 1) (rFld 2 1 (rV 0)))) (rRaise 1 (z00 (rC (.str "there is a chore of this name")) z01)) z09) (z03 (z0q (z0b (rOp gLt (rV 2) (rC (.int 1)))) (rRaise 3 (z00 (rC (.str "a chore's work is 1 at least")) z01)) z09) (z03 (z0q (z0b (rOp (gEq false) (rCB gLen (z00 (rV 3) z01)) (rC (.int 0)))) (rRaise 4 (z00 (rC (.str "a chore names one hand at least")) z01)) z09) (z03 (rFor (rIs (rV 3)) (rN 4) (rDo (rMeth 2 e_House_need_hand (rV 0) (z00 (rV 4) z01)))) (z03 (z0q (z0b (rOp gLt (rLs (rV 3)) (rCB gLen (z00 (rV 3) z01)))) (rRaise 1 (z00 (rC (.str "a hand is named twice")) z01)) z09) (z03 (z0q (z0b (rOp gGe (rCB gLen (z00 (rFld 2 1 (rV 0)) z01)) (rC (.int 40)))) (rRaise 2 (z00 (rC (.str "there are forty chores")) z01)) z09) (z0h (rMeth 2 e_House_with_task (rV 0) (z00 (rV 1) (z00 (rV 2) (z00 (rCp ["hand","names"] false (rIs (rFld 2 0 (rV 0))) 1 [3] (rN 0) (z0b (rOp (gIn false) (rV 0) (rV 1))) (rV 0)) z01))))))))))))
noncomputable def e_House_move:=fnR false 3 0 (z03 (rDo (rMeth 2 e_House_need_hand (rV 0) (z00 (rV 1) z01))) (z03 (z0q (z0b (rOp (gEq false) (rAt (rFld 2 0 (rV 0)) (rV 1)) (rV 2))) (rRaise 6 (z00 (rC (.str "the hand is away already, or there already")) z01)) z09) (z0h (rMeth 2 e_House_with_crew (rV 0) (z00 (rV 1) (z00 (rV 2) z01))))))
noncomputable def e_House_away:=fnR false 2 0 (z0h (rMeth 2 e_House_move (rV 0) (z00 (rV 1) (z00 (rC (.bl false)) z01))))
noncomputable def e_House_hands:=fnR false 1 0 (z0h (rCB (gList false) (z00 (rFld 2 0 (rV 0)) z01)))
noncomputable def e_House_load:=fnR false 2 0 (z03 (rDo (rMeth 2 e_House_need_hand (rV 0) (z00 (rV 1) z01))) (z0h (rAt (rFld 2 3 (rV 0)) (rV 1))))
noncomputable def e_House_chores:=fnR false 1 0 (z0h (rCB (gList false) (z00 (rFld 2 1 (rV 0)) z01)))
noncomputable def e_House_need_chore:=fnR false 2 0 (z0q (z0b (rOp (gIn true) (rV 1) (rFld 2 1 (rV 0)))) (rRaise 5 (z00 (rC (.str "there is no chore of this name")) z01)) z09)
noncomputable def e_House_shares:=fnR false 2 0 (z03 (rDo (rMeth 2 e_House_need_chore (rV 0) (z00 (rV 1) z01))) (z0h (rItems false (rGet2 (rFld 2 2 (rV 0)) (rV 1) (rNewD false)))))
noncomputable def e_House_work:=fnR false 2 0 (z03 (rDo (rMeth 2 e_House_need_chore (rV 0) (z00 (rV 1) z01))) (z0h (rAt (rAt (rFld 2 1 (rV 0)) (rV 1)) (rC (.int 0)))))
noncomputable def e_House_is_there:=fnR false 2 0 (z03 (rDo (rMeth 2 e_House_need_hand (rV 0) (z00 (rV 1) z01))) (z0h (rAt (rFld 2 0 (rV 0)) (rV 1))))
noncomputable def e_House_waiting:=fnR false 1 0 (z0h (rCp ["chore","self"] false (rIs (rFld 2 1 (rV 0))) 1 [0] (rN 0) (z0b (rOp (gIn true) (rV 0) (rFld 2 2 (rV 1)))) (rV 0)))
noncomputable def e__law_look:=fnR false 1 4 (z03 (z07 (rCp ["_law_name","_law_house"] false (rIs (rMeth 2 e_House_hands (rV 0) z01)) 1 [0] (rN 0) z25 (rMeth 2 e_House_load (rV 1) (z00 (rV 0) z01))) (rN 1)) (z03 (z07 (rCp ["_law_chore","_law_house"] false (rIs (rMeth 2 e_House_chores (rV 0) z01)) 1 [0] (rN 0) z25 (rMeth 2 e_House_shares (rV 1) (z00 (rV 0) z01))) (rN 2)) (z03 (z07 (rCp ["_law_chore","_law_house"] false (rIs (rMeth 2 e_House_chores (rV 0) z01)) 1 [0] (rN 0) z25 (rMeth 2 e_House_work (rV 1) (z00 (rV 0) z01))) (rN 3)) (z03 (z07 (rCp ["_law_name","_law_house"] false (rIs (rMeth 2 e_House_hands (rV 0) z01)) 1 [0] (rN 0) z25 (rMeth 2 e_House_is_there (rV 1) (z00 (rV 0) z01))) (rN 4)) (z0h (rTup (z00 (rMeth 2 e_House_hands (rV 0) z01) (z00 (rV 1) (z00 (rV 4) (z00 (rMeth 2 e_House_chores (rV 0) z01) (z00 (rV 3) (z00 (rV 2) (z00 (rMeth 2 e_House_waiting (rV 0) z01) z01)))))))))))))
noncomputable def e__law_odd:=fnR false 1 0 (z0h (rAt (rLst false (z00 (rC (.str "")) (z00 (rC (.str "Ann")) (z00 (rC (.str "a1")) (z00 (rC (.str "a b")) (z00 (rC (.str "abcdefghijklm")) (z00 (rC (.str "ann ")) (z00 (rC (.str "-")) z01)))))))) (rOp z1c (rV 0) (rC (.int 7)))))
noncomputable def e__law_wrong:=fnR false 4 6 (z03 (z07 (rAt (rV 1) (rOp z1c (rOp z19 (rV 0) (rC (.int 24))) (rCB gLen (z00 (rV 1) z01)))) (rN 4)) (z03 (z07 (rAt (rAt (rV 2) (rOp z1c (rOp z19 (rV 0) (rC (.int 24))) (rCB gLen (z00 (rV 2) z01)))) (rC (.int 0))) (rN 5)) (z03 (z07 (rAt (rAt (rV 2) (rOp z1c (rOp z19 (rV 0) (rC (.int 24))) (rCB gLen (z00 (rV 2) z01)))) (rC (.int 1))) (rN 6)) (z03 (z07 (rCB e__law_odd (z00 (rOp z19 (rV 0) (rC (.int 96))) z01)) (rN 7)) (z03 (z07 (rOp z9r (rC (.int 0)) (rOp z1c (rOp z19 (rV 0) (rC (.int 96))) (rOp zlk (rC (.int 10)) (rC (.int 30))))) (rN 8)) (z03 (z07 (rLst true (z00 (rTup (z00 (rC (.str "hire")) (z00 (rV 7) (z00 (rC (.str "name")) z01)))) (z00 (rTup (z00 (rC (.str "hire")) (z00 (rV 4) (z00 (rC (.str "twice")) z01)))) z01))) (rN 9)) (z03 (z07 (rOp (gAdd true) (rV 9) (rLst false (z00 (rTup (z00 (rC (.str "put")) (z00 (rV 7) (z00 (rV 8) (z00 (rLst false z01) (z00 (rC (.str "name")) z01)))))) (z00 (rTup (z00 (rC (.str "put")) (z00 (rV 7) (z00 (rC (.int 5)) (z00 (rLst false (z00 (rV 4) z01)) (z00 (rC (.str "name")) z01)))))) z01)))) (rN 9)) (z03 (z07 (rOp (gAdd true) (rV 9) (rLst false (z00 (rTup (z00 (rC (.str "put")) (z00 (rV 5) (z00 (rV 8) (z00 (rLst false z01) (z00 (rC (.str "twice")) z01)))))) (z00 (rTup (z00 (rC (.str "put")) (z00 (rV 5) (z00 (rC (.int 3)) (z00 (rLst false (z00 (rV 4) z01)) (z00 (rC (.str "twice")) z01)))))) z01)))) (rN 9)) (z03 (z07 (rOp (gAdd true) (rV 9) (rLst false (z00 (rTup (z00 (rC (.str "put")) (z00 (rC (.str "fresh")) (z00 (rV 8) (z00 (rLst false (z00 (rC (.str "nobody")) z01)) (z00 (rC (.str "work")) z01)))))) (z00 (rTup (z00 (rC (.str "put")) (z00 (rC (.str "fresh")) (z00 (rC (.int 0)) (z00 (rLst false (z00 (rV 4) z01)) (z00 (rC (.str "work")) z01)))))) z01)))) (rN 9)) (z03 (z07 (rOp (gAdd true) (rV 9) (rLst false (z00 (rTup (z00 (rC (.str "put")) (z00 (rC (.str "fresh")) (z00 (rC (.int 4)) (z00 (rLst false z01) (z00 (rC (.str "hand")) z01)))))) (z00 (rTup (z00 (rC (.str "put")) (z00 (rC (.str "fresh")) (z00 (rC (.int 4)) (z00 (rLst false (z00 (rV 4) (z00 (rV 4) (z00 (rC (.str "nobody")) z01)))) (z00 (rC (.str "hand")) z01)))))) z01)))) (rN 9)) (z03 (z07 (rOp (gAdd true) (rV 9) (rLst false (z00 (rTup (z00 (rC (.str "put")) (z00 (rC (.str "fresh")) (z00 (rC (.int 4)) (z00 (rOp (gAdd false) (rLst false (z00 (rV 4) z01)) (rV 1)) (z00 (rC (.str "twice")) z01)))))) (z00 (rTup (z00 (rC (.str "put")) (z00 (rC (.str "fresh")) (z00 (rC (.int 7)) (z00 (rLst false (z00 (rV 7) z01)) (z00 (rC (.str "hand")) z01)))))) z01)))) (rN 9)) (z03 (z07 (rOp (gAdd true) (rV 9) (rLst false (z00 (rTup (z00 (rC (.str "drop")) (z00 (rC (.str "nothing")) (z00 (rC (.str "chore")) z01)))) (z00 (rTup (z00 (rC (.str "drop")) (z00 (rV 7) (z00 (rC (.str "chore")) z01)))) (z00 (rTup (z00 (rC (.str "more")) (z00 (rC (.str "nothing")) (z00 (rV 8) (z00 (rC (.str "chore")) z01))))) z01))))) (rN 9)) (z03 (z07 (rOp (gAdd true) (rV 9) (rLst false (z00 (rTup (z00 (rC (.str "more")) (z00 (rV 5) (z00 (rV 8) (z00 (rC (.str "work")) z01))))) (z00 (rTup (z00 (rC (.str "fewer")) (z00 (rC (.str "nothing")) (z00 (rV 8) (z00 (rC (.str "chore")) z01))))) (z00 (rTup (z00 (rC (.str "fewer")) (z00 (rV 5) (z00 (rV 8) (z00 (rC (.str "work")) z01))))) z01))))) (rN 9)) (z03 (z07 (rOp (gAdd true) (rV 9) (rLst false (z00 (rTup (z00 (rC (.str "fewer")) (z00 (rV 5) (z00 (rOp (gAdd false) (rV 6) (rOp z1c (rOp z19 (rV 0) (rC (.int 96))) (rC (.int 3)))) (z00 (rC (.str "work")) z01))))) (z00 (rTup (z00 (rC (.str "away")) (z00 (rC (.str "nobody")) (z00 (rC (.str "hand")) z01)))) (z00 (rTup (z00 (rC (.str "back")) (z00 (rV 7) (z00 (rC (.str "hand")) z01)))) z01))))) (rN 9)) (z03 (rDo (rApp (rV 9) (z00 (rIf (z0b (rOp (gEq true) (rV 3) (rLst false z01))) (rTup (z00 (rC (.str "away")) (z00 (rAt (rV 3) (rC (.int 0))) (z00 (rC (.str "so")) z01)))) (rTup (z00 (rC (.str "back")) (z00 (rV 4) (z00 (rC (.str "so")) z01))))) z01))) (z03 (rDo (rApp (rV 9) (z00 (rTup (z00 (rAt (rLst false (z00 (rC (.str "load")) (z00 (rC (.str "there")) z01))) (rOp z1c (rOp z19 (rV 0) (rC (.int 96))) (rC (.int 2)))) (z00 (rAt (rLst false (z00 (rC (.str "nobody")) (z00 (rV 7) z01))) (rOp z1c (rOp z19 (rV 0) (rC (.int 192))) (rC (.int 2)))) (z00 (rC (.str "hand")) z01)))) z01))) (z03 (rDo (rApp (rV 9) (z00 (rTup (z00 (rAt (rLst false (z00 (rC (.str "shares")) (z00 (rC (.str "work")) (z00 (rC (.str "pieces")) z01)))) (rOp z1c (rOp z19 (rV 0) (rC (.int 96))) (rC (.int 3)))) (z00 (rAt (rLst false (z00 (rC (.str "nothing")) (z00 (rV 7) z01))) (rOp z1c (rOp z19 (rV 0) (rC (.int 288))) (rC (.int 2)))) (z00 (rC (.str "chore")) z01)))) z01))) (z0h (rAt (rV 9) (rOp z1c (rV 0) (rC (.int 24))))))))))))))))))))))
noncomputable def e_House_drop:=fnR false 2 1 (z03 (rDo (rMeth 2 e_House_need_chore (rV 0) (z00 (rV 1) z01))) (z03 (z07 (rCB (gDict true) (z00 (rFld 2 1 (rV 0)) z01)) (rN 2)) (z03 (rFzS 2 (rDo (rDpop (rV 2) (rV 1)))) (z0h (rMeth 2 e_House_settle (rV 0) (z00 (rFld 2 0 (rV 0)) (z00 (rV 2) (z00 (rV 1) z01))))))))
noncomputable def e_House_grow:=fnR false 4 2 (z03 (rDo (rMeth 2 e_House_need_chore (rV 0) (z00 (rV 1) z01))) (z03 (z07 (rAt (rFld 2 1 (rV 0)) (rV 1)) (rN 4)) (z03 (z07 (rOp (gAdd false) (rAt (rV 4) (rC (.int 0))) (rOp (gMul false) (rV 3) (rV 2))) (rN 5)) (z03 (z0q (rOr (z0b (rOp gLt (rV 2) (rC (.int 1)))) (z0b (rOp gLt (rV 5) (rC (.int 1))))) (rRaise 3 (z00 (rC (.str "what is added or taken, and what is left, is 1 at least")) z01)) z09) (z0h (rMeth 2 e_House_with_task (rV 0) (z00 (rV 1) (z00 (rV 5) (z00 (rAt (rV 4) (rC (.int 1))) z01)))))))))
noncomputable def e_House_more:=fnR false 3 0 (z0h (rMeth 2 e_House_grow (rV 0) (z00 (rV 1) (z00 (rV 2) (z00 (rC (.int 1)) z01)))))
noncomputable def e_House_fewer:=fnR false 3 0 (z0h (rMeth 2 e_House_grow (rV 0) (z00 (rV 1) (z00 (rV 2) (z00 (rUn z5a (rC (.int 1))) z01)))))
noncomputable def e_House_back:=fnR false 2 0 (z0h (rMeth 2 e_House_move (rV 0) (z00 (rV 1) (z00 (rC (.bl true)) z01))))
noncomputable def e_House_pieces:=fnR false 2 2 (z03 (rDo (rMeth 2 e_House_need_chore (rV 0) (z00 (rV 1) z01))) (z03 zhk (z0h (rItems false (rGet2 (rFld 2 4 (rV 0)) (rV 1) (rNewD false))))))
noncomputable def e__law_asked:=fnR false 2 1 (z03 (z07 (rAt (rV 1) (rC (.int 0))) (rN 2)) (z03 (z0q (z0b (rOp (gEq false) (rV 2) (rC (.str "hire")))) (z0h (rMeth 2 e_House_hire (rV 0) (z00 (rAt (rV 1) (rC (.int 1))) z01))) z09) (z03 (z0q (z0b (rOp (gEq false) (rV 2) (rC (.str "put")))) (z0h (rMeth 2 e_House_put (rV 0) (z00 (rAt (rV 1) (rC (.int 1))) (z00 (rAt (rV 1) (rC (.int 2))) (z00 (rAt (rV 1) (rC (.int 3))) z01))))) z09) (z03 (z0q (z0b (rOp (gEq false) (rV 2) (rC (.str "drop")))) (z0h (rMeth 2 e_House_drop (rV 0) (z00 (rAt (rV 1) (rC (.int 1))) z01))) z09) (z03 (z0q (z0b (rOp (gEq false) (rV 2) (rC (.str "more")))) (z0h (rMeth 2 e_House_more (rV 0) (z00 (rAt (rV 1) (rC (.int 1))) (z00 (rAt (rV 1) (rC (.int 2))) z01)))) z09) (z03 (z0q (z0b (rOp (gEq false) (rV 2) (rC (.str "fewer")))) (z0h (rMeth 2 e_House_fewer (rV 0) (z00 (rAt (rV 1) (rC (.int 1))) (z00 (rAt (rV 1) (rC (.int 2))) z01)))) z09) (z03 (z0q (z0b (rOp (gEq false) (rV 2) (rC (.str "away")))) (z0h (rMeth 2 e_House_away (rV 0) (z00 (rAt (rV 1) (rC (.int 1))) z01))) z09) (z03 (z0q (z0b (rOp (gEq false) (rV 2) (rC (.str "back")))) (z0h (rMeth 2 e_House_back (rV 0) (z00 (rAt (rV 1) (rC (.int 1))) z01))) z09) (z03 (z0q (z0b (rOp (gEq false) (rV 2) (rC (.str "load")))) (z0h (rMeth 2 e_House_load (rV 0) (z00 (rAt (rV 1) (rC (.int 1))) z01))) z09) (z03 (z0q (z0b (rOp (gEq false) (rV 2) (rC (.str "shares")))) (z0h (rMeth 2 e_House_shares (rV 0) (z00 (rAt (rV 1) (rC (.int 1))) z01))) z09) (z03 (z0q (z0b (rOp (gEq false) (rV 2) (rC (.str "work")))) (z0h (rMeth 2 e_House_work (rV 0) (z00 (rAt (rV 1) (rC (.int 1))) z01))) z09) (z03 (z0q (z0b (rOp (gEq false) (rV 2) (rC (.str "pieces")))) (z0h (rMeth 2 e_House_pieces (rV 0) (z00 (rAt (rV 1) (rC (.int 1))) z01))) z09) (z0h (rMeth 2 e_House_is_there (rV 0) (z00 (rAt (rV 1) (rC (.int 1))) z01)))))))))))))))
noncomputable def e__law_class:=fnR false 2 3 (zrv (z03 (z07 (rC .non) (rN 2)) (z03 (rTry 3 yk e__law_asked (z00 (rV 0) (z00 (rV 1) z01)) (z07 (rV 3) (rN 2))) (z03 (z07 (rLst true z01) (rN 4)) (z03 (z0q (z0b (rIsX (bX 10 0) (rV 2))) (rDo (rApp (rV 4) (z00 (rC (.str "name")) z01))) z09) (z03 (z0q (z0b (rIsX (bX 10 1) (rV 2))) (rDo (rApp (rV 4) (z00 (rC (.str "twice")) z01))) z09) (z03 (z0q (z0b (rIsX (bX 10 2) (rV 2))) (rDo (rApp (rV 4) (z00 (rC (.str "many")) z01))) z09) (z03 (z0q (z0b (rIsX (bX 10 3) (rV 2))) (rDo (rApp (rV 4) (z00 (rC (.str "work")) z01))) z09) (z03 (z0q (z0b (rIsX (bX 10 4) (rV 2))) (rDo (rApp (rV 4) (z00 (rC (.str "hand")) z01))) z09) (z03 (z0q (z0b (rIsX (bX 10 5) (rV 2))) (rDo (rApp (rV 4) (z00 (rC (.str "chore")) z01))) z09) (z03 (z0q (z0b (rIsX (bX 10 6) (rV 2))) (rDo (rApp (rV 4) (z00 (rC (.str "so")) z01))) z09) (z03 (z0q (rOr (z0b (rIsX (bX 10 7) (rV 2))) (rOr (z0b (rIsX (bX 10 8) (rV 2))) (z0b (rIsX (bX 10 9) (rV 2))))) (rDo (rApp (rV 4) (z00 (rC (.str "else")) z01))) z09) (z03 (z0q (ze3 (z0b (rOp (gIs true) (rV 2) (rC .non))) (z6e (z0b (rIsX (bV 10) (rV 2))))) (rDo (rApp (rV 4) (z00 (rC (.str "value")) z01))) z09) (z0h (rV 4)))))))))))))))
noncomputable def e__law_taken:=fnR false 1 2 (z03 (rDo (rMeth 2 e_House_hire (rV 0) (z00 (rC (.str "nobody")) z01))) (z03 (rDo (rMeth 2 e_House_put (rV 0) (z00 (rC (.str "nothing")) (z00 (rC (.int 3)) (z00 (rLst false (z00 (rC (.str "nobody")) z01)) z01))))) (z03 (z0q (rOr (z0b (rOp (gEq true) (rMeth 2 e_House_load (rV 0) (z00 (rC (.str "nobody")) z01)) (rTup (z00 (rC (.int 3)) (z00 (rC (.int 1)) z01))))) (z0b (rOp (gEq true) (rMeth 2 e_House_work (rV 0) (z00 (rC (.str "nothing")) z01)) (rC (.int 3))))) (z0h (rC (.bl false))) z09) (z03 (rFor (rIs (rLst false (z00 (rC (.int 11)) (z00 (rC (.int 12)) z01)))) (rN 1) (z03 (z07 (rSl false (rC (.str "bakersdaughter")) rO0 (rO1 (rV 1))) (rN 2)) (z03 (rDo (rMeth 2 e_House_hire (rV 0) (z00 (rV 2) z01))) (z03 (rDo (rMeth 2 e_House_put (rV 0) (z00 (rV 2) (z00 (rV 1) (z00 (rLst false (z00 (rV 2) z01)) z01))))) (z0q (rOr (z0b (rOp (gEq true) (rMeth 2 e_House_load (rV 0) (z00 (rV 2) z01)) (rTup (z00 (rV 1) (z00 (rC (.int 1)) z01))))) (rOr (z0b (rOp (gEq true) (rAt (rMeth 2 e_House_hands (rV 0) z01) (rUn z5a (rC (.int 1)))) (rV 2))) (z0b (rOp (gEq true) (rAt (rMeth 2 e_House_chores (rV 0) z01) (rUn z5a (rC (.int 1)))) (rV 2))))) (z0h (rC (.bl false))) z09))))) (z0h (rC (.bl true)))))))
noncomputable def e__law_full_chores:=fnR false 1 3 (z03 (z07 (rCB (gMake 2 e_House_init) z01) (rN 1)) (z03 (rDo (rMeth 2 e_House_hire (rV 1) (z00 (rC (.str "one")) z01))) (z03 (rDo (rMeth 2 e_House_away (rV 1) (z00 (rC (.str "one")) z01))) (z03 (z07 (rC (.str "abcdefghijklmnopqrstuvwxyzabcdefghijklmnop")) (rN 2)) (z03 (rFor (rIr (z00 (rC (.int 40)) z01)) (rN 3) (rDo (rMeth 2 e_House_put (rV 1) (z00 (rOp (gAdd false) (rAt (rV 2) (rV 3)) (rAt (rV 2) (rOp z19 (rV 3) (rC (.int 26))))) (z00 (rOp (gAdd false) (rC (.int 1)) (rV 3)) (z00 (rLst false (z00 (rC (.str "one")) z01)) z01)))))) (z03 (z0q (z0b (rOp (gEq true) (rCB e__law_class (z00 (rV 1) (z00 (rTup (z00 (rC (.str "put")) (z00 (rC (.str "another")) (z00 (rC (.int 4)) (z00 (rLst false (z00 (rC (.str "one")) z01)) z01))))) z01))) (rLst false (z00 (rC (.str "many")) z01)))) (z0h (rC (.bl false))) z09) (z03 (z0q (z0b (rOp (gEq true) (rCB e__law_class (z00 (rV 1) (z00 (rTup (z00 (rC (.str "put")) (z00 (rC (.str "another")) (z00 (rC (.int 4)) (z00 (rLst false (z00 (rC (.str "one")) (z00 (rC (.str "one")) z01))) z01))))) z01))) (rLst false (z00 (rC (.str "twice")) z01)))) (z0h (rC (.bl false))) z09) (z03 (z0q (z0b (rOp (gEq true) (rCB e__law_class (z00 (rV 1) (z00 (rTup (z00 (rC (.str "put")) (z00 (rC (.str "another")) (z00 (rC (.int 0)) (z00 (rLst false (z00 (rC (.str "one")) z01)) z01))))) z01))) (rLst false (z00 (rC (.str "work")) z01)))) (z0h (rC (.bl false))) z09) (z03 (z0q (z0b (rOp (gEq true) (rCB e__law_class (z00 (rV 1) (z00 (rTup (z00 (rC (.str "put")) (z00 (rC (.str "another")) (z00 (rC (.int 4)) (z00 (rLst false (z00 (rC (.str "one")) (z00 (rC (.str "two")) z01))) z01))))) z01))) (rLst false (z00 (rC (.str "hand")) z01)))) (z0h (rC (.bl false))) z09) (z0h (z3x (rOp (gEq false) (rMeth 2 e_House_load (rV 1) (z00 (rC (.str "one")) z01)) (rTup (z00 (rC (.int 0)) (z00 (rC (.int 1)) z01)))) (rOp (gEq false) (rCB gLen (z00 (rMeth 2 e_House_waiting (rV 1) z01) z01)) (rC (.int 40))))))))))))))
noncomputable def e__law_full:=fnR false 1 3 (z03 (z07 (rCB (gMake 2 e_House_init) z01) (rN 1)) (z03 (z07 (rC (.str "abcdefghijklmnopqrstuvwxyzabcdefghijklmnop")) (rN 2)) (z03 (rFor (rIr (z00 (rC (.int 40)) z01)) (rN 3) (rDo (rMeth 2 e_House_hire (rV 1) (z00 (rOp (gAdd false) (rAt (rV 2) (rV 3)) (rAt (rV 2) (rOp z19 (rV 3) (rC (.int 26))))) z01)))) (z03 (z0q (rOr (z0b (rOp (gEq true) (rCB e__law_class (z00 (rV 1) (z00 (rTup (z00 (rC (.str "hire")) (z00 (rC (.str "another")) z01))) z01))) (rLst false (z00 (rC (.str "many")) z01)))) (z0b (rOp (gEq true) (rCB e__law_class (z00 (rV 1) (z00 (rTup (z00 (rC (.str "hire")) (z00 (rC (.str "aa")) z01))) z01))) (rLst false (z00 (rC (.str "twice")) z01))))) (z0h (rC (.bl false))) z09) (z0h (z3x (rOp (gEq false) (rCB e__law_class (z00 (rV 1) (z00 (rTup (z00 (rC (.str "hire")) (z00 (rC (.str "")) z01))) z01))) (rLst false (z00 (rC (.str "name")) z01))) (rOp (gEq false) (rCB gLen (z00 (rMeth 2 e_House_hands (rV 1) z01) z01)) (rC (.int 40)))))))))
noncomputable def e_law:=fnR false 1 12 (z03 (z07 (rC (.int 0)) (rN 1)) (z03 (z0q (z0b (rOp gGt (rCB gLen (z00 (rV 0) z01)) (rC (.int 0)))) (z07 (rAt (rV 0) (rC (.int 0))) (rN 1)) z09) (z03 (z07 (rCB (gMake 2 e_House_init) z01) (rN 2)) (z03 (z07 (rSl false (rLst false (z00 (rC (.str "ann")) (z00 (rC (.str "bob")) (z00 (rC (.str "cy")) (z00 (rC (.str "dora")) z01))))) rO0 (rO1 (rOp (gAdd false) (rC (.int 1)) (rOp z1c (rV 1) (rC (.int 4)))))) (rN 3)) (z03 (rFor (rIs (rV 3)) (rN 4) (rDo (rMeth 2 e_House_hire (rV 2) (z00 (rV 4) z01)))) (z03 (z07 (rSl false (rLst false (z00 (rTup (z00 (rC (.str "roof")) (z00 (rC (.int 12)) z01))) (z00 (rTup (z00 (rC (.str "ann")) (z00 (rC (.int 1)) z01))) (z00 (rTup (z00 (rC (.str "hedge")) (z00 (rOp zlk (rC (.int 10)) (rC (.int 40))) z01))) z01)))) rO0 (rO1 (rOp (gAdd false) (rC (.int 1)) (rOp z1c (rOp z19 (rV 1) (rC (.int 4))) (rC (.int 3)))))) (rN 5)) (z03 (rFor (rIs (rV 5)) (rN2 4 6) (rDo (rMeth 2 e_House_put (rV 2) (z00 (rV 4) (z00 (rV 6) (z00 (rCB (gList false) (z00 (rV 3) z01)) z01)))))) (z03 (z07 (rLst false z01) (rN 7)) (z03 (z0q (z0b (rOp (gEq false) (rOp z1c (rOp z19 (rV 1) (rC (.int 12))) (rC (.int 2))) (rC (.int 1)))) (z03 (z07 (rSl false (rV 3) (rO1 (rUn z5a (rC (.int 1)))) rO0) (rN 7)) (z03 (rDo (rMeth 2 e_House_away (rV 2) (z00 (rAt (rV 7) (rC (.int 0))) z01))) (z07 (rOp (gAdd false) (rSl false (rV 3) rO0 (rO1 (rUn z5a (rC (.int 1))))) (rV 7)) (rN 3)))) z09) (z03 (z07 (rCp ["_law_name","_law_gone"] false (rIs (rV 3)) 1 [7] (rN 0) (z0b (rOp (gIn true) (rV 0) (rV 1))) (rV 0)) (rN 8)) (z03 (z07 (rCB e__law_look (z00 (rV 2) z01)) (rN 9)) (z03 (rFor (rIs (rOp (gAdd false) (rSl false (rV 0) (rO1 (rC (.int 1))) (rO1 (rC (.int 62)))) (rLst false (z00 (rV 1) z01)))) (rN 10) (z03 (z07 (rCB e__law_wrong (z00 (rV 10) (z00 (rSl false (rOp (gAdd false) (rV 8) (rV 7)) rO0 (rO1 (rCB gMax (z00 (rC (.int 1)) (z00 (rCB gLen (z00 (rV 8) z01)) z01))))) (z00 (rV 5) (z00 (rV 7) z01))))) (rN 11)) (z03 (z07 (rAt (rV 11) (rUn z5a (rC (.int 1)))) (rN 12)) (z0q (rOr (z0b (rOp (gEq true) (rCB e__law_class (z00 (rV 2) (z00 (rSl false (rV 11) rO0 (rO1 (rUn z5a (rC (.int 1))))) z01))) (rLst false (z00 (rV 12) z01)))) (z0b (rOp (gEq true) (rCB e__law_look (z00 (rV 2) z01)) (rV 9)))) (z0h (rC (.bl false))) z09)))) (z03 (z0q (rOr (z0b (rOp (gEq true) (rCB e__law_class (z00 (rV 2) (z00 (rTup (z00 (rC (.str "load")) (z00 (rC (.str "nobody")) z01))) z01))) (rLst false (z00 (rC (.str "hand")) z01)))) (z0b (rOp (gEq true) (rCB e__law_class (z00 (rV 2) (z00 (rTup (z00 (rC (.str "work")) (z00 (rC (.str "nothing")) z01))) z01))) (rLst false (z00 (rC (.str "chore")) z01))))) (z0h (rC (.bl false))) z09) (z03 (z0q (rOr (z6e (z0b (rFg 2 2 (rCB e__law_taken (z00 (rV 2) z01))))) (ze3 (z0b (rOp (gEq false) (rOp z1c (rOp z19 (rV 1) (rC (.int 24))) (rC (.int 8))) (rC (.int 1)))) (z6e (z0b (rCB e__law_full_chores (z00 (rV 1) z01)))))) (z0h (rC (.bl false))) z09) (z0h (rCB e__law_full (z00 (rV 1) z01)))))))))))))))))
end My
set_option Elab.async false
set_option linter.all false
set_option maxRecDepth 1000000
namespace My
open PySem L2 L2.EX L2.RX
noncomputable def xEqs {α:Type} (g:α->α->Bool) (ds es:List α):Bool:=y0l (motive:=λ_=>List α->Bool) (λes=>match es with
 | []=>true
 | _=>false) (λd _ ih es=>match es with
 | []=>false
 | e::r=>bif g d e then ih r else false) ds es
theorem z2b {α:Type}{g:α->α->Bool}(hg:∀d e,g d e=true->d=e):∀{ds es:List α},xEqs g ds es=true->ds=es
 | [],[],_=>rfl
 | [],_::_,z=>by cases z
 | _::_,[],z=>by cases z
 | d::ds,e::es,z=>by
  replace z:(bif g d e then xEqs g ds es else false)=true:=z;cases hb:g d e with
  | false=>rw[hb] at z;cases z
  | true=>rw[hb] at z;rw[hg d e hb,z2b hg z]
noncomputable def tEq1 (ih:D->D->Bool) (d e:D):Bool:=match d,e with
 | .non,.non=>true
 | .bl true,.bl true=>true
 | .bl false,.bl false=>true
 | .int i,.int j=>iEq i j
 | .str x,.str y=>sEq x y
 | .lst ds,.lst es=>xEqs ih ds es
 | .tup ds,.tup es=>xEqs ih ds es
 | .dic ks ds,.dic ls es=>bif xEqs kEq ks ls then xEqs ih ds es else false
 | _,_=>false
noncomputable def tEq (n:Nat):D->D->Bool:=y36 (motive:=λ_=>D->D->Bool) (λ_ _=>false) (λ_ ih=>tEq1 ih) n
theorem z8y:∀(n:Nat) {d e:D},tEq n d e=true->d=e
 | 0,_,_,z=>by cases z
 | n+1,d,e,z=>by
  have ih:∀d e,tEq n d e=true->d=e:=λd e=>z8y n;replace z:tEq1 (tEq n) d e=true:=z;unfold tEq1 at z
  split at z<;>first | rfl | skip
  ·rw[z3a] at z;rw[of_decide_eq_true z]
  ·rw[z40] at z;rw[of_decide_eq_true z]
  ·rw[z2b ih z]
  ·rw[z2b ih z]
  ·rename_i ks ds ls es;cases hb:xEqs kEq ks ls with
   | false=>rw[hb] at z;cases z
   | true=>rw[hb] at z;rw[z2b (λd e h=>by rw[z56] at h;exact of_decide_eq_true h) hb,z2b ih z]
  ·cases z
abbrev S (l:List Nat):Str:=⟨⟨l⟩⟩
def ztz:Str:=S [97,110,110]
def z1p:Str:=S [110,111,98,111,100,121]
def z1a:Str:=S [110,111,116,104,105,110,103]
def z1f:Str:=S [102,114,101,115,104]
def hs4:List Str:=[ztz,S [98,111,98],S [99,121],S [100,111,114,97]]
def cs3:List (Str×Int):=[(S [114,111,111,102],12),(ztz,1),(S [104,101,100,103,101],10000000000000000000000000000000000000000)]
def odds:List Str:=[S [],S [65,110,110],S [97,49],S [97,32,98],S [97,98,99,100,101,102,103,104,105,106,107,108,109],S [97,110,110,32],S [45]]
abbrev hO (ns:List Int)(fs:List D):TH:=[.mr ns,.mi 2 fs]
noncomputable def deed (ev:List D->TH->R D) (args:List D) (p:List Int×List D):Option (List Int×List D):=match ev (.at 1::args) (hO p.1 p.2) with
 | .ok _ (.mr m :: .mi 2 gs :: [])=>some (m,gs)
 | _=>none
noncomputable def hires (xs:List Str) (s:Option (List Int×List D)):Option (List Int×List D):=y0l (motive:=λ_=>Option (List Int×List D)->Option (List Int×List D)) (λs=>s) (λn _ ih s=>ih (match s with
 | some p=>deed e_House_hire [.str n] p
 | none=>none)) xs s
noncomputable def puts (hs:List D) (xs:List (Str×Int)) (s:Option (List Int×List D)):Option (List Int×List D):=y0l (motive:=λ_=>Option (List Int×List D)->Option (List Int×List D)) (λs=>s) (λn _ ih s=>ih (match s with
 | some p=>deed e_House_put [.str n.1,.int n.2,.lst hs] p
 | none=>none)) xs s
def hsR (r:Nat):List Str:=hs4.take (1+r % 4)
def csR (r:Nat):List (Str×Int):=cs3.take (1+r / 4 % 3)
def z0g (r:Nat):List Str:=bif y17 (r / 12 % 2) 1 then (hsR r).drop (r % 4) else []
noncomputable def bld (ns:List Int) (r:Nat):Option (List Int×List D):=match puts ((hsR r).map .str) (csR r) (hires (hsR r) (deed e_House_init [] (ns,[]))) with
 | some p=>match z0g r with
  | x::_=>deed e_House_away [.str x] p
  | []=>some p
 | none=>none
def whR (r:Nat):List Str:=bif y17 (r / 12 % 2) 1 && !Nat.beq (r % 4) 0 then (hsR r).take (r % 4) else hsR r
def nmx (c:Nat):Str:=match c with
 | 0=>S [110,97,109,101]
 | 1=>S [116,119,105,99,101]
 | 2=>S [109,97,110,121]
 | 3=>S [119,111,114,107]
 | 4=>S [104,97,110,100]
 | 5=>S [99,104,111,114,101]
 | _=>S [115,111]
noncomputable def cls (ns:List Int) (fs:List D) (dc:List D×Nat):Option (List Int):=match e__law_class [.at 1,.tup dc.1] (hO ns fs) with
 | .ok (.lst [.str s]) (.mr m :: .mi 2 gs :: [])=>bif sEq s (nmx dc.2)&&xEqs (tEq 9) gs fs then some m else none
 | _=>none
abbrev zbq:=D.str (S [104,105,114,101])
abbrev z5o:=D.str (S [112,117,116])
abbrev zd7:=D.str (S [100,114,111,112])
abbrev zsf:=D.str (S [109,111,114,101])
abbrev zh2:=D.str (S [102,101,119,101,114])
abbrev zl9:=D.str (S [97,119,97,121])
abbrev zfm:=D.str (S [98,97,99,107])
abbrev z78:=D.str (S [108,111,97,100])
abbrev z5f:=D.str (S [116,104,101,114,101])
abbrev z2y:=D.str (S [115,104,97,114,101,115])
abbrev z6h:=D.str (S [119,111,114,107])
abbrev z2r:=D.str (S [112,105,101,99,101,115])
def dl (hs:List Str)(cs:List (Str×Int))(gs:List Str):List (List D×Nat) :=
 (odds.flatMap λo=>[([zbq,.str o],0),([z5o,.str z1f,.int 7,.lst [.str o]],4),([zd7,.str o],5),([zfm,.str o],4)]++([z78,z5f].map λw=>([w,.str o],4))++([z2y,z6h,z2r].map λw=>([w,.str o],5))++(hs.map λh=>([z5o,.str o,.int 5,.lst [.str h]],0))) ++
 (hs.flatMap λh=>[([zbq,.str h],1),([z5o,.str z1f,.int 0,.lst [.str h]],3),([z5o,.str z1f,.int 4,.lst [.str h,.str h,.str z1p]],4),([z5o,.str z1f,.int 4,.lst (.str h::hs.map .str)],1)]++(cs.map λc=>([z5o,.str c.1,.int 3,.lst [.str h]],1))) ++
 [([z5o,.str z1f,.int 4,.lst []],4),([zd7,.str z1a],5),([zl9,.str z1p],4)]++([z78,z5f].map λw=>([w,.str z1p],4))++([z2y,z6h,z2r].map λw=>([w,.str z1a],5)) ++
 (cs.flatMap λc=>[0,1,2].map λk=>([zh2,.str c.1,.int (c.2+k)],3)) ++
 (match gs with
  | x::_=>[([zl9,.str x],6)]
  | []=>hs.map λh=>([zfm,.str h],6))
def dlR (r:Nat):List (List D×Nat):=dl (whR r) (csR r) (z0g r)
def dm (cs:List (Str×Int))(v:Int):List (List D×Nat):=(odds.map λo=>([z5o,.str o,.int v,.lst []],0))++(cs.map λc=>([z5o,.str c.1,.int v,.lst []],1)) ++ [([z5o,.str z1f,.int v,.lst [.str z1p]],3),([zsf,.str z1a,.int v],5),([zh2,.str z1a,.int v],5)]
def dmR (r:Nat)(v:Int):List (List D×Nat):=dm (csR r) v
noncomputable def allB {α:Type} (g:α->Bool) (l:List α):Bool:=y0l (motive:=λ_=>Bool) true (λa _ ih=>bif g a then ih else false) l
noncomputable def lok (ns:List Int) (fs:List D):Option (List Int):=match e__law_look [.at 1] (hO ns fs) with
 | .ok v (.mr m :: .mi 2 gs :: [])=>bif (flat 9 v&&flat 60 v)&&xEqs (tEq 9) gs fs then some m else none
 | _=>none
noncomputable def tsk (cs:List (Str×Int)) (fs:List D):Bool:=match eg fs 1 with
 | some (.dic ks ds)=>allB (λc:Str×Int=>match onO (dk (.str c.1)) λk=>lk k ks ds with
  | some (some (.tup [.int w,_]))=>iEq w c.2
  | _=>false) cs
 | _=>false
noncomputable def plB (n:Nat):D->Bool:=y36 (motive:=λ_=>D->Bool) (λ_=>false) (λ_ ih d=>match d with
 | .lst ds=>allB ih ds
 | .tup ds=>allB ih ds
 | .dic _ ds=>allB ih ds
 | .at _=>false
 | _=>true) n
theorem z2x {α:Type}{g:α->Bool}:∀{l:List α},allB g l=true->∀x∈l,g x=true
 | [],_,x,h=>by simp at h
 | y::l,e,x,h=>by
  replace e:(bif g y then allB g l else false)=true:=e;cases hb:g y with
  | false=>rw[hb] at e;cases e
  | true =>
   rw[hb] at e;rcases y0a.mp h with rfl | h
   ·exact hb
   ·exact z2x e x h
theorem z1x {f:D->Option D}:∀{l:List D},(∀x∈l,f x=some x)->emap f l=some l
 | [],_=>rfl
 | x::l,h=>emap_cons.mpr ⟨x,l,h x (.head _),z1x λy hy=>h y (.tail _ hy),rfl⟩
theorem zf2 {h:TH}{n:Nat}:∀(m:Nat) {d:D},plB m d=true->fz h n m d=some d
 | 0,d,z=>by cases z
 | m+1,d,z=>by
  have ih:∀{d},plB m d=true->fz h n m d=some d:=λ{d}=>zf2 m;cases d with
  | lst ds=>show onO (emap (fz h n m) ds) _=_;rw[z1x λx hx=>ih (z2x z x hx)];rfl
  | tup ds=>show onO (emap (fz h n m) ds) _=_;rw[z1x λx hx=>ih (z2x z x hx)];rfl
  | dic ks ds=>show onO (emap (fz h n m) ds) _=_;rw[z1x λx hx=>ih (z2x z x hx)];rfl
  | «at» i=>cases z
  | non=>rfl
  | bl _=>rfl
  | int _=>rfl
  | str _=>rfl
  | fn _=>rfl
noncomputable def tkn (ns:List Int) (fs:List D):Option (List Int):=match e__law_taken [.at 1] (hO ns fs) with
 | .ok (.bl true) (.mr m :: .mi 2 _ :: [])=>some m
 | _=>none
noncomputable def oo (ns:List Int) (b:Bool):Option (List Int):=bif b then some ns else none
noncomputable def okAll (ns:List Int) (r k:Nat):List (Option (List Int)):=match bld ns r with
 | some p=>some p.1::lok ns p.2::oo ns (tsk (csR r) p.2&&allB (plB 9) p.2)::tkn ns p.2::(dlR r++(dmR r 0++dmR r (y50 k))).map (cls ns p.2)
 | none=>[none]
abbrev OkH (ns:List Int)(r k:Nat):Prop:=okAll ns r k=(okAll ns r k).map λ_=>some ns
end My
set_option Elab.async false
set_option linter.all false
set_option maxRecDepth 100000
namespace L2.RX
open PySem L2.EX
section
variable {f g:RS}{fT:RT}{fa fb:RE}{ρ ρ':DEn}{h h' h2:TH}{d e:D}{fg:RG}{c:Nat}{l:List D}{x y:Int}
theorem z0c (z:f ρ h = .ok (.nx ρ') h'):z03 f g ρ h=g ρ' h':=by unfold z03;rw[z];rfl
theorem zbn (z:f ρ h = .ex c h'):z03 f g ρ h = .ex c h':=by unfold z03;rw[z];rfl
theorem zem (z:fT ρ h = .ok true h'):z0q fT f g ρ h=f ρ h':=by unfold z0q;rw[z];rfl
theorem ze0 (z:fT ρ h = .ok false h'):z0q fT f g ρ h=g ρ h':=by unfold z0q;rw[z];rfl
theorem z12 (z:fa ρ h = .ok d h')(k:fg d ρ=some ρ'):z07 fa fg ρ h = .ok (.nx ρ') h':=by unfold z07;rw[z];show ofO (fg d ρ) _=_;rw[k];rfl
theorem z1o {o:D->D->TH->R D}{r:R D}(z1:fa ρ h = .ok d h')(z2:fb ρ h' = .ok e h2)(z3:o d e h2=r):rOp o fa fb ρ h=r:=by unfold rOp;rw[z1];show R.bnd (fb ρ h') _=_;rw[z2];exact z3
theorem z5d (z1:fa ρ h = .ok (.int x) h')(z2:fb ρ h' = .ok (.int y) h2)(p:0<y):rOp z1c fa fb ρ h = .ok (.int (x % y)) h2:=z1o z1 z2 (by
 show z18 (zrt x y) _=_;unfold zrt;rw[z1e,decide_eq_true p];rfl)
theorem zak {i:Int}(z1:fa ρ h = .ok (.lst l) h')(z2:fb ρ h' = .ok (.int i) h2)(z3:eat l i=some d):rAt fa fb ρ h = .ok d h2:=by
 unfold rAt;refine z1o z1 z2 ?_;show gIx (.lst l) (.int i) h2=_;unfold gIx;show ofO (eat l i) _=_;rw[z3];rfl
theorem zjv {n:Nat}:eat l (Int.ofNat n)=l[n]?:=z0r _ _
theorem z67 {n:Nat}{k:Int}(hn:l.length=n)(h0:n≠0):∃j,j<n/\k % (n:Int)=(j:Int)/\eat l (k % (n:Int))=l[j]?:=by
 have h1:=y4o k (show(n:Int)≠0 by omega)
 have h2:=y3o k (show(0:Int)<n by omega)
 refine⟨(k % (n:Int)).toNat,by omega,by omega,?_⟩
 rw[←zjv];congr 1;exact(Int.toNat_of_nonneg h1).symm
theorem zha {fs:RS}(Inv:Nat->DEn->TH->Prop)(hs:∀i d ρ h,l[i]?=some d->Inv i ρ h->∃ ρ1 ρ2 h2,fg d ρ=some ρ1/\fs ρ1 h = .ok (.nx ρ2) h2/\Inv (i+1) ρ2 h2) :
  ∀(m i:Nat) (ρ:DEn) (h:TH),i≤l.length->l.length<i+m->Inv i ρ h->∃ ρ' h',rGo (nSeq (.lst l)) fg fs m i ρ h = .ok (.nx ρ') h'/\Inv l.length ρ' h'
 | 0,i,ρ,h,h1,h2,_=>absurd h2 (by omega)
 | m+1,i,ρ,h,h1,h2,k=>by
  have e:nSeq (.lst l) h i=some (l[i]?):=by
   show onO (eS h (.lst l)) _=_;show some (eg l i)=_;rw[z0r]
  rw[z9a,e]
  by_cases lt:i<l.length
  ·have e1:l[i]?=some l[i]:=y02 lt;obtain⟨ρ1,ρ2,h3,q1,q2,q3⟩:=hs i _ ρ h e1 k;obtain⟨ρ',h',q4,q5⟩:=zha Inv hs m (i+1) ρ2 h3 lt (by omega) q3
   refine⟨ρ',h',?_,q5⟩;rw[e1];show ofO (fg l[i] ρ) _=_;rw[q1];show R.bnd (fs ρ1 h) _=_;rw[q2];exact q4
  ·have:i=l.length:=by omega
   subst this;exact⟨ρ,h,by rw[y4p (y08 _)],k⟩
theorem z7m {fs:RS}(Inv:Nat->DEn->TH->Prop)(he:fa ρ h = .ok (.lst l) h')(hl:l.length<1000)(h0:Inv 0 ρ h')(hs:∀i d ρ h,l[i]?=some d->Inv i ρ h->∃ ρ1 ρ2 h2,fg d ρ=some ρ1/\fs ρ1 h = .ok (.nx ρ2) h2/\Inv (i+1) ρ2 h2) :
  ∃ ρ2 h2,rFor (rIs fa) fg fs ρ h = .ok (.nx ρ2) h2/\Inv l.length ρ2 h2:=by
 obtain⟨ρ2,h2,q,k⟩:=zha (l:=l) Inv hs 1000 0 ρ h' (y2s _) (by omega) h0
 refine⟨ρ2,h2,?_,k⟩;unfold rFor rIs;rw[he];exact q
theorem zc4 {p:D->Bool}{v:D->D}(hs:∀d∈l,∃ ρ1,fg d ρ=some ρ1/\fT ρ1 h = .ok (p d) h/\(p d=true->fa ρ1 h = .ok (v d) h)) :
  ∀(m i:Nat),i≤l.length->l.length<i+m->rCg (nSeq (.lst l)) fg fT fa ρ m i h = .ok (((l.drop i).filter p).map v) h
 | 0,i,h1,h2=>absurd h2 (by omega)
 | m+1,i,h1,h2=>by
  have e:nSeq (.lst l) h i=some (l[i]?):=by
   show some (eg l i)=_;rw[z0r]
  rw[z9k,e]
  by_cases lt:i<l.length
  ·have e1:l[i]?=some l[i]:=y02 lt;obtain⟨ρ1,q1,q2,q3⟩:=hs l[i] (y21 lt);have ih:=zc4 hs m (i+1) lt (by omega)
   rw[e1,y24 lt,y47];show ofO (fg l[i] ρ) _=_;rw[q1];show R.bnd (fT ρ1 h).nox _=_;rw[q2];show(bif p l[i] then R.bnd (fa ρ1 h).nox _ else _)=_;cases hb:p l[i] with
   | false=>exact ih
   | true =>
    rw[q3 hb];show R.bnd (rCg (nSeq (.lst l)) fg fT fa ρ m (i+1) h) _=_;rw[ih];rfl
  ·have:i=l.length:=by omega
   subst this;rw[y4p (y08 _),y49];rfl
theorem ze7 {N:List Str}{n:Nat}{fr:List Nat}{p:D->Bool}{v:D->D}{fe:RE}(he:fe ρ h = .ok (.lst l) h')(hl:l.length<1000)(hs:∀d∈l,∃ ρ1,fg d (y0b n none++eFr ρ fr)=some ρ1/\fT ρ1 h' = .ok (p d) h'/\(p d=true->fa ρ1 h' = .ok (v d) h')) :
  rCp N false (rIs fe) n fr fg fT fa ρ h = .ok (.lst ((l.filter p).map v)) h':=by
 show rComp false (rIs fe) n fr fg fT fa ρ h=_;unfold rComp rIs;rw[he];show R.bnd (rCg (nSeq (.lst l)) fg fT fa _ 1000 0 h') _=_;rw[zc4 hs 1000 0 (y2s _) (by omega)]
 rfl
theorem zf9 {keep:Bool}{n k:Nat}{ds:List D}{v:D}(hn:ds.length=n)(z:f (eMap ds k) h = .ok (.rt v) h')(t:trunc (eln h) v h' = .ok e h2):fnR false n k f ds h = .ok e h2:=by
 unfold fnR;rw[z,z06,hn,show y17 n n=true from y3p n]
 exact t
theorem zjg {n k:Nat}{ds:List D}{v:D}(hn:ds.length=n)(z:f (eMap ds k) h = .ok (.rt v) h')(hl:h'.length=h.length):fnR false n k f ds h = .ok v h':=zf9 (keep:=false) hn z (by
 unfold trunc;rw[z06,z06,hl,show y17 h.length h.length=true from y3p _];rfl)
theorem zdk {n k:Nat}{ds:List D}(hn:ds.length=n)(z:f (eMap ds k) h = .ex c h')(hl:h'.length=h.length):fnR false n k f ds h = .ex c h':=by
 unfold fnR;rw[z,z06,hn,show y17 n n=true from y3p n]
 show truncX (eln h) c h'=_;unfold truncX;rw[z06,z06,hl,show y17 h.length h.length=true from y3p _];rfl
end
end L2.RX
set_option Elab.async false
set_option linter.all false
set_option maxRecDepth 100000
namespace My
open PySem L2 L2.EX L2.RX
section
variable {ns:List Int}{fs gs:List D}{p q:List Int×List D}
theorem z5s {ev:List D->TH->R D}{args:List D}(e:deed ev args p=some q):∃v,ev (.at 1::args) (hO p.1 p.2) = .ok v (hO q.1 q.2):=by
 unfold deed at e
 split at e
 ·rename_i v m gs e1;cases e;exact⟨v,e1⟩
 ·cases e
theorem z34:∀l:List Str,hires l none=none
 | []=>rfl
 | _::l=>z34 l
theorem za3 {n:Str}{l:List Str}(e:hires (n::l) (some p)=some q):∃p',deed e_House_hire [.str n] p=some p'/\hires l (some p')=some q:=by
 replace e:hires l (deed e_House_hire [.str n] p)=some q:=e;cases h:deed e_House_hire [.str n] p with
 | none=>rw[h,z34] at e;cases e
 | some f=>rw[h] at e;exact⟨f,rfl,e⟩
theorem z4c {hs:List D}:∀l:List (Str×Int),puts hs l none=none
 | []=>rfl
 | _::l=>z4c (hs:=hs) l
theorem zbf {hs:List D}{n:Str×Int}{l:List (Str×Int)}(e:puts hs (n::l) (some p)=some q):∃p',deed e_House_put [.str n.1,.int n.2,.lst hs] p=some p'/\puts hs l (some p')=some q:=by
 replace e:puts hs l (deed e_House_put [.str n.1,.int n.2,.lst hs] p)=some q:=e;cases h:deed e_House_put [.str n.1,.int n.2,.lst hs] p with
 | none=>rw[h,z4c] at e;cases e
 | some f=>rw[h] at e;exact⟨f,rfl,e⟩
theorem z0n {dc:List D×Nat}(e:cls ns fs dc=some ns):e__law_class [.at 1,.tup dc.1] (hO ns fs) = .ok (.lst [.str (nmx dc.2)]) (hO ns fs):=by
 unfold cls at e
 split at e
 ·rename_i s m gs e1;cases hb:(sEq s (nmx dc.2)&&xEqs (tEq 9) gs fs) with
  | false=>rw[hb] at e;cases e
  | true =>
   rw[hb] at e;cases e;rw[y09] at hb;obtain⟨h1,h2⟩:=hb;rw[z40] at h1;rw[e1,of_decide_eq_true h1,z2b (λd e=>z8y 9) h2]
 ·cases e
theorem zqu (e:lok ns fs=some ns):∃v,flat 9 v=true/\flat 60 v=true/\e__law_look [.at 1] (hO ns fs) = .ok v (hO ns fs):=by
 unfold lok at e
 split at e
 ·rename_i v m gs e1;cases hb:((flat 9 v&&flat 60 v)&&xEqs (tEq 9) gs fs) with
  | false=>rw[hb] at e;cases e
  | true =>
   rw[hb] at e;cases e;rw[y09,y09] at hb;exact⟨v,hb.1.1,hb.1.2,by rw[e1,z2b (λd e=>z8y 9) hb.2]⟩
 ·cases e
theorem zml (e:tkn ns fs=some ns):∃gs,e__law_taken [.at 1] (hO ns fs) = .ok (.bl true) (hO ns gs):=by
 unfold tkn at e
 split at e
 ·rename_i m gs e1;cases e;exact⟨gs,e1⟩
 ·cases e
structure HF (ns:List Int)(r:Nat)(p0 p1 p2:List Int×List D)(fs:List D):Prop where
 i0:deed e_House_init [] (ns,[])=some p0
 i1:hires (hsR r) (some p0)=some p1
 i2:puts ((hsR r).map .str) (csR r) (some p1)=some p2
 aw:∀x l,z0g r=x::l->deed e_House_away [.str x] p2=some (ns,fs)
 st:z0g r = []->p2=(ns,fs)
 cl:∀dc∈dlR r,cls ns fs dc=some ns
 c0:∀dc∈dmR r 0,cls ns fs dc=some ns
 lo:lok ns fs=some ns
 tk:tsk (csR r) fs=true
 pl:allB (plB 9) fs=true
 tn:tkn ns fs=some ns
theorem zpr {α:Type}{l:List (Option α)}{x:α}(e:l=l.map λ_=>some x):∀y∈l,y=some x:=λy hy=>by
 rw[e] at hy;obtain⟨_,_,rfl⟩:=y15.mp hy;rfl
theorem ztp {b:Bool}(e:oo ns b=some ns):b=true:=by
 cases b with
 | true=>rfl
 | false=>cases e
theorem zu9 {r:Nat}(H:∀k,OkH ns r k):∃p0 p1 p2 fs,HF ns r p0 p1 p2 fs/\∀k,∀dc∈dmR r (y50 k),cls ns fs dc=some ns:=by
 have A:=λk=>zpr (H k);unfold okAll at A;cases eb:bld ns r with
 | none=>have:=A 0 none (by rw[eb];exact .head _);cases this
 | some p =>
  obtain⟨m,fs⟩:=p;rw[eb] at A;have hm:m=ns:=y0q (A 0 (some m) (.head _));subst hm;have lo:=A 0 (lok m fs) (.tail _ (.head _))
  have b:=ztp (A 0 _ (.tail _ (.tail _ (.head _))));have tn:=A 0 (tkn m fs) (.tail _ (.tail _ (.tail _ (.head _))))
  rw[y09] at b;have cl:∀k,∀dc∈dlR r++(dmR r 0++dmR r (y50 k)),cls m fs dc=some m:=λk dc h=>A k _ (.tail _ (.tail _ (.tail _ (.tail _ (y3g h)))));unfold bld at eb
  split at eb
  ·rename_i p2 e2;obtain⟨p1,e1⟩:∃p1,hires (hsR r) (deed e_House_init [] (m,[]))=some p1:=by
    cases h:hires (hsR r) (deed e_House_init [] (m,[])) with
    | none=>rw[h,z4c] at e2;cases e2
    | some p=>exact⟨p,rfl⟩
   obtain⟨p0,e0⟩:∃p0,deed e_House_init [] (m,[])=some p0:=by
    cases h:deed e_House_init [] (m,[]) with
    | none=>rw[h,z34] at e1;cases e1
    | some p=>exact⟨p,rfl⟩
   rw[e1] at e2;rw[e0] at e1;refine⟨p0,p1,p2,fs,⟨e0,e1,e2,λx l z=>?_,λz=>?_,λdc h=>cl 0 dc (y03 _ h),λdc h=>cl 0 dc (y05 _ (y03 _ h)),lo,b.1,b.2,tn⟩,λk dc h=>cl k dc (y05 _ (y05 _ h))⟩
   ·rw[z] at eb;exact eb
   ·rw[z] at eb;exact y0q eb
  ·cases eb
theorem z8w {v w:D}{t:TH}{x:TM}(pl:allB (plB 9) fs=true)(z:fz (.mr ns :: .mi 2 fs::x::t) 2 9 v=some w):trunc 2 v (.mr ns :: .mi 2 fs::x::t) = .ok w (hO ns fs):=by
 unfold trunc;rw[show y17 (eln (TM.mr ns :: .mi 2 fs::x::t)) 2=false from rfl]
 show ofO (emap (fzo _ 2) [.mr ns,.mi 2 fs]) _=_;rw[show emap (fzo (.mr ns :: .mi 2 fs::x::t) 2) [.mr ns,.mi 2 fs]=some [.mr ns,.mi 2 fs] from by
  refine emap_cons.mpr ⟨_,_,rfl,emap_cons.mpr ⟨.mi 2 fs,_,?_,rfl,rfl⟩,rfl⟩;show onO (emap (fz _ 2 9) fs) _=_;rw[z1x λx hx=>zf2 9 (z2x pl x hx)];rfl]
 show ofO (fz _ 2 9 v) _=_;rw[z];rfl
end
end My
set_option Elab.async false
set_option linter.all false
set_option maxRecDepth 100000
set_option maxHeartbeats 4000000
namespace My
open PySem L2 L2.EX L2.RX
def oddsP:List Str:=["","Ann","a1","a b","abcdefghijklm","ann ","-"]
def z1t (v:Int):Prop:=v≤0/\-(10^30)<v
inductive Wr (hs:List Str) (cs:List (Str×Int)) (gs:List Str):List D->Str->Prop
 | a0 {o}:o∈oddsP->Wr hs cs gs [.str "hire",.str o] "name"
 | a1 {h}:h∈hs->Wr hs cs gs [.str "hire",.str h] "twice"
 | a2 {o v}:o∈oddsP->z1t v->Wr hs cs gs [.str "put",.str o,.int v,.lst []] "name"
 | a3 {o h}:o∈oddsP->h∈hs->Wr hs cs gs [.str "put",.str o,.int 5,.lst [.str h]] "name"
 | a4 {p v}:p∈cs->z1t v->Wr hs cs gs [.str "put",.str p.1,.int v,.lst []] "twice"
 | a5 {p h}:p∈cs->h∈hs->Wr hs cs gs [.str "put",.str p.1,.int 3,.lst [.str h]] "twice"
 | a6 {v}:z1t v->Wr hs cs gs [.str "put",.str "fresh",.int v,.lst [.str "nobody"]] "work"
 | a7 {h}:h∈hs->Wr hs cs gs [.str "put",.str "fresh",.int 0,.lst [.str h]] "work"
 | a8:Wr hs cs gs [.str "put",.str "fresh",.int 4,.lst []] "hand"
 | a9 {h}:h∈hs->Wr hs cs gs [.str "put",.str "fresh",.int 4,.lst [.str h,.str h,.str "nobody"]] "hand"
 | a10 {h}:h∈hs->Wr hs cs gs [.str "put",.str "fresh",.int 4,.lst ([.str h]++hs.map .str)] "twice"
 | a11 {o}:o∈oddsP->Wr hs cs gs [.str "put",.str "fresh",.int 7,.lst [.str o]] "hand"
 | a12:Wr hs cs gs [.str "drop",.str "nothing"] "chore"
 | a13 {o}:o∈oddsP->Wr hs cs gs [.str "drop",.str o] "chore"
 | a14 {v}:z1t v->Wr hs cs gs [.str "more",.str "nothing",.int v] "chore"
 | a15 {p v}:p∈cs->z1t v->Wr hs cs gs [.str "more",.str p.1,.int v] "work"
 | a16 {v}:z1t v->Wr hs cs gs [.str "fewer",.str "nothing",.int v] "chore"
 | a17 {p v}:p∈cs->z1t v->Wr hs cs gs [.str "fewer",.str p.1,.int v] "work"
 | a18 {p k}:p∈cs->0≤k->k<3->Wr hs cs gs [.str "fewer",.str p.1,.int (p.2+k)] "work"
 | a19:Wr hs cs gs [.str "away",.str "nobody"] "hand"
 | a20 {o}:o∈oddsP->Wr hs cs gs [.str "back",.str o] "hand"
 | a21 {g}:gs.head?=some g->Wr hs cs gs [.str "away",.str g] "so"
 | a22 {h}:gs = []->h∈hs->Wr hs cs gs [.str "back",.str h] "so"
 | a23 {x:Str} {o:Str}:x∈([("load":Str),"there"]:List Str)->(o = "nobody"∨o∈oddsP)->Wr hs cs gs [.str x,.str o] "hand"
 | a24 {x:Str} {o:Str}:x∈([("shares":Str),"work","pieces"]:List Str)->(o = "nothing"∨o∈oddsP)->Wr hs cs gs [.str x,.str o] "chore"
abbrev hsD (hs:List Str):D:=.lst (hs.map .str)
abbrev csD (cs:List (Str×Int)):D:=.lst (cs.map λp=>.tup [.str p.1,.int p.2])
section
variable {ρ ρ':DEn}{h h':TH}{d:D}{fa fb:RE}{i:Nat}{c:Int}{l:List D}
theorem zrr (e:eg ρ i=some (some d)):rV i ρ h = .ok d h:=by unfold rV;rw[e]
theorem zcs (z:fa ρ h = .ok d h'):z0h fa ρ h = .ok (.rt d) h':=by unfold z0h;rw[z];rfl
theorem zn9 (e:fa ρ h = .ok (.lst l) h'):rCB gLen (z00 fa z01) ρ h = .ok (.int (l.length:Int)) h':=by
 unfold rCB z00 z01;rw[e];show R.ok (D.int (.ofNat (eln l))) h'=_;rw[z06];rfl
theorem zmw (c:Int)(h:TH):∃o∈oddsP,e__law_odd [.int c] h = .ok (.str o) h:=by
 obtain⟨j,lt,e1,e2⟩:=z67 (l:=oddsP.map .str) (n:=7) (k:=c) rfl (by decide)
 have lj:j<oddsP.length:=lt;refine⟨oddsP[j],y21 lj,?_⟩;unfold e__law_odd;refine zjg rfl (zcs (zak (l:=oddsP.map .str) (i:=c % ((7:Nat):Int)) (h':=h) (by kernel_rfl) (z5d (h':=h) (by rfl) (by rfl) (by decide)) ?_)) rfl
 rw[e2,y0g,y02 lj];rfl
theorem zk8 (e0:eg ρ 0=some (some (.int c)))(ei:eg ρ i=some (some (.lst l)))(n:l ≠ []):∃d∈l,∃j,rAt (rV i) (rOp z1c (rOp z19 (rV 0) (rC (.int 24))) (rCB gLen (z00 (rV i) z01))) ρ h = .ok d h/\l[j]?=some d/\(c.fdiv 24 % (l.length:Int))=((j:Nat):Int):=by
 have lp:0<l.length:=y3f.mpr n;obtain⟨j,lt,e1,e2⟩:=z67 (l:=l) (n:=l.length) (k:=c.fdiv 24) rfl (by omega)
 refine⟨l[j],y21 lt,j,?_,y02 lt,e1⟩;refine zak (l:=l) (i:=c.fdiv 24 % (l.length:Int)) (h':=h) (zrr ei) (z5d (h':=h) (z1o (h':=h) (h2:=h) (zrr e0) rfl rfl) (zn9 (zrr ei)) (by omega)) ?_
 rw[e2,y02 lt]
theorem zwz {a b:D}{j:Nat}{r:D}(z:fa ρ h = .ok (.tup [a,b]) h)(hr:[a,b][j]?=some r):rAt fa (rC (.int (j:Int))) ρ h = .ok r h:=by
 unfold rAt;refine z1o (h':=h) (h2:=h) z rfl ?_;show ofO (eg [a,b] j) _=_;rw[z0r,hr];rfl
theorem z4s {g:List D->TH->R D}{fA:RA}{xs:List D}{r:R D}(z:fA ρ h = .ok xs h')(k:g xs h'=r):rCB g fA ρ h=r:=by unfold rCB;rw[z];exact k
theorem zac (z:fa ρ h = .ok d h'):rDo fa ρ h = .ok (.nx ρ) h':=by unfold rDo;rw[z];rfl
theorem znr {h:TH}{rest:RS}(c:Int){hs gs:List Str}{cs:List (Str×Int)}(n1:hs ≠ [])(n2:cs ≠ []) :
  ∃x∈hs,∃p∈cs,∃o∈oddsP,∃v,z1t v /\
   z03 (z07 (rAt (rV 1) (rOp z1c (rOp z19 (rV 0) (rC (.int 24))) (rCB gLen (z00 (rV 1) z01)))) (rN 4)) (z03 (z07 (rAt (rAt (rV 2) (rOp z1c (rOp z19 (rV 0) (rC (.int 24))) (rCB gLen (z00 (rV 2) z01)))) (rC (.int 0))) (rN 5)) (z03 (z07 (rAt (rAt (rV 2) (rOp z1c (rOp z19 (rV 0) (rC (.int 24))) (rCB gLen (z00 (rV 2) z01)))) (rC (.int 1))) (rN 6)) (z03 (z07 (rCB e__law_odd (z00 (rOp z19 (rV 0) (rC (.int 96))) z01)) (rN 7)) (z03 (z07 (rOp z9r (rC (.int 0)) (rOp z1c (rOp z19 (rV 0) (rC (.int 96))) (rOp zlk (rC (.int 10)) (rC (.int 30))))) (rN 8)) rest)))) (eMap [.int c,hsD hs,csD cs,hsD gs] 6) h
   =rest [some (.int c),some (hsD hs),some (csD cs),some (hsD gs),some (.str x),some (.str p.1),some (.int p.2),some (.str o),some (.int v),none] h:=by
 obtain⟨d1,m1,_,q1,_⟩:=zk8 (ρ:=eMap [.int c,hsD hs,csD cs,hsD gs] 6) (h:=h) (i:=1) (l:=hs.map .str) (c:=c) rfl rfl (by simpa using n1)
 obtain⟨x,hx,rfl⟩:=y15.mp m1;obtain⟨d2,m2,j2,q2,g2,k2⟩:=zk8 (ρ:=est (eMap [.int c,hsD hs,csD cs,hsD gs] 6) 4 (some (.str x))) (h:=h) (i:=2) (l:=cs.map λp=>.tup [.str p.1,.int p.2]) (c:=c) rfl rfl (by simpa using n2)
 obtain⟨p,hp,rfl⟩:=y15.mp m2;obtain⟨d3,m3,j3,q3,g3,k3⟩:=zk8 (ρ:=est (est (eMap [.int c,hsD hs,csD cs,hsD gs] 6) 4 (some (.str x))) 5 (some (.str p.1))) (h:=h) (i:=2) (l:=cs.map λp=>.tup [.str p.1,.int p.2]) (c:=c) rfl rfl (by simpa using n2)
 have ej:j2=j3:=by rw[k2] at k3;exact Int.ofNat.inj k3
 subst ej;rw[g2] at g3;cases g3;obtain⟨o,ho,q4⟩:=zmw (c.fdiv 96) h;refine⟨x,hx,p,hp,o,ho,0 - c.fdiv 96 % 10^30,?_,?_⟩
 ·have h1:=y4o (c.fdiv 96) (show(10:Int)^30≠0 by decide)
  have h2:=y3o (c.fdiv 96) (show(0:Int)<10^30 by decide)
  exact⟨by omega,by omega⟩
 refine(z0c (z12 q1 (show rN 4 _ _=some _ from rfl))).trans ?_
 refine(z0c (z12 (zwz (j:=0) q2 rfl) (show rN 5 _ _=some _ from rfl))).trans ?_
 refine(z0c (z12 (zwz (j:=1) q3 rfl) (show rN 6 _ _=some _ from rfl))).trans ?_
 refine(z0c (z12 (z4s (xs:=[.int (c.fdiv 96)]) (h':=h) rfl q4) (show rN 7 _ _=some _ from rfl))).trans ?_
 refine(z0c (z12 (z1o (h':=h) (h2:=h) (d:=.int 0) (e:=.int (c.fdiv 96 % 10^30)) rfl (z5d (h':=h) (x:=c.fdiv 96) (y:=10^30) rfl (by kernel_rfl) (by decide)) rfl) (show rN 8 _ _=some _ from rfl))).trans ?_
 rfl
end
end My
set_option Elab.async false
set_option linter.all false
set_option maxRecDepth 100000
set_option maxHeartbeats 4000000
namespace My
open PySem L2 L2.EX L2.RX
def wW (x p1 o:Str)(p2 v k:Int)(L:List D):List D:=[.tup [.str "hire",.str o,.str "name"],.tup [.str "hire",.str x,.str "twice"],.tup [.str "put",.str o,.int v,.lst [],.str "name"],.tup [.str "put",.str o,.int 5,.lst [.str x],.str "name"],.tup [.str "put",.str p1,.int v,.lst [],.str "twice"],.tup [.str "put",.str p1,.int 3,.lst [.str x],.str "twice"],.tup [.str "put",.str "fresh",.int v,.lst [.str "nobody"],.str "work"],.tup [.str "put",.str "fresh",.int 0,.lst [.str x],.str "work"],.tup [.str "put",.str "fresh",.int 4,.lst [],.str "hand"],.tup [.str "put",.str "fresh",.int 4,.lst [.str x,.str x,.str "nobody"],.str "hand"],.tup [.str "put",.str "fresh",.int 4,.lst (.str x::L),.str "twice"],.tup [.str "put",.str "fresh",.int 7,.lst [.str o],.str "hand"],.tup [.str "drop",.str "nothing",.str "chore"],.tup [.str "drop",.str o,.str "chore"],.tup [.str "more",.str "nothing",.int v,.str "chore"],.tup [.str "more",.str p1,.int v,.str "work"],.tup [.str "fewer",.str "nothing",.int v,.str "chore"],.tup [.str "fewer",.str p1,.int v,.str "work"],.tup [.str "fewer",.str p1,.int (p2+k),.str "work"],.tup [.str "away",.str "nobody",.str "hand"],.tup [.str "back",.str o,.str "hand"]]
def soW (x:Str)(gs:List Str):D:=match gs with
 | g::_=>.tup [.str "away",.str g,.str "so"]
 | []=>.tup [.str "back",.str x,.str "so"]
def tW (W:List D)(so:D):TH:=[.ml (W.take 2),.ml (W.take 4),.ml (W.take 6),.ml (W.take 8),.ml (W.take 10),.ml (W.take 12),.ml (W.take 15),.ml (W.take 18),.ml (W ++ [so])]
noncomputable abbrev s615 (rest:RS):RS:=(z03 (z07 (rLst true (z00 (rTup (z00 (rC (.str "hire")) (z00 (rV 7) (z00 (rC (.str "name")) z01)))) (z00 (rTup (z00 (rC (.str "hire")) (z00 (rV 4) (z00 (rC (.str "twice")) z01)))) z01))) (rN 9)) (z03 (z07 (rOp (gAdd true) (rV 9) (rLst false (z00 (rTup (z00 (rC (.str "put")) (z00 (rV 7) (z00 (rV 8) (z00 (rLst false z01) (z00 (rC (.str "name")) z01)))))) (z00 (rTup (z00 (rC (.str "put")) (z00 (rV 7) (z00 (rC (.int 5)) (z00 (rLst false (z00 (rV 4) z01)) (z00 (rC (.str "name")) z01)))))) z01)))) (rN 9)) (z03 (z07 (rOp (gAdd true) (rV 9) (rLst false (z00 (rTup (z00 (rC (.str "put")) (z00 (rV 5) (z00 (rV 8) (z00 (rLst false z01) (z00 (rC (.str "twice")) z01)))))) (z00 (rTup (z00 (rC (.str "put")) (z00 (rV 5) (z00 (rC (.int 3)) (z00 (rLst false (z00 (rV 4) z01)) (z00 (rC (.str "twice")) z01)))))) z01)))) (rN 9)) (z03 (z07 (rOp (gAdd true) (rV 9) (rLst false (z00 (rTup (z00 (rC (.str "put")) (z00 (rC (.str "fresh")) (z00 (rV 8) (z00 (rLst false (z00 (rC (.str "nobody")) z01)) (z00 (rC (.str "work")) z01)))))) (z00 (rTup (z00 (rC (.str "put")) (z00 (rC (.str "fresh")) (z00 (rC (.int 0)) (z00 (rLst false (z00 (rV 4) z01)) (z00 (rC (.str "work")) z01)))))) z01)))) (rN 9)) (z03 (z07 (rOp (gAdd true) (rV 9) (rLst false (z00 (rTup (z00 (rC (.str "put")) (z00 (rC (.str "fresh")) (z00 (rC (.int 4)) (z00 (rLst false z01) (z00 (rC (.str "hand")) z01)))))) (z00 (rTup (z00 (rC (.str "put")) (z00 (rC (.str "fresh")) (z00 (rC (.int 4)) (z00 (rLst false (z00 (rV 4) (z00 (rV 4) (z00 (rC (.str "nobody")) z01)))) (z00 (rC (.str "hand")) z01)))))) z01)))) (rN 9)) (z03 (z07 (rOp (gAdd true) (rV 9) (rLst false (z00 (rTup (z00 (rC (.str "put")) (z00 (rC (.str "fresh")) (z00 (rC (.int 4)) (z00 (rOp (gAdd false) (rLst false (z00 (rV 4) z01)) (rV 1)) (z00 (rC (.str "twice")) z01)))))) (z00 (rTup (z00 (rC (.str "put")) (z00 (rC (.str "fresh")) (z00 (rC (.int 7)) (z00 (rLst false (z00 (rV 7) z01)) (z00 (rC (.str "hand")) z01)))))) z01)))) (rN 9)) (z03 (z07 (rOp (gAdd true) (rV 9) (rLst false (z00 (rTup (z00 (rC (.str "drop")) (z00 (rC (.str "nothing")) (z00 (rC (.str "chore")) z01)))) (z00 (rTup (z00 (rC (.str "drop")) (z00 (rV 7) (z00 (rC (.str "chore")) z01)))) (z00 (rTup (z00 (rC (.str "more")) (z00 (rC (.str "nothing")) (z00 (rV 8) (z00 (rC (.str "chore")) z01))))) z01))))) (rN 9)) (z03 (z07 (rOp (gAdd true) (rV 9) (rLst false (z00 (rTup (z00 (rC (.str "more")) (z00 (rV 5) (z00 (rV 8) (z00 (rC (.str "work")) z01))))) (z00 (rTup (z00 (rC (.str "fewer")) (z00 (rC (.str "nothing")) (z00 (rV 8) (z00 (rC (.str "chore")) z01))))) (z00 (rTup (z00 (rC (.str "fewer")) (z00 (rV 5) (z00 (rV 8) (z00 (rC (.str "work")) z01))))) z01))))) (rN 9)) (z03 (z07 (rOp (gAdd true) (rV 9) (rLst false (z00 (rTup (z00 (rC (.str "fewer")) (z00 (rV 5) (z00 (rOp (gAdd false) (rV 6) (rOp z1c (rOp z19 (rV 0) (rC (.int 96))) (rC (.int 3)))) (z00 (rC (.str "work")) z01))))) (z00 (rTup (z00 (rC (.str "away")) (z00 (rC (.str "nobody")) (z00 (rC (.str "hand")) z01)))) (z00 (rTup (z00 (rC (.str "back")) (z00 (rV 7) (z00 (rC (.str "hand")) z01)))) z01))))) (rN 9)) (z03 (rDo (rApp (rV 9) (z00 (rIf (z0b (rOp (gEq true) (rV 3) (rLst false z01))) (rTup (z00 (rC (.str "away")) (z00 (rAt (rV 3) (rC (.int 0))) (z00 (rC (.str "so")) z01)))) (rTup (z00 (rC (.str "back")) (z00 (rV 4) (z00 (rC (.str "so")) z01))))) z01))) rest))))))))))
abbrev W15 (r:Nat):Prop:=∀(rest:RS) (ns:List Int) (fs:List D) (c p2 v:Int) (x p1 o:Str) (C:D),s615 rest [some (.int c),some (hsD (whR r)),some C,some (hsD (z0g r)),some (.str x),some (.str p1),some (.int p2),some (.str o),some (.int v),none] (hO ns fs)=rest [some (.int c),some (hsD (whR r)),some C,some (hsD (z0g r)),some (.str x),some (.str p1),some (.int p2),some (.str o),some (.int v),some (.at 10)] (hO ns fs++tW (wW x p1 o p2 v (c.fdiv 96 % 3) ((whR r).map .str)) (soW x (z0g r)))
theorem ztn:W15 0:=λrest ns fs c p2 v x p1 o C=>by kernel_rfl
theorem zv2:W15 1:=λrest ns fs c p2 v x p1 o C=>by kernel_rfl
theorem zsm:W15 2:=λrest ns fs c p2 v x p1 o C=>by kernel_rfl
theorem ztd:W15 3:=λrest ns fs c p2 v x p1 o C=>by kernel_rfl
theorem zo6:W15 12:=λrest ns fs c p2 v x p1 o C=>by kernel_rfl
theorem zqh:W15 13:=λrest ns fs c p2 v x p1 o C=>by kernel_rfl
theorem zo9:W15 14:=λrest ns fs c p2 v x p1 o C=>by kernel_rfl
theorem zmx:W15 15:=λrest ns fs c p2 v x p1 o C=>by kernel_rfl
end My
set_option Elab.async false
set_option linter.all false
set_option maxRecDepth 100000
set_option maxHeartbeats 4000000
namespace My
open PySem L2 L2.EX L2.RX
section
variable {ρ:DEn}{h:TH}{d:D}{fa fb fc:RE}{fA:RA}{j:Nat}{xs l:List D}{c k:Int}
theorem z1b {a:D}{as:List D}(z1:fa ρ h = .ok a h)(z2:fA ρ h = .ok as h):z00 fa fA ρ h = .ok (a::as) h:=by
 unfold z00;rw[z1];show R.bnd (fA ρ h) _=_;rw[z2];rfl
theorem znf (z:fA ρ h = .ok xs h)(b:big xs=true):rTup fA ρ h = .ok (.tup xs) h:=by
 unfold rTup;rw[z];show z18 (big xs) _=_;rw[b];rfl
theorem zwp {a b e:D}(z1:fa ρ h = .ok a h)(z2:fb ρ h = .ok b h)(z3:fc ρ h = .ok e h):z00 (rTup (z00 fa (z00 fb (z00 fc z01)))) z01 ρ h = .ok [.tup [a,b,e]] h :=
 z1b (znf (z1b z1 (z1b z2 (z1b z3 rfl))) rfl) rfl
theorem zi5 (z:fa ρ h = .ok (.at j) h)(e:eg h j=some (.ml xs))(k:fA ρ h = .ok [d] h)(hl:y16 (eln xs) 16777216=true):rApp fa fA ρ h = .ok .non (hs h j (.ml (eap xs [d]))):=by
 have m:eMl h (.at j)=some (j,xs):=by
  show(match eg h j with
   | some (.ml ds)=>some (j,ds)
   | _=>none)=_
  rw[e]
 unfold rApp;rw[z];show ofO (eMl h (.at j)) _=_;rw[m];show R.bnd (fA ρ h) _=_;rw[k];show ofO (eMl h (.at j)) _=_;rw[m];show z18 (y16 (eln xs) 16777216) _=_;rw[hl];rfl
theorem zf3 {q:Int}{n:Nat}(z1:fa ρ h = .ok (.lst l) h)(z2:fb ρ h = .ok (.int k) h)(hl:l.length=n)(h0:n≠0):∃d∈l,∃j:Nat,j<n/\k % (n:Int)=(j:Int)/\l[j]?=some d/\rAt fa (rOp z1c fb (rC (.int (n:Int)))) ρ h = .ok d h:=by
 obtain⟨j,lt,e1,e2⟩:=z67 (l:=l) (n:=n) (k:=k) hl h0;have lj:j<l.length:=by omega
 refine⟨l[j],y21 lj,j,lt,e1,y02 lj,?_⟩;refine zak (l:=l) (h':=h) z1 (z5d (h':=h) z2 rfl (by omega)) ?_
 rw[e2,y02 lj]
end
end My
set_option Elab.async false
set_option linter.all false
set_option maxRecDepth 100000
set_option maxHeartbeats 4000000
namespace My
open PySem L2 L2.EX L2.RX
theorem zbe {n:Nat}:∀l:List Str,allB (plB (n+1)) (l.map .str)=true
 | []=>rfl
 | _::l=>zbe l
def wL (x p1 o:Str)(p2 v k:Int)(hs gs:List Str)(y1 y2 z1 z2:Str):List D:=wW x p1 o p2 v k (hs.map .str) ++ [soW x gs] ++ [.tup [.str y1,.str y2,.str "hand"]] ++ [.tup [.str z1,.str z2,.str "chore"]]
theorem ztk {hs gs:List Str}{cs:List (Str×Int)}{x o y1 y2 z1 z2:Str}{p:Str×Int}{v k:Int}(hx:x∈hs)(hp:p∈cs)(ho:o∈oddsP)(hv:z1t v)(k0:0≤k)(k3:k<3)(h1:y1∈([("load":Str),"there"]:List Str))(h2:y2 = "nobody"∨y2∈oddsP)(h3:z1∈([("shares":Str),"work","pieces"]:List Str))(h4:z2 = "nothing"∨z2∈oddsP) :
  ∀j,j<24->∃deed due,Wr hs cs gs deed due/\(wL x p.1 o p.2 v k hs gs y1 y2 z1 z2)[j]?=some (.tup (deed ++ [.str due]))/\plB 9 (.tup (deed ++ [.str due]))=true
 | 0,_=>⟨_,_,.a0 ho,rfl,rfl⟩
 | 1,_=>⟨_,_,.a1 hx,rfl,rfl⟩
 | 2,_=>⟨_,_,.a2 ho hv,rfl,rfl⟩
 | 3,_=>⟨_,_,.a3 ho hx,rfl,rfl⟩
 | 4,_=>⟨_,_,.a4 hp hv,rfl,rfl⟩
 | 5,_=>⟨_,_,.a5 hp hx,rfl,rfl⟩
 | 6,_=>⟨_,_,.a6 hv,rfl,rfl⟩
 | 7,_=>⟨_,_,.a7 hx,rfl,rfl⟩
 | 8,_=>⟨_,_,.a8,rfl,rfl⟩
 | 9,_=>⟨_,_,.a9 hx,rfl,rfl⟩
 | 10,_=>⟨_,_,.a10 hx,rfl,by
   show(bif allB (plB 7) (hs.map .str) then true else false)=true;rw[zbe];rfl⟩
 | 11,_=>⟨_,_,.a11 ho,rfl,rfl⟩
 | 12,_=>⟨_,_,.a12,rfl,rfl⟩
 | 13,_=>⟨_,_,.a13 ho,rfl,rfl⟩
 | 14,_=>⟨_,_,.a14 hv,rfl,rfl⟩
 | 15,_=>⟨_,_,.a15 hp hv,rfl,rfl⟩
 | 16,_=>⟨_,_,.a16 hv,rfl,rfl⟩
 | 17,_=>⟨_,_,.a17 hp hv,rfl,rfl⟩
 | 18,_=>⟨_,_,.a18 hp k0 k3,rfl,rfl⟩
 | 19,_=>⟨_,_,.a19,rfl,rfl⟩
 | 20,_=>⟨_,_,.a20 ho,rfl,rfl⟩
 | 21,_=>by
  cases gs with
  | nil=>exact⟨[.str "back",.str x],"so",.a22 rfl hx,rfl,rfl⟩
  | cons g gs=>exact⟨[.str "away",.str g],"so",.a21 rfl,rfl,rfl⟩
 | 22,_=>⟨[.str y1,.str y2],"hand",.a23 h1 h2,rfl,rfl⟩
 | 23,_=>⟨[.str z1,.str z2],"chore",.a24 h3 h4,rfl,rfl⟩
 | j+24,h=>absurd h (by omega)
theorem v9 {ρ:DEn}{h:TH}{i:Nat}{d:D}(e:eg ρ i=some (some d)):rV i ρ h = .ok d h:=by unfold rV;rw[e]
theorem znm {ρ:DEn}{h:TH}{M:List D}{c:Int}{o:Str}{j:Nat}(e0:eg ρ 0=some (some (.int c)))(e7:eg ρ 7=some (some (.str o)))(e9:eg ρ 9=some (some (.at j)))(eM:eg h j=some (.ml M))(hl:M.length=22)(jl:j<h.length)(ho:o∈oddsP) :
  ∃y1 y2 z1 z2:Str,y1∈([("load":Str),"there"]:List Str)/\(y2 = "nobody"∨y2∈oddsP)/\z1∈([("shares":Str),"work","pieces"]:List Str)/\(z2 = "nothing"∨z2∈oddsP)/\∃i d t,i<24/\(M ++ [.tup [.str y1,.str y2,.str "hand"]] ++ [.tup [.str z1,.str z2,.str "chore"]])[i]?=some d /\
   (z03 (rDo (rApp (rV 9) (z00 (rTup (z00 (rAt (rLst false (z00 (rC (.str "load")) (z00 (rC (.str "there")) z01))) (rOp z1c (rOp z19 (rV 0) (rC (.int 96))) (rC (.int 2)))) (z00 (rAt (rLst false (z00 (rC (.str "nobody")) (z00 (rV 7) z01))) (rOp z1c (rOp z19 (rV 0) (rC (.int 192))) (rC (.int 2)))) (z00 (rC (.str "hand")) z01)))) z01))) (z03 (rDo (rApp (rV 9) (z00 (rTup (z00 (rAt (rLst false (z00 (rC (.str "shares")) (z00 (rC (.str "work")) (z00 (rC (.str "pieces")) z01)))) (rOp z1c (rOp z19 (rV 0) (rC (.int 96))) (rC (.int 3)))) (z00 (rAt (rLst false (z00 (rC (.str "nothing")) (z00 (rV 7) z01))) (rOp z1c (rOp z19 (rV 0) (rC (.int 288))) (rC (.int 2)))) (z00 (rC (.str "chore")) z01)))) z01))) (z0h (rAt (rV 9) (rOp z1c (rV 0) (rC (.int 24))))))) ρ h = .ok (.rt d) (hs (hs h j (.ml (eap M [.tup [.str y1,.str y2,.str "hand"]]))) j t):=by
 have dv:∀(h:TH) (n:Int),zrx c n=true->rOp z19 (rV 0) (rC (.int n)) ρ h = .ok (.int (c.fdiv n)) h:=λh n hn=>z1o (h':=h) (h2:=h) (v9 e0) rfl (by show z18 (zrx c n) _=_;rw[hn];rfl)
 have two:∀(h:TH) (a:Str),rLst false (z00 (rC (.str a)) (z00 (rV 7) z01)) ρ h = .ok (.lst [.str a,.str o]) h:=λh a=>by
  unfold rLst;rw[z1b (h:=h) (as:=[.str o]) rfl (z1b (v9 e7) rfl)];rfl
 obtain⟨d1,m1,_,_,_,_,a1⟩:=zf3 (q:=0) (ρ:=ρ) (h:=h) (fa:=rLst false (z00 (rC (.str "load")) (z00 (rC (.str "there")) z01))) (l:=[.str "load",.str "there"]) (n:=2) rfl (dv h 96 rfl) rfl (by decide)
 obtain⟨d2,m2,_,_,_,_,a2⟩:=zf3 (q:=0) (ρ:=ρ) (h:=h) (l:=[.str "nobody",.str o]) (n:=2) (two h "nobody") (dv h 192 rfl) rfl (by decide)
 obtain⟨y1,hy1,rfl⟩:∃y:Str,y∈([("load":Str),"there"]:List Str)/\d1 = .str y:=by
  rcases y0a.mp m1 with rfl | m1
  ·exact⟨_,.head _,rfl⟩
  ·rcases y0a.mp m1 with rfl | m1
   ·exact⟨_,.tail _ (.head _),rfl⟩
   ·simp at m1
 obtain⟨y2,hy2,rfl⟩:∃y:Str,(y = "nobody"∨y∈oddsP)/\d2 = .str y:=by
  rcases y0a.mp m2 with rfl | m2
  ·exact⟨_,.inl rfl,rfl⟩
  ·rcases y0a.mp m2 with rfl | m2
   ·exact⟨_,.inr ho,rfl⟩
   ·simp at m2
 have A1:=zac (zi5 (v9 e9) eM (zwp a1 a2 (show rC (.str "hand") ρ h = .ok (.str "hand") h from rfl)) (by rw[z06,hl];rfl))
 generalize hh:hs h j (.ml (eap M [.tup [.str y1,.str y2,.str "hand"]]))=h1 at A1;have eM1:eg h1 j=some (.ml (eap M [.tup [.str y1,.str y2,.str "hand"]])):=by rw[←hh,z3r,z0r,y0z jl]
 obtain⟨d3,m3,_,_,_,_,a3⟩:=zf3 (q:=0) (ρ:=ρ) (h:=h1) (fa:=rLst false (z00 (rC (.str "shares")) (z00 (rC (.str "work")) (z00 (rC (.str "pieces")) z01)))) (l:=[.str "shares",.str "work",.str "pieces"]) (n:=3) rfl (dv h1 96 rfl) rfl (by decide)
 obtain⟨d4,m4,_,_,_,_,a4⟩:=zf3 (q:=0) (ρ:=ρ) (h:=h1) (l:=[.str "nothing",.str o]) (n:=2) (two h1 "nothing") (dv h1 288 rfl) rfl (by decide)
 obtain⟨z1,hz1,rfl⟩:∃y:Str,y∈([("shares":Str),"work","pieces"]:List Str)/\d3 = .str y:=by
  rcases y0a.mp m3 with rfl | m3
  ·exact⟨_,.head _,rfl⟩
  ·rcases y0a.mp m3 with rfl | m3
   ·exact⟨_,.tail _ (.head _),rfl⟩
   ·rcases y0a.mp m3 with rfl | m3
    ·exact⟨_,.tail _ (.tail _ (.head _)),rfl⟩
    ·simp at m3
 obtain⟨z2,hz2,rfl⟩:∃y:Str,(y = "nothing"∨y∈oddsP)/\d4 = .str y:=by
  rcases y0a.mp m4 with rfl | m4
  ·exact⟨_,.inl rfl,rfl⟩
  ·rcases y0a.mp m4 with rfl | m4
   ·exact⟨_,.inr ho,rfl⟩
   ·simp at m4
 have A2:=zac (zi5 (v9 e9) eM1 (zwp a3 a4 (show rC (.str "chore") ρ h1 = .ok (.str "chore") h1 from rfl)) (by rw[z06,z1s,y0k,hl];rfl))
 generalize hh2:hs h1 j (.ml (eap (eap M [.tup [.str y1,.str y2,.str "hand"]]) [.tup [.str z1,.str z2,.str "chore"]]))=h2 at A2;have jl1:j<h1.length:=by rw[←hh,z3r,y5p];exact jl
 have eM2:eg h2 j=some (.ml (M ++ [.tup [.str y1,.str y2,.str "hand"]] ++ [.tup [.str z1,.str z2,.str "chore"]])):=by rw[←hh2,z3r,z0r,y0z jl1,z1s,z1s]
 have l24:(M ++ [.tup [.str y1,.str y2,.str "hand"]] ++ [.tup [.str z1,.str z2,.str "chore"]]:List D).length=24:=by simp[hl]
 obtain⟨i,lt,e1,e2⟩:=z67 (k:=c) l24 (by decide)
 have li:i<(M ++ [.tup [.str y1,.str y2,.str "hand"]] ++ [.tup [.str z1,.str z2,.str "chore"]]:List D).length:=by rw[l24];exact lt
 rw[y02 li] at e2;refine⟨y1,y2,z1,z2,hy1,hy2,hz1,hz2,i,_,.ml (eap (eap M [.tup [.str y1,.str y2,.str "hand"]]) [.tup [.str z1,.str z2,.str "chore"]]),lt,y02 li,?_⟩;rw[hh];refine(z0c A1).trans ((z0c A2).trans ?_);rw[←hh2];refine zcs ?_;unfold rAt;refine z1o (h':=_) (h2:=_) (v9 e9) (z5d (v9 e0) rfl (by decide)) ?_
 rw[hh2];have hk:eK h2 (.at j)=none:=by
  show(match eg h2 j with
   | some (.md ks ds)=>some (ks,ds)
   | _=>none)=_
  rw[eM2]
 have hd:isD (.at j) h2=false:=by unfold isD;rw[hk]
 rw[hd];show ofO (eS h2 (.at j)) _=_;rw[show eS h2 (.at j)=some (M ++ [.tup [.str y1,.str y2,.str "hand"]] ++ [.tup [.str z1,.str z2,.str "chore"]]) from by
  show(match eg h2 j with
   | some (.ml ds)=>some ds
   | some (.mr ns)=>some (ns.map .int)
   | _=>none)=_
  rw[eM2]]
 show ofO (eat _ (c % ((24:Nat):Int))) _=_;rw[e2];rfl
end My
set_option Elab.async false
set_option linter.all false
set_option maxRecDepth 100000
set_option maxHeartbeats 4000000
namespace My
open PySem L2 L2.EX L2.RX
noncomputable abbrev s168:RS:=z03 (rDo (rApp (rV 9) (z00 (rTup (z00 (rAt (rLst false (z00 (rC (.str "load")) (z00 (rC (.str "there")) z01))) (rOp z1c (rOp z19 (rV 0) (rC (.int 96))) (rC (.int 2)))) (z00 (rAt (rLst false (z00 (rC (.str "nobody")) (z00 (rV 7) z01))) (rOp z1c (rOp z19 (rV 0) (rC (.int 192))) (rC (.int 2)))) (z00 (rC (.str "hand")) z01)))) z01))) (z03 (rDo (rApp (rV 9) (z00 (rTup (z00 (rAt (rLst false (z00 (rC (.str "shares")) (z00 (rC (.str "work")) (z00 (rC (.str "pieces")) z01)))) (rOp z1c (rOp z19 (rV 0) (rC (.int 96))) (rC (.int 3)))) (z00 (rAt (rLst false (z00 (rC (.str "nothing")) (z00 (rV 7) z01))) (rOp z1c (rOp z19 (rV 0) (rC (.int 288))) (rC (.int 2)))) (z00 (rC (.str "chore")) z01)))) z01))) (z0h (rAt (rV 9) (rOp z1c (rV 0) (rC (.int 24))))))
theorem zer {r:Nat}(w:W15 r)(n1:whR r ≠ []){cs:List (Str×Int)}(n2:cs ≠ []){ns:List Int}{fs:List D}(pl:allB (plB 9) fs=true)(c:Int) :
  ∃deed due,Wr (whR r) cs (z0g r) deed due/\e__law_wrong [.int c,hsD (whR r),csD cs,hsD (z0g r)] (hO ns fs) = .ok (.tup (deed ++ [.str due])) (hO ns fs):=by
 obtain⟨x,hx,p,hp,o,ho,v,hv,q⟩:=znr (h:=hO ns fs) (gs:=z0g r) (rest:=s615 s168) c n1 n2;have q15:=w s168 ns fs c p.2 v x p.1 o (csD cs);have k0:=y4o (c.fdiv 96) (show(3:Int)≠0 by decide)
 have k3:=y3o (c.fdiv 96) (show(0:Int)<3 by decide)
 generalize hk:c.fdiv 96 % 3=k at q15 k0 k3;obtain⟨y1,y2,z1,z2,h1,h2,h3,h4,i,d,t,lt,ei,qf⟩:=znm (ρ:=[some (.int c),some (hsD (whR r)),some (csD cs),some (hsD (z0g r)),some (.str x),some (.str p.1),some (.int p.2),some (.str o),some (.int v),some (.at 10)]) (h:=hO ns fs++tW (wW x p.1 o p.2 v k ((whR r).map .str)) (soW x (z0g r))) (M:=wW x p.1 o p.2 v k ((whR r).map .str) ++ [soW x (z0g r)]) (c:=c) (o:=o) (j:=10) rfl rfl rfl rfl rfl (show 10<11 by decide) ho
 obtain⟨deed,due,wr,e1,pl1⟩:=ztk (gs:=z0g r) hx hp ho hv k0 k3 h1 h2 h3 h4 i lt;have ed:d = .tup (deed ++ [.str due]):=y0q (ei.symm.trans e1);subst ed;refine⟨deed,due,wr,?_⟩;unfold e__law_wrong;refine zf9 (keep:=false) rfl ((q.trans q15).trans qf) ?_;exact z8w pl (zf2 9 pl1)
end My
set_option Elab.async false
set_option linter.all false
set_option maxRecDepth 100000
set_option maxHeartbeats 4000000
namespace My
open PySem L2 L2.EX L2.RX
noncomputable abbrev sCl:RS:=(z03 (z07 (rLst true z01) (rN 4)) (z03 (z0q (z0b (rIsX (bX 10 0) (rV 2))) (rDo (rApp (rV 4) (z00 (rC (.str "name")) z01))) z09) (z03 (z0q (z0b (rIsX (bX 10 1) (rV 2))) (rDo (rApp (rV 4) (z00 (rC (.str "twice")) z01))) z09) (z03 (z0q (z0b (rIsX (bX 10 2) (rV 2))) (rDo (rApp (rV 4) (z00 (rC (.str "many")) z01))) z09) (z03 (z0q (z0b (rIsX (bX 10 3) (rV 2))) (rDo (rApp (rV 4) (z00 (rC (.str "work")) z01))) z09) (z03 (z0q (z0b (rIsX (bX 10 4) (rV 2))) (rDo (rApp (rV 4) (z00 (rC (.str "hand")) z01))) z09) (z03 (z0q (z0b (rIsX (bX 10 5) (rV 2))) (rDo (rApp (rV 4) (z00 (rC (.str "chore")) z01))) z09) (z03 (z0q (z0b (rIsX (bX 10 6) (rV 2))) (rDo (rApp (rV 4) (z00 (rC (.str "so")) z01))) z09) (z03 (z0q (rOr (z0b (rIsX (bX 10 7) (rV 2))) (rOr (z0b (rIsX (bX 10 8) (rV 2))) (z0b (rIsX (bX 10 9) (rV 2))))) (rDo (rApp (rV 4) (z00 (rC (.str "else")) z01))) z09) (z03 (z0q (ze3 (z0b (rOp (gIs true) (rV 2) (rC .non))) (z6e (z0b (rIsX (bV 10) (rV 2))))) (rDo (rApp (rV 4) (z00 (rC (.str "value")) z01))) z09) (z0h (rV 4))))))))))))
abbrev Cl (c:Nat):Prop:=∀(ns:List Int) (fs d:List D),sCl [some (.at 1),some (.tup d),some (.at 2),none,none] (hO ns fs ++ [.mx c]) = .ok (.rt (.at 3)) (hO ns fs ++ [.mx c,.ml [.str (nmx c)]])
theorem zyh:Cl 0:=λns fs d=>by kernel_rfl
theorem zxd:Cl 1:=λns fs d=>by kernel_rfl
theorem zxn:Cl 2:=λns fs d=>by kernel_rfl
theorem zxj:Cl 3:=λns fs d=>by kernel_rfl
theorem zxg:Cl 4:=λns fs d=>by kernel_rfl
theorem zxl:Cl 5:=λns fs d=>by kernel_rfl
theorem zxi:Cl 6:=λns fs d=>by kernel_rfl
theorem zq1:∀c,c<7->Cl c
 | 0,_=>zyh
 | 1,_=>zxd
 | 2,_=>zxn
 | 3,_=>zxj
 | 4,_=>zxg
 | 5,_=>zxl
 | 6,_=>zxi
 | c+7,h=>absurd h (by omega)
theorem zm4 {ns:List Int}{fs d:List D}{c:Nat}(lt:c<7)(e:e__law_asked [.at 1,.tup d] (hO ns fs) = .ex c (hO ns fs)) :
  rTry 3 yk e__law_asked (z00 (rV 0) (z00 (rV 1) z01)) (z07 (rV 3) (rN 2)) [some (.at 1),some (.tup d),some .non,none,none] (hO ns fs) = .ok (.nx [some (.at 1),some (.tup d),some (.at 2),none,none]) (hO ns fs ++ [.mx c]):=by
 unfold rTry;show rTry1 3 yk _ _ (e__law_asked [.at 1,.tup d] (hO ns fs))=_;rw[e]
 match c,lt with
 | 0,_ | 1,_ | 2,_ | 3,_ | 4,_ | 5,_ | 6,_=>rfl
theorem zcg {ns:List Int}{fs d:List D}{c:Nat}(pl:allB (plB 9) fs=true)(lt:c<7)(e:e__law_asked [.at 1,.tup d] (hO ns fs) = .ex c (hO ns fs)):e__law_class [.at 1,.tup d] (hO ns fs) = .ok (.lst [.str (nmx c)]) (hO ns fs):=by
 unfold e__law_class;refine zf9 (keep:=false) (v:=.at 3) (h':=hO ns fs ++ [.mx c,.ml [.str (nmx c)]]) rfl ?_ ?_
 ·unfold zrv;rw[show z03 (z07 (rC .non) (rN 2)) (z03 (rTry 3 yk e__law_asked (z00 (rV 0) (z00 (rV 1) z01)) (z07 (rV 3) (rN 2))) sCl) (eMap [.at 1,.tup d] 3) (hO ns fs) = .ok (.rt (.at 3)) (hO ns fs ++ [.mx c,.ml [.str (nmx c)]]) from
   (z0c (ρ':=[some (.at 1),some (.tup d),some .non,none,none]) (h':=hO ns fs) rfl).trans ((z0c (zm4 lt e)).trans (zq1 c lt ns fs d))]
  rfl
 ·exact z8w pl rfl
end My
set_option Elab.async false
set_option linter.all false
set_option maxRecDepth 100000
set_option maxHeartbeats 4000000
namespace My
open PySem L2 L2.EX L2.RX
section
variable {ns:List Int}{fs ds:List D}{ks:List Key}{ρ:DEn}{fa fb:RE}{d:D}{ch:Str}{w v sg:Int}
theorem zde (z:fa ρ (hO ns fs) = .ok (.at 1) (hO ns fs))(e:eg fs 1=some d):rFld 2 1 fa ρ (hO ns fs) = .ok d (hO ns fs):=by
 unfold rFld;rw[z];show ofO (eg fs 1) _=_;rw[e];rfl
theorem zja (e:eg fs 1=some (.dic ks ds))(hl:lk (.inr ch) ks ds=some d):e_House_need_chore [.at 1,.str ch] (hO ns fs) = .ok .non (hO ns fs):=by
 unfold e_House_need_chore fnR;show(match z0q _ _ _ (eMap [.at 1,.str ch] 0) (hO ns fs) with
  | .ok (.nx _) h'=>_
  | .ok (.rt v) h'=>_
  | .ex c h'=>_
  | .no=>_:R D)=_
 rw[ze0 (h':=hO ns fs) (by
  unfold z0b;rw[z1o (o:=gIn true) (d:=.str ch) (e:=.dic ks ds) (h':=hO ns fs) (h2:=hO ns fs) (r:=.ok (.bl false) (hO ns fs)) rfl (zde rfl e) (by
   show(match lk (.inr ch) ks ds with
    | some _=>R.ok (D.bl (true ^^ true)) (hO ns fs)
    | none=>.ok (.bl (true ^^ false)) (hO ns fs))=_
   rw[hl];rfl)]
  rfl)]
 rfl
theorem zb3 (e:eg fs 1=some (.dic ks ds))(hl:lk (.inr ch) ks ds=some (.tup [.int w,d]))(hv:v<1)(ok:zea sg v=true):e_House_grow [.at 1,.str ch,.int v,.int sg] (hO ns fs) = .ex 3 (hO ns fs):=by
 unfold e_House_grow;refine zdk rfl ?_ rfl;refine(z0c (ρ':=eMap [.at 1,.str ch,.int v,.int sg] 2) (h':=hO ns fs) (zac (d:=.non) ?_)).trans ?_
 ·unfold rMeth;show e_House_need_chore [.at 1,.str ch] (hO ns fs)=_;exact zja e hl
 refine(z0c (h':=hO ns fs) (z12 (d:=.tup [.int w,d]) (h':=hO ns fs) ?_ (show rN 4 _ _=some _ from rfl))).trans ?_
 ·unfold rAt;refine z1o (d:=.dic ks ds) (e:=.str ch) (h':=hO ns fs) (h2:=hO ns fs) (zde rfl e) rfl ?_;show ofO (lk (.inr ch) ks ds) _=_;rw[hl];rfl
 refine(z0c (h':=hO ns fs) (z12 (d:=.int (w+sg*v)) (h':=hO ns fs) ?_ (show rN 5 _ _=some _ from rfl))).trans ?_
 ·refine z1o (d:=.int w) (e:=.int (sg*v)) (h':=hO ns fs) (h2:=hO ns fs) rfl (z1o (d:=.int sg) (e:=.int v) (h':=hO ns fs) (h2:=hO ns fs) rfl rfl ?_) rfl;show z18 (zea sg v) _=_;rw[ok];rfl
 refine zbn ?_;refine(zem (h':=hO ns fs) ?_).trans ?_
 ·show R.bnd (z0b (rOp gLt (rV 2) (rC (.int 1))) _ _) _=_;rw[show z0b (rOp gLt (rV 2) (rC (.int 1))) (est (est (eMap [.at 1,.str ch,.int v,.int sg] 2) 4 (some (.tup [.int w,d]))) 5 (some (.int (w+sg*v)))) (hO ns fs) = .ok (iLt v 1) (hO ns fs) from rfl,z1e,decide_eq_true hv]
  rfl
 ·rfl
theorem z9j {h h':TH}{c:Nat}(z:fa ρ h = .ex c h'):z0h fa ρ h = .ex c h':=by unfold z0h;rw[z];rfl
theorem zlg (e:eg fs 1=some (.dic ks ds))(hl:lk (.inr ch) ks ds=some (.tup [.int w,d]))(hv:v<1)(ok:zea 1 v=true):e__law_asked [.at 1,.tup [.str "more",.str ch,.int v]] (hO ns fs) = .ex 3 (hO ns fs):=by
 have g:e_House_more [.at 1,.str ch,.int v] (hO ns fs) = .ex 3 (hO ns fs):=by
  unfold e_House_more;exact zdk rfl (z9j (show e_House_grow [.at 1,.str ch,.int v,.int 1] (hO ns fs)=_ from zb3 e hl hv ok)) rfl
 unfold e__law_asked;refine zdk rfl ?_ rfl;refine(z0c (ρ':=[some (.at 1),some (.tup [.str "more",.str ch,.int v]),some (.str "more")]) (h':=hO ns fs) rfl).trans ?_;refine(z0c (ρ':=[some (.at 1),some (.tup [.str "more",.str ch,.int v]),some (.str "more")]) (h':=hO ns fs) (by kernel_rfl)).trans ?_
 refine(z0c (ρ':=[some (.at 1),some (.tup [.str "more",.str ch,.int v]),some (.str "more")]) (h':=hO ns fs) (by kernel_rfl)).trans ?_
 refine(z0c (ρ':=[some (.at 1),some (.tup [.str "more",.str ch,.int v]),some (.str "more")]) (h':=hO ns fs) (by kernel_rfl)).trans ?_
 refine zbn ((zem (h':=hO ns fs) (by kernel_rfl)).trans (z9j ?_))
 show e_House_more [.at 1,.str ch,.int v] (hO ns fs)=_;exact g
theorem zg4 (e:eg fs 1=some (.dic ks ds))(hl:lk (.inr ch) ks ds=some (.tup [.int w,d]))(hv:v<1)(ok:zea (-1) v=true):e__law_asked [.at 1,.tup [.str "fewer",.str ch,.int v]] (hO ns fs) = .ex 3 (hO ns fs):=by
 have g:e_House_fewer [.at 1,.str ch,.int v] (hO ns fs) = .ex 3 (hO ns fs):=by
  unfold e_House_fewer;exact zdk rfl (z9j (show e_House_grow [.at 1,.str ch,.int v,.int (-1)] (hO ns fs)=_ from zb3 e hl hv ok)) rfl
 unfold e__law_asked;refine zdk rfl ?_ rfl;refine(z0c (ρ':=[some (.at 1),some (.tup [.str "fewer",.str ch,.int v]),some (.str "fewer")]) (h':=hO ns fs) rfl).trans ?_;refine(z0c (ρ':=[some (.at 1),some (.tup [.str "fewer",.str ch,.int v]),some (.str "fewer")]) (h':=hO ns fs) (by kernel_rfl)).trans ?_
 refine(z0c (ρ':=[some (.at 1),some (.tup [.str "fewer",.str ch,.int v]),some (.str "fewer")]) (h':=hO ns fs) (by kernel_rfl)).trans ?_
 refine(z0c (ρ':=[some (.at 1),some (.tup [.str "fewer",.str ch,.int v]),some (.str "fewer")]) (h':=hO ns fs) (by kernel_rfl)).trans ?_
 refine(z0c (ρ':=[some (.at 1),some (.tup [.str "fewer",.str ch,.int v]),some (.str "fewer")]) (h':=hO ns fs) (by kernel_rfl)).trans ?_
 refine zbn ((zem (h':=hO ns fs) (by kernel_rfl)).trans (z9j ?_))
 show e_House_fewer [.at 1,.str ch,.int v] (hO ns fs)=_;exact g
end
end My
set_option Elab.async false
set_option linter.all false
set_option maxRecDepth 100000
set_option maxHeartbeats 4000000
namespace My
open PySem L2 L2.EX L2.RX
section
variable {hs gs:List Str}{cs:List (Str×Int)}{ns:List Int}{fs:List D}
theorem zh7:("hire":Str)=S [104,105,114,101]:=by decide +kernel
theorem z4m:("put":Str)=S [112,117,116]:=by decide +kernel
theorem zhl:("drop":Str)=S [100,114,111,112]:=by decide +kernel
theorem zpk:("more":Str)=S [109,111,114,101]:=by decide +kernel
theorem zb1:("fewer":Str)=S [102,101,119,101,114]:=by decide +kernel
theorem zhi:("away":Str)=S [97,119,97,121]:=by decide +kernel
theorem zh1:("back":Str)=S [98,97,99,107]:=by decide +kernel
theorem zgw:("load":Str)=S [108,111,97,100]:=by decide +kernel
theorem zl3:("there":Str)=S [116,104,101,114,101]:=by decide +kernel
theorem zfs:("shares":Str)=S [115,104,97,114,101,115]:=by decide +kernel
theorem zin:("work":Str)=S [119,111,114,107]:=by decide +kernel
theorem zeq:("pieces":Str)=S [112,105,101,99,101,115]:=by decide +kernel
theorem z2s:("fresh":Str)=z1f:=by decide +kernel
theorem z2m:("nobody":Str)=z1p:=by decide +kernel
theorem z1z:("nothing":Str)=z1a:=by decide +kernel
theorem zaq:oddsP=odds:=by decide +kernel
def dlA (hs:List Str)(o:Str):List (List D×Nat):=[([zbq,.str o],0),([z5o,.str z1f,.int 7,.lst [.str o]],4),([zd7,.str o],5),([zfm,.str o],4)]++([z78,z5f].map λw=>([w,.str o],4))++([z2y,z6h,z2r].map λw=>([w,.str o],5))++(hs.map λh=>([z5o,.str o,.int 5,.lst [.str h]],0))
def dlB (hs:List Str)(cs:List (Str×Int))(h:Str):List (List D×Nat):=[([zbq,.str h],1),([z5o,.str z1f,.int 0,.lst [.str h]],3),([z5o,.str z1f,.int 4,.lst [.str h,.str h,.str z1p]],4),([z5o,.str z1f,.int 4,.lst (.str h::hs.map .str)],1)]++(cs.map λc=>([z5o,.str c.1,.int 3,.lst [.str h]],1))
theorem mA {x:List D×Nat}{o:Str}(ho:o∈oddsP)(h:x∈dlA hs o):x∈dl hs cs gs:=y03 _ (y03 _ (y03 _ (y03 _ (y03 _ (y03 _ (y4a.mpr ⟨o,zaq▸ho,h⟩))))))
theorem mB {x:List D×Nat}{h:Str}(hh:h∈hs)(hx:x∈dlB hs cs h):x∈dl hs cs gs:=y03 _ (y03 _ (y03 _ (y03 _ (y03 _ (y05 _ (y4a.mpr ⟨h,hh,hx⟩))))))
theorem mC {x:List D×Nat}(h:x ∈ [([z5o,.str z1f,.int 4,.lst []],4),([zd7,.str z1a],5),([zl9,.str z1p],4)]):x∈dl hs cs gs:=y03 _ (y03 _ (y03 _ (y03 _ (y05 _ h))))
theorem mE {w:D}(h:w ∈ [z78,z5f]):([w,.str z1p],4)∈dl hs cs gs:=y03 _ (y03 _ (y03 _ (y05 _ (y15.mpr ⟨w,h,rfl⟩))))
theorem mF {w:D}(h:w ∈ [z2y,z6h,z2r]):([w,.str z1a],5)∈dl hs cs gs:=y03 _ (y03 _ (y05 _ (y15.mpr ⟨w,h,rfl⟩)))
theorem mA1 {x:List D×Nat}{o:Str}(h:x ∈ [([zbq,.str o],0),([z5o,.str z1f,.int 7,.lst [.str o]],4),([zd7,.str o],5),([zfm,.str o],4)]):x∈dlA hs o:=y03 _ (y03 _ (y03 _ h))
theorem mA2 {w:D}{o:Str}(h:w ∈ [z78,z5f]):([w,.str o],4)∈dlA hs o:=y03 _ (y03 _ (y05 _ (y15.mpr ⟨w,h,rfl⟩)))
theorem mA3 {w:D}{o:Str}(h:w ∈ [z2y,z6h,z2r]):([w,.str o],5)∈dlA hs o:=y03 _ (y05 _ (y15.mpr ⟨w,h,rfl⟩))
theorem mA4 {h o:Str}(hh:h∈hs):([z5o,.str o,.int 5,.lst [.str h]],0)∈dlA hs o:=y05 _ (y15.mpr ⟨h,hh,rfl⟩)
theorem zir (e:tsk cs fs=true)(p:Str×Int)(hp:p∈cs):∃ks ds d,eg fs 1=some (.dic ks ds)/\lk (.inr p.1) ks ds=some (.tup [.int p.2,d]):=by
 unfold tsk at e
 split at e
 ·rename_i ks ds e1;have z:=z2x e p hp
  split at z
  ·rename_i w d e5;rw[z3a] at z;obtain⟨y,ey,e6⟩:=z0t e5;cases ey;exact⟨ks,ds,d,e1,by rw[←e6,of_decide_eq_true z]⟩
  ·cases z
 ·cases e
theorem zo3 {s v:Int}(hs:y16 s.natAbs (2^4096)=true)(hv:z1t v):zea s v=true:=by
 obtain⟨h1,h2⟩:=hv;unfold zea;rw[hs,Bool.true_and];refine y0y.mpr (y04 (m:=10^30) (by omega) (by decide +kernel))
theorem pm1 {v:Int}(hv:z1t v):zea 1 v=true:=zo3 (by decide +kernel) hv
theorem pm2 {v:Int}(hv:z1t v):zea (-1) v=true:=zo3 (by decide +kernel) hv
theorem zm9 {d:List D}{due:Str}(w:Wr hs cs gs d due)(pl:allB (plB 9) fs=true)(A:∀dc∈dl hs cs gs,cls ns fs dc=some ns)(M:∀v:Int,v≤0->∀dc∈dm cs v,cls ns fs dc=some ns)(t:tsk cs fs=true) :
  ∃c,due=nmx c/\e__law_class [.at 1,.tup d] (hO ns fs) = .ok (.lst [.str (nmx c)]) (hO ns fs):=by
 cases w with
 | a0 ho=>exact⟨0,by decide +kernel,z0n (dc:=(_,0)) (by rw[zh7];exact A _ (mA ho (mA1 (.head _))))⟩
 | a1 hh=>exact⟨1,by decide +kernel,z0n (dc:=(_,1)) (by rw[zh7];exact A _ (mB hh (y03 _ (.head _))))⟩
 | @a2 o v ho hv=>exact⟨0,by decide +kernel,z0n (dc:=(_,0)) (by rw[z4m];exact M v hv.1 _ (y03 _ (y03 _ (y15.mpr ⟨o,zaq▸ho,rfl⟩))))⟩
 | a3 ho hh=>exact⟨0,by decide +kernel,z0n (dc:=(_,0)) (by rw[z4m];exact A _ (mA ho (mA4 hh)))⟩
 | @a4 p v hp hv=>exact⟨1,by decide +kernel,z0n (dc:=(_,1)) (by rw[z4m];exact M v hv.1 _ (y03 _ (y05 _ (y15.mpr ⟨p,hp,rfl⟩))))⟩
 | @a5 p h hp hh=>exact⟨1,by decide +kernel,z0n (dc:=(_,1)) (by rw[z4m];exact A _ (mB hh (y05 _ (y15.mpr ⟨p,hp,rfl⟩))))⟩
 | @a6 v hv=>exact⟨3,by decide +kernel,z0n (dc:=(_,3)) (by rw[z4m,z2s,z2m];exact M v hv.1 _ (y05 _ (.head _)))⟩
 | a7 hh=>exact⟨3,by decide +kernel,z0n (dc:=(_,3)) (by rw[z4m,z2s];exact A _ (mB hh (y03 _ (.tail _ (.head _)))))⟩
 | a8=>exact⟨4,by decide +kernel,z0n (dc:=(_,4)) (by rw[z4m,z2s];exact A _ (mC (.head _)))⟩
 | a9 hh=>exact⟨4,by decide +kernel,z0n (dc:=(_,4)) (by rw[z4m,z2s,z2m];exact A _ (mB hh (y03 _ (.tail _ (.tail _ (.head _))))))⟩
 | a10 hh=>exact⟨1,by decide +kernel,z0n (dc:=(_,1)) (by rw[z4m,z2s];exact A _ (mB hh (y03 _ (.tail _ (.tail _ (.tail _ (.head _)))))))⟩
 | a11 ho=>exact⟨4,by decide +kernel,z0n (dc:=(_,4)) (by rw[z4m,z2s];exact A _ (mA ho (mA1 (.tail _ (.head _)))))⟩
 | a12=>exact⟨5,by decide +kernel,z0n (dc:=(_,5)) (by rw[zhl,z1z];exact A _ (mC (.tail _ (.head _))))⟩
 | a13 ho=>exact⟨5,by decide +kernel,z0n (dc:=(_,5)) (by rw[zhl];exact A _ (mA ho (mA1 (.tail _ (.tail _ (.head _))))))⟩
 | @a14 v hv=>exact⟨5,by decide +kernel,z0n (dc:=(_,5)) (by rw[zpk,z1z];exact M v hv.1 _ (y05 _ (.tail _ (.head _))))⟩
 | @a15 p v hp hv =>
  obtain⟨ks,ds,d,e1,e2⟩:=zir t p hp;exact⟨3,by decide +kernel,zcg pl (by decide) (zlg e1 e2 (by have:=hv.1;omega) (pm1 hv))⟩
 | @a16 v hv=>exact⟨5,by decide +kernel,z0n (dc:=(_,5)) (by rw[zb1,z1z];exact M v hv.1 _ (y05 _ (.tail _ (.tail _ (.head _)))))⟩
 | @a17 p v hp hv =>
  obtain⟨ks,ds,d,e1,e2⟩:=zir t p hp;exact⟨3,by decide +kernel,zcg pl (by decide) (zg4 e1 e2 (by have:=hv.1;omega) (pm2 hv))⟩
 | @a18 p k hp h0 h3=>exact⟨3,by decide +kernel,z0n (dc:=(_,3)) (by
   rw[zb1];refine A _ (y03 _ (y05 _ (y4a.mpr ⟨p,hp,?_⟩)));obtain⟨n,rfl⟩:=Int.eq_ofNat_of_zero_le h0
   match n,h3 with
   | 0,_=>exact .head _
   | 1,_=>exact .tail _ (.head _)
   | 2,_=>exact .tail _ (.tail _ (.head _))
   | n+3,h=>exact absurd h (by omega))⟩
 | a19=>exact⟨4,by decide +kernel,z0n (dc:=(_,4)) (by rw[zhi,z2m];exact A _ (mC (.tail _ (.tail _ (.head _)))))⟩
 | a20 ho=>exact⟨4,by decide +kernel,z0n (dc:=(_,4)) (by rw[zh1];exact A _ (mA ho (mA1 (.tail _ (.tail _ (.tail _ (.head _)))))))⟩
 | @a21 g hg=>exact⟨6,by decide +kernel,z0n (dc:=(_,6)) (by
   rw[zhi];cases gs with
   | nil=>cases hg
   | cons x l=>cases hg;exact A _ (y05 _ (.head _)))⟩
 | @a22 h e hh=>exact⟨6,by decide +kernel,z0n (dc:=(_,6)) (by
   rw[zh1];subst e;exact A _ (y05 _ (y15.mpr ⟨h,hh,rfl⟩)))⟩
 | @a23 x o hx ho=>exact⟨4,by decide +kernel,z0n (dc:=(_,4)) (by
   have hw:D.str x ∈ [z78,z5f]:=by
    rw[zgw,zl3] at hx;exact y3g (f:=D.str) hx
   rcases ho with rfl | ho
   ·rw[z2m];exact A _ (mE hw)
   ·exact A _ (mA ho (mA2 hw)))⟩
 | @a24 x o hx ho=>exact⟨5,by decide +kernel,z0n (dc:=(_,5)) (by
   have hw:D.str x ∈ [z2y,z6h,z2r]:=by
    rw[zfs,zin,zeq] at hx;exact y3g (f:=D.str) hx
   rcases ho with rfl | ho
   ·rw[z1z];exact A _ (mF hw)
   ·exact A _ (mA ho (mA3 hw)))⟩
end
end My
set_option Elab.async false
set_option linter.all false
set_option maxRecDepth 100000
set_option maxHeartbeats 4000000
namespace My
open PySem L2 L2.EX L2.RX
section
theorem zpn {m:Nat}(h:m<4):cutD (hs4.map .str) none (some (1+(m:Int)))=(hs4.take (1+m)).map .str:=match m,h with
 | 0,_=>rfl
 | 1,_=>rfl
 | 2,_=>rfl
 | 3,_=>rfl
theorem zpb {m:Nat}(h:m<3):cutD (cs3.map λp=>.tup [.str p.1,.int p.2]) none (some (1+(m:Int)))=(cs3.take (1+m)).map λp=>.tup [.str p.1,.int p.2]:=match m,h with
 | 0,_=>rfl
 | 1,_=>rfl
 | 2,_=>rfl
theorem zp6 (c:Int):∃r:Nat,r<24/\c % 4=((r % 4:Nat):Int)/\c.fdiv 4 % 3=((r / 4 % 3:Nat):Int)/\c.fdiv 12 % 2=((r / 12 % 2:Nat):Int):=by
 rw[y3i c (by decide),y3i c (by decide)]
 exact⟨(c % 24).toNat,by omega,by omega,by omega,by omega⟩
theorem zgf {l:List D}(h:l ≠ []):cutD l (some (-1)) none=l.drop (l.length - 1):=by
 have n:0<l.length:=y3f.mpr h;unfold cutD HT.sIx;dsimp only;rw[if_pos (by decide),show((-1:Int)+(l.length:Int)).toNat=l.length - 1 by omega]
 rw[List.take_of_length_le (by rw[y44];omega)]
theorem z8t {l:List D}{d:D}:cutD (l ++ [d]) none (some (-1))=l:=by
 unfold cutD HT.sIx;dsimp only;rw[if_pos (by decide),y0k,y1q,show((-1:Int)+((l.length+1:Nat):Int)).toNat - 0=l.length by omega,List.drop_zero,List.take_left']
 rfl
theorem zqr:("ann":Str)=ztz:=by decide +kernel
theorem zvl:("bob":Str)=S [98,111,98]:=by decide +kernel
theorem zxx:("cy":Str)=S [99,121]:=by decide +kernel
theorem zms:("dora":Str)=S [100,111,114,97]:=by decide +kernel
theorem zqp:("roof":Str)=S [114,111,111,102]:=by decide +kernel
theorem zkh:("hedge":Str)=S [104,101,100,103,101]:=by decide +kernel
theorem zli:(10:Int)^Int.natAbs 40=10000000000000000000000000000000000000000:=by decide +kernel
theorem zgc {c:Int}{r:Nat}(m:c % 4=((r % 4:Nat):Int)):cutD [.str "ann",.str "bob",.str "cy",.str "dora"] none (some (1+c % 4))=(hsR r).map .str:=by
 rw[zqr,zvl,zxx,zms,m];exact zpn (Nat.mod_lt _ (by decide))
theorem zdh {c:Int}{r:Nat}(m:c.fdiv 4 % 3=((r / 4 % 3:Nat):Int)):cutD [.tup [.str "roof",.int 12],.tup [.str "ann",.int 1],.tup [.str "hedge",.int (10^y5v 40)]] none (some (1+c.fdiv 4 % 3))=(csR r).map λp=>.tup [.str p.1,.int p.2]:=by
 rw[zqp,zqr,zkh,zli,m];exact zpb (Nat.mod_lt _ (by decide))
theorem z9q {α:Type}{g:α->D}{l:List α}{i:Nat}{d:D}(h:(l.map g)[i]?=some d):∃n,l.drop i=n::l.drop (i+1)/\d=g n:=by
 have lt:i<l.length:=by have:=(y01.mp h).1;rwa [y0e] at this
 refine⟨l[i],y24 lt,?_⟩;rw[y0g,y02 lt] at h;exact(y0q h).symm
theorem zqc:∀r,r<24->r / 12 % 2=1->(hsR r).drop ((hsR r).length - 1)=z0g r/\(z0g r).length=1/\(hsR r).take ((hsR r).length - 1)++z0g r=hsR r:=by decide +kernel
theorem zkt:∀r,r<24->r / 12 % 2≠1->z0g r = []:=by decide +kernel
theorem zt2:∀r,r<24->hsR r ≠ []:=by decide +kernel
theorem zgm (r:Nat)(lt:r<24)(z:r / 12 % 2=1):∃x,z0g r = [x]/\cutD ((hsR r).map .str) (some (-1)) none = [.str x]/\cutD ((hsR r).map .str) none (some (-1)) ++ [.str x]=(hsR r).map D.str:=by
 obtain⟨e1,e2,e3⟩:=zqc r lt z;obtain⟨x,ex⟩:=List.length_eq_one_iff.mp e2;have ne:(hsR r).map D.str ≠ []:=by simpa using zt2 r lt
 refine⟨x,ex,?_,?_⟩
 ·rw[zgf ne,y0e,←List.map_drop,e1,ex];rfl
 ·obtain⟨l,d,e⟩:∃l d,(hsR r).map D.str=l ++ [d]:=⟨_,_,(y37 ne).symm⟩;have e4:cutD ((hsR r).map D.str) none (some (-1))=((hsR r).take ((hsR r).length - 1)).map D.str:=by
   have:((hsR r).take ((hsR r).length - 1)).map D.str=l:=by
    rw[List.map_take,e,show(hsR r).length=((hsR r).map D.str).length by simp,e]
    simp
   rw[this,e,z8t]
  rw[e4,show([.str x]:List D)=(z0g r).map D.str by rw[ex];rfl,←List.map_append,e3]
def thR (r:Nat):List Str:=(hsR r).filter λn=>true ^^ (z0g r).contains n
theorem zfu:∀r,r<24->(hsR r).length≤40/\(thR r++z0g r).take (if ((thR r).length:Int)>1 then ((thR r).length:Int) else 1).toNat=whR r/\(thR r++z0g r).length≤40/\whR r ≠ []/\csR r ≠ []/\(whR r).length≤40/\(csR r).length≤40:=by decide +kernel
theorem zaz {l:List D}:(cutD l (some 1) (some 62)).length≤62:=by
 unfold cutD HT.sIx;dsimp only;rw[y2b,if_neg (by decide),if_neg (by decide)]
 have:min (y5x 62) l.length≤62:=Nat.min_le_left _ _;omega
theorem z5u:∀c,flat 60 (.lst [.str (nmx c)])=true
 | 0=>by decide +kernel
 | 1=>by decide +kernel
 | 2=>by decide +kernel
 | 3=>by decide +kernel
 | 4=>by decide +kernel
 | 5=>by decide +kernel
 | c+6=>by show flat 60 (.lst [.str (nmx 6)])=true;decide +kernel
end
end My
set_option Elab.async false
set_option linter.all false
set_option maxRecDepth 100000
set_option maxHeartbeats 4000000
namespace My
open PySem L2 L2.EX L2.RX
noncomputable abbrev l0:RS:=(z07 (rC (.int 0)) (rN 1))
noncomputable abbrev l1:RS:=(z0q (z0b (rOp gGt (rCB gLen (z00 (rV 0) z01)) (rC (.int 0)))) (z07 (rAt (rV 0) (rC (.int 0))) (rN 1)) z09)
noncomputable abbrev l2:RS:=(z07 (rCB (gMake 2 e_House_init) z01) (rN 2))
noncomputable abbrev l3:RS:=(z07 (rSl false (rLst false (z00 (rC (.str "ann")) (z00 (rC (.str "bob")) (z00 (rC (.str "cy")) (z00 (rC (.str "dora")) z01))))) rO0 (rO1 (rOp (gAdd false) (rC (.int 1)) (rOp z1c (rV 1) (rC (.int 4)))))) (rN 3))
noncomputable abbrev l4:RS:=(rFor (rIs (rV 3)) (rN 4) (rDo (rMeth 2 e_House_hire (rV 2) (z00 (rV 4) z01))))
noncomputable abbrev l5:RS:=(z07 (rSl false (rLst false (z00 (rTup (z00 (rC (.str "roof")) (z00 (rC (.int 12)) z01))) (z00 (rTup (z00 (rC (.str "ann")) (z00 (rC (.int 1)) z01))) (z00 (rTup (z00 (rC (.str "hedge")) (z00 (rOp zlk (rC (.int 10)) (rC (.int 40))) z01))) z01)))) rO0 (rO1 (rOp (gAdd false) (rC (.int 1)) (rOp z1c (rOp z19 (rV 1) (rC (.int 4))) (rC (.int 3)))))) (rN 5))
noncomputable abbrev l6:RS:=(rFor (rIs (rV 5)) (rN2 4 6) (rDo (rMeth 2 e_House_put (rV 2) (z00 (rV 4) (z00 (rV 6) (z00 (rCB (gList false) (z00 (rV 3) z01)) z01))))))
noncomputable abbrev l7:RS:=(z07 (rLst false z01) (rN 7))
noncomputable abbrev l8:RS:=(z0q (z0b (rOp (gEq false) (rOp z1c (rOp z19 (rV 1) (rC (.int 12))) (rC (.int 2))) (rC (.int 1)))) (z03 (z07 (rSl false (rV 3) (rO1 (rUn z5a (rC (.int 1)))) rO0) (rN 7)) (z03 (rDo (rMeth 2 e_House_away (rV 2) (z00 (rAt (rV 7) (rC (.int 0))) z01))) (z07 (rOp (gAdd false) (rSl false (rV 3) rO0 (rO1 (rUn z5a (rC (.int 1))))) (rV 7)) (rN 3)))) z09)
noncomputable abbrev l9:RS:=(z07 (rCp ["_law_name","_law_gone"] false (rIs (rV 3)) 1 [7] (rN 0) (z0b (rOp (gIn true) (rV 0) (rV 1))) (rV 0)) (rN 8))
noncomputable abbrev l10:RS:=(z07 (rCB e__law_look (z00 (rV 2) z01)) (rN 9))
noncomputable abbrev l11:RS:=(rFor (rIs (rOp (gAdd false) (rSl false (rV 0) (rO1 (rC (.int 1))) (rO1 (rC (.int 62)))) (rLst false (z00 (rV 1) z01)))) (rN 10) (z03 (z07 (rCB e__law_wrong (z00 (rV 10) (z00 (rSl false (rOp (gAdd false) (rV 8) (rV 7)) rO0 (rO1 (rCB gMax (z00 (rC (.int 1)) (z00 (rCB gLen (z00 (rV 8) z01)) z01))))) (z00 (rV 5) (z00 (rV 7) z01))))) (rN 11)) (z03 (z07 (rAt (rV 11) (rUn z5a (rC (.int 1)))) (rN 12)) (z0q (rOr (z0b (rOp (gEq true) (rCB e__law_class (z00 (rV 2) (z00 (rSl false (rV 11) rO0 (rO1 (rUn z5a (rC (.int 1))))) z01))) (rLst false (z00 (rV 12) z01)))) (z0b (rOp (gEq true) (rCB e__law_look (z00 (rV 2) z01)) (rV 9)))) (z0h (rC (.bl false))) z09))))
noncomputable abbrev l12:RS:=(z0q (rOr (z0b (rOp (gEq true) (rCB e__law_class (z00 (rV 2) (z00 (rTup (z00 (rC (.str "load")) (z00 (rC (.str "nobody")) z01))) z01))) (rLst false (z00 (rC (.str "hand")) z01)))) (z0b (rOp (gEq true) (rCB e__law_class (z00 (rV 2) (z00 (rTup (z00 (rC (.str "work")) (z00 (rC (.str "nothing")) z01))) z01))) (rLst false (z00 (rC (.str "chore")) z01))))) (z0h (rC (.bl false))) z09)
noncomputable abbrev l13:RS:=(z0q (rOr (z6e (z0b (rFg 2 2 (rCB e__law_taken (z00 (rV 2) z01))))) (ze3 (z0b (rOp (gEq false) (rOp z1c (rOp z19 (rV 1) (rC (.int 24))) (rC (.int 8))) (rC (.int 1)))) (z6e (z0b (rCB e__law_full_chores (z00 (rV 1) z01)))))) (z0h (rC (.bl false))) z09)
abbrev eA (c:Int)(x2 x3 x4 x5 x6 x7 x8 x9 x10 x11 x12:Option D):DEn:=[some (.at 0),some (.int c),x2,x3,x4,x5,x6,x7,x8,x9,x10,x11,x12]
section
variable {ns:List Int}{fs:List D}{p p0 p1 p2:List Int×List D}{r:Nat}{c:Int}{h h':TH}{ρ:DEn}{d e v:D}{fa fb:RE}{fT fU:RT}{fA:RA}{a b l:List D}{x4 x6:Option D}
theorem z7p {k i:Nat}{ev:List D->TH->R D}{ds xs:List D}{q:R D}(z1:fa ρ h = .ok (.at i) h)(z2:eg h i=some (.mi k ds))(z3:fA ρ h = .ok xs h)(z4:ev (.at i::xs) h=q):rMeth k ev fa fA ρ h=q:=by
 unfold rMeth;rw[z1];show ofO (eMi k h (.at i)) _=_;rw[show eMi k h (.at i)=some (i,ds) by
  unfold eMi;dsimp only;rw[z2];show(bif y17 k k then some (i,ds) else none)=_;rw[y3p];rfl]
 show R.bnd (fA ρ h) _=_;rw[z3];exact z4
theorem zdy (z:a.length+b.length≤16777216):gAdd false (.lst a) (.lst b) h = .ok (.lst (a++b)) h:=by
 show z18 (y1m (eln a+eln b) 16777216) (R.ok (D.lst (eap a b)) h)=_;rw[z06,z06,z1s,y1i.mpr z];rfl
theorem z7i {x:Bool}(z:fa ρ h = .ok (.bl x) h'):z0b fa ρ h = .ok x h':=by unfold z0b;rw[z];rfl
theorem zsw {q:R Bool}(z:fT ρ h = .ok false h')(k:fU ρ h'=q):rOr fT fU ρ h=q:=by unfold rOr;rw[z];exact k
theorem zdf:∀(n:Nat) {d:D},flat n d=true->plB n d=true
 | 0,_,z=>by cases z
 | n+1,d,z=>by
  have A:∀{l:List D},flats n l=true->allB (plB n) l=true:=λ{l}=>by
   induction l with
   | nil=>exact λ_=>rfl
   | cons x l ih =>
    intro z;rw[z21,y09] at z;show(bif plB n x then allB (plB n) l else false)=true;rw[zdf n z.1,ih z.2];rfl
  cases d with
  | lst ds=>exact A z
  | tup ds=>exact A z
  | dic ks ds=>cases z
  | «at» i=>cases z
  | fn _=>rfl
  | non=>rfl
  | bl _=>rfl
  | int _=>rfl
  | str _=>rfl
theorem z9f:∀(n:Nat) {d:D},flat n d=true->dEq n d d=some true
 | 0,_,z=>by cases z
 | n+1,d,z=>by
  have A:∀{l:List D},flats n l=true->dEqs (dEq n) l l=some true:=λ{l}=>by
   induction l with
   | nil=>exact λ_=>rfl
   | cons x l ih =>
    intro z;rw[z21,y09] at z;show(match dEq n x x with
     | some true=>dEqs (dEq n) l l
     | some false=>some false
     | none=>none)=some true
    rw[z9f n z.1];exact ih z.2
  cases d with
  | lst ds=>exact A z
  | tup ds=>exact A z
  | dic ks ds=>cases z
  | «at» i=>cases z
  | fn _=>cases z
  | non=>rfl
  | bl b=>show some (bEq b b)=_;cases b<;>rfl
  | int i=>show some (iEq i i)=_;rw[z3a,decide_eq_true rfl]
  | str x=>show some (sEq x x)=_;rw[z40,decide_eq_true rfl]
theorem zfn (z9:flat 9 d=true)(z:flat 60 d=true)(k1:fa ρ h = .ok d h')(k2:fb ρ h' = .ok d h'):z0b (rOp (gEq true) fa fb) ρ h = .ok false h':=z7i (z1o k1 k2 (by
 unfold gEq;rw[zf2 9 (zdf 9 z9)];show z18 (flat 60 d&&flat 60 d) (ofO (dEq 60 d d) _)=_;rw[z,z9f 60 z];rfl))
theorem z44:∀c,flat 9 (.lst [.str (nmx c)])=true
 | 0=>by decide +kernel
 | 1=>by decide +kernel
 | 2=>by decide +kernel
 | 3=>by decide +kernel
 | 4=>by decide +kernel
 | 5=>by decide +kernel
 | c+6=>by show flat 9 (.lst [.str (nmx 6)])=true;decide +kernel
theorem zev:eat (l ++ [d]) (-1)=some d:=by
 show(bif y16 0 (eln (l ++ [d])) then eg (l ++ [d]) (eln (l ++ [d]) - 1) else none)=_;rw[z06,z0r,y0k,y1q,show y16 0 (l.length+1)=true from y0y.mpr (Nat.succ_pos _)]
 show(l ++ [d])[l.length+1 - 1]?=_;rw[Nat.add_sub_cancel,y20 (y08 _),Nat.sub_self];rfl
theorem zjf:(match e_House_init [.at 1] (hO ns []) with
 | .ok .non _=>true
 | _=>false)=true:=by kernel_rfl
theorem g01 (ns:List Int):∃c,∀rest,z03 l0 (z03 l1 rest) (eMap [.at 0] 12) [.mr ns]=rest (eA c none none none none none none none none none none none) [.mr ns]:=match ns with
 | []=>⟨0,λrest=>by kernel_rfl⟩
 | n::ns=>⟨n,λrest=>by kernel_rfl⟩
theorem g2 (i0:deed e_House_init [] (ns,[])=some p0):l2 (eA c none none none none none none none none none none none) [.mr ns] = .ok (.nx (eA c (some (.at 1)) none none none none none none none none none none)) (hO p0.1 p0.2):=by
 obtain⟨v,q⟩:=z5s i0;have q:e_House_init [.at 1] (hO ns []) = .ok v (hO p0.1 p0.2):=q;have z:=zjf (ns:=ns)
 rw[q] at z;have ev:v = .non:=by cases v<;>first | rfl | cases z
 subst ev;refine z12 (d:=.at 1) ?_ rfl;show gMake 2 e_House_init [] [.mr ns]=_;unfold gMake;show((e_House_init [.at 1] (hO ns [])).nox.bnd _)=_;rw[q];rfl
theorem g3 (m1:c % 4=((r % 4:Nat):Int)):l3 (eA c (some (.at 1)) none none none none none none none none none none) h = .ok (.nx (eA c (some (.at 1)) (some (hsD (hsR r))) none none none none none none none none none)) h :=
 z12 (d:=hsD (hsR r)) (((by kernel_rfl:_=R.ok (D.lst (cutD [.str "ann",.str "bob",.str "cy",.str "dora"] none (some (1+c % 4)))) h)).trans (by rw[zgc m1])) rfl
theorem g4 (i1:hires (hsR r) (some p0)=some p1)(hl:(hsR r).length≤40):∃x4,l4 (eA c (some (.at 1)) (some (hsD (hsR r))) none none none none none none none none none) (hO p0.1 p0.2) = .ok (.nx (eA c (some (.at 1)) (some (hsD (hsR r))) x4 none none none none none none none none)) (hO p1.1 p1.2):=by
 have K:∃ ρ2 h2,l4 (eA c (some (.at 1)) (some (hsD (hsR r))) none none none none none none none none none) (hO p0.1 p0.2) = .ok (.nx ρ2) h2/\_:=z7m (l:=(hsR r).map .str) (h':=hO p0.1 p0.2) (λi ρ h=>∃x4 p,ρ=eA c (some (.at 1)) (some (hsD (hsR r))) x4 none none none none none none none none/\hires ((hsR r).drop i) (some p)=some p1/\h=hO p.1 p.2) rfl (by rw[y0e];omega) ⟨none,p0,rfl,i1,rfl⟩ λi d ρ h hd ⟨x4,p,e1,e,e2⟩=>by
  subst e1 e2;obtain⟨n,en,rfl⟩:=z9q hd;rw[en] at e;obtain⟨p',e1,e2⟩:=za3 e;obtain⟨v,ev⟩:=z5s e1;exact⟨_,_,_,rfl,zac (z7p (i:=1) (xs:=[.str n]) rfl rfl rfl ev),some (.str n),p',rfl,e2,rfl⟩
 obtain⟨ρ2,h2,q,x4,p,e1,e,e2⟩:=K;subst e1 e2;rw[y0e,y49] at e;cases e;exact⟨x4,q⟩
theorem g5 (m2:c.fdiv 4 % 3=((r / 4 % 3:Nat):Int)){x3:Option D}:l5 (eA c (some (.at 1)) x3 x4 none none none none none none none none) h = .ok (.nx (eA c (some (.at 1)) x3 x4 (some (csD (csR r))) none none none none none none none)) h :=
 z12 (d:=csD (csR r)) (((by kernel_rfl:_=R.ok (D.lst (cutD [.tup [.str "roof",.int 12],.tup [.str "ann",.int 1],.tup [.str "hedge",.int (10^y5v 40)]] none (some (1+c.fdiv 4 % 3)))) h)).trans (by rw[zdh m2])) rfl
theorem g6 (i2:puts ((hsR r).map .str) (csR r) (some p1)=some p2)(hl:(csR r).length≤40):∃x4' x6,l6 (eA c (some (.at 1)) (some (hsD (hsR r))) x4 (some (csD (csR r))) none none none none none none none) (hO p1.1 p1.2) = .ok (.nx (eA c (some (.at 1)) (some (hsD (hsR r))) x4' (some (csD (csR r))) x6 none none none none none none)) (hO p2.1 p2.2):=by
 have K:∃ ρ2 h2,l6 (eA c (some (.at 1)) (some (hsD (hsR r))) x4 (some (csD (csR r))) none none none none none none none) (hO p1.1 p1.2) = .ok (.nx ρ2) h2/\_:=z7m (l:=(csR r).map λp=>.tup [.str p.1,.int p.2]) (h':=hO p1.1 p1.2) (λi ρ h=>∃x4 x6 p,ρ=eA c (some (.at 1)) (some (hsD (hsR r))) x4 (some (csD (csR r))) x6 none none none none none none/\puts ((hsR r).map .str) ((csR r).drop i) (some p)=some p2/\h=hO p.1 p.2) rfl (by rw[y0e];omega) ⟨_,none,p1,rfl,i2,rfl⟩ λi d ρ h hd ⟨x4,x6,p,e1,e,e2⟩=>by
  subst e1 e2;obtain⟨n,en,rfl⟩:=z9q hd;rw[en] at e;obtain⟨p',e1,e2⟩:=zbf e;obtain⟨v,ev⟩:=z5s e1;exact⟨eA c (some (.at 1)) (some (hsD (hsR r))) (some (.str n.1)) (some (csD (csR r))) (some (.int n.2)) none none none none none none,_,_,by unfold rN2;rfl,zac (z7p (i:=1) (xs:=[.str n.1,.int n.2,hsD (hsR r)]) rfl rfl rfl ev),_,_,p',rfl,e2,rfl⟩
 obtain⟨ρ2,h2,q,x4,x6,p,e1,e,e2⟩:=K;subst e1 e2;rw[y0e,y49] at e;cases e;exact⟨x4,x6,q⟩
theorem g78 {rest:RS}(V:HF ns r p0 p1 p2 fs)(lt:r<24)(m3:c.fdiv 12 % 2=((r / 12 % 2:Nat):Int)):z03 l7 (z03 l8 rest) (eA c (some (.at 1)) (some (hsD (hsR r))) x4 (some (csD (csR r))) x6 none none none none none none) (hO p2.1 p2.2)=rest (eA c (some (.at 1)) (some (hsD (hsR r))) x4 (some (csD (csR r))) x6 (some (hsD (z0g r))) none none none none none) (hO ns fs):=by
 refine(z0c (ρ':=eA c (some (.at 1)) (some (hsD (hsR r))) x4 (some (csD (csR r))) x6 (some (.lst [])) none none none none none) (h':=hO p2.1 p2.2) rfl).trans ?_;have t:∀ ρ h,eg ρ 1=some (some (.int c))->z0b (rOp (gEq false) (rOp z1c (rOp z19 (rV 1) (rC (.int 12))) (rC (.int 2))) (rC (.int 1))) ρ h = .ok (false ^^ iEq (((r / 12 % 2:Nat):Int)) 1) h:=fun ρ h e=>z7i (z1o (h':=h) (h2:=h) (z5d (h':=h) (z1o (h':=h) (h2:=h) (zrr e) rfl rfl) rfl (by decide)) rfl (by rw[m3];rfl))
 by_cases z:r / 12 % 2=1
 ·obtain⟨x,eg,e1,e2⟩:=zgm r lt z;rw[z] at t;obtain⟨v,ev⟩:=z5s (V.aw x [] eg);rw[eg];have l2:=congrArg List.length e2;rw[y0k,y0e] at l2;refine z0c ((zem (t _ _ rfl)).trans ((z0c (z12 (d:=.lst [.str x]) (h':=hO p2.1 p2.2) (by
   show R.ok (D.lst (cutD ((hsR r).map .str) (some (-1)) none)) _=_;rw[e1]) rfl)).trans ((z0c (zac (z7p (i:=1) (xs:=[.str x]) rfl rfl rfl ev))).trans (z12 (d:=hsD (hsR r)) (z1o (d:=.lst (cutD ((hsR r).map .str) none (some (-1)))) (e:=.lst [.str x]) (h':=hO ns fs) (h2:=hO ns fs) rfl rfl ((zdy (by
    have l3:=(zfu r lt).1;rw[l2];omega)).trans (by rw[e2]))) rfl))))
 ·have eg:=zkt r lt z;have ef:=V.st eg
  subst ef;rw[eg];rw[show r / 12 % 2=0 by omega] at t
  exact z0c ((ze0 (t _ _ rfl)).trans rfl)
theorem zvg:∀r,r<24->∀n∈hsR r,vIn (.str n) ((z0g r).map V.str)=some ((z0g r).contains n):=by decide +kernel
theorem zrk:∀l:List Str,emap zlj (l.map D.str)=some (l.map V.str)
 | []=>rfl
 | x::l=>emap_cons.mpr ⟨.str x,_,rfl,zrk l,rfl⟩
theorem g9 (lt:r<24):l9 (eA c (some (.at 1)) (some (hsD (hsR r))) x4 (some (csD (csR r))) x6 (some (hsD (z0g r))) none none none none none) h = .ok (.nx (eA c (some (.at 1)) (some (hsD (hsR r))) x4 (some (csD (csR r))) x6 (some (hsD (z0g r))) (some (hsD (thR r))) none none none none)) h:=by
 refine z12 (d:=hsD (thR r)) ((ze7 (l:=(hsR r).map .str) (h':=h) (p:=λd=>match d with
  | .str n=>true ^^ (z0g r).contains n
  | _=>false) (v:=id) rfl (by rw[y0e];have:=(zfu r lt).1;omega) λd hd=>?_).trans ?_) rfl
 ·obtain⟨n,hn,rfl⟩:=y15.mp hd;refine⟨[some (.str n),some (hsD (z0g r))],rfl,z7i (z1o (h':=h) (h2:=h) (d:=.str n) (e:=hsD (z0g r)) rfl rfl ?_),λ_=>rfl⟩;show ofO (emap zlj ((z0g r).map D.str)) _=_;rw[zrk];show ofO (vIn (.str n) ((z0g r).map V.str)) _=_;rw[zvg r lt n hn];rfl
 ·rw[List.filter_map,y5i];rfl
theorem g10 {x3 x5 x7 x8:Option D}(q:e__law_look [.at 1] (hO ns fs) = .ok v (hO ns fs)):l10 (eA c (some (.at 1)) x3 x4 x5 x6 x7 x8 none none none none) (hO ns fs) = .ok (.nx (eA c (some (.at 1)) x3 x4 x5 x6 x7 x8 (some v) none none none)) (hO ns fs) :=
 z12 (z4s (xs:=[.at 1]) rfl q) rfl
theorem zqk:∀r,r<24->tEq 9 (.lst (cutD (eap ((thR r).map .str) ((z0g r).map .str)) none (some (bif iLt 1 (.ofNat (eln ((thR r).map D.str))) then .ofNat (eln ((thR r).map D.str)) else 1)))) (hsD (whR r))=true/\y1m (eln ((thR r).map D.str)+eln ((z0g r).map D.str)) 16777216=true:=by decide +kernel
theorem zqg (r:Nat)(lt:r<24):W15 r:=by
 have e:whR r=whR (12*(r / 12 % 2)+r % 4)/\z0g r=z0g (12*(r / 12 % 2)+r % 4):=(by decide +kernel:∀r,r<24->whR r=whR (12*(r / 12 % 2)+r % 4)/\z0g r=z0g (12*(r / 12 % 2)+r % 4)) r lt
 have k:12*(r / 12 % 2)+r % 4 ∈ [0,1,2,3,12,13,14,15]:=(by decide +kernel:∀r,r<24->12*(r / 12 % 2)+r % 4 ∈ [0,1,2,3,12,13,14,15]) r lt
 have A:∀s ∈ [0,1,2,3,12,13,14,15],W15 s:=λs hs=>by
  simp only[y0a,y2c,or_false] at hs;rcases hs with rfl | rfl | rfl | rfl | rfl | rfl | rfl | rfl
  ·exact ztn
  ·exact zv2
  ·exact zsm
  ·exact ztd
  ·exact zo6
  ·exact zqh
  ·exact zo9
  ·exact zmx
 have z:=A _ k;unfold W15 at z ⊢
 rw[e.1,e.2];exact z
theorem zfz {n:Nat}:y17 (HT.sIx (n+1) (n+1) (some (-1))) (n+1)=false:=by
 unfold HT.sIx;dsimp only;rw[if_pos (by decide),show((-1:Int)+((n+1:Nat):Int)).toNat=n by omega]
 exact y2k.mpr λz=>by have:=y13 z;omega
theorem g11 (V:HF ns r p0 p1 p2 fs)(cm:∀k,∀dc∈dmR r (y50 k),cls ns fs dc=some ns)(lt:r<24)(f9:flat 9 v=true)(f60:flat 60 v=true)(q:e__law_look [.at 1] (hO ns fs) = .ok v (hO ns fs)):∃x10 x11 x12,l11 (eA c (some (.at 1)) (some (hsD (hsR r))) x4 (some (csD (csR r))) x6 (some (hsD (z0g r))) (some (hsD (thR r))) (some v) none none none) (hO ns fs) = .ok (.nx (eA c (some (.at 1)) (some (hsD (hsR r))) x4 (some (csD (csR r))) x6 (some (hsD (z0g r))) (some (hsD (thR r))) (some v) x10 x11 x12)) (hO ns fs):=by
 obtain⟨w1,_,w3,w4,w5,w6,w7⟩:=zfu r lt;have M:∀u:Int,u≤0->∀dc∈dm (csR r) u,cls ns fs dc=some ns:=λu hu=>by
  cases u with
  | ofNat n =>
   have:n=0:=by have:(n:Int)≤0:=hu;omega
   subst this;exact V.c0
  | negSucc k=>exact cm k
 have K:∃ ρ2 h2,l11 (eA c (some (.at 1)) (some (hsD (hsR r))) x4 (some (csD (csR r))) x6 (some (hsD (z0g r))) (some (hsD (thR r))) (some v) none none none) (hO ns fs) = .ok (.nx ρ2) h2/\_:=z7m (l:=cutD (ns.map .int) (some 1) (some 62) ++ [.int c]) (h':=hO ns fs) (λ_ ρ h=>∃x10 x11 x12,ρ=eA c (some (.at 1)) (some (hsD (hsR r))) x4 (some (csD (csR r))) x6 (some (hsD (z0g r))) (some (hsD (thR r))) (some v) x10 x11 x12/\h=hO ns fs) (z1o (d:=.lst (cutD (ns.map .int) (some 1) (some 62))) (e:=.lst [.int c]) (h':=hO ns fs) (h2:=hO ns fs) rfl rfl (zdy (by
   have:=zaz (l:=ns.map .int);rw[y1q];omega))) (by
   have:=zaz (l:=ns.map .int);rw[y0k,y1q];omega) ⟨none,none,none,rfl,rfl⟩ λi d ρ h hd ⟨x10,x11,x12,e1,e2⟩=>by
  subst e1 e2;obtain⟨k,rfl⟩:∃k,d = .int k:=by
   rcases y1y.mp (y0o hd) with h | h
   ·obtain⟨k,_,e⟩:=y15.mp (List.mem_of_mem_drop (List.mem_of_mem_take h));exact⟨k,e.symm⟩
   ·exact⟨c,y0v.mp h⟩
  obtain⟨deed,due,wr,qw⟩:=zer (zqg r lt) w4 w5 (ns:=ns) V.pl k;obtain⟨cc,rfl,qc⟩:=zm9 wr V.pl V.cl M V.tk;obtain⟨a1,a2⟩:=zqk r lt;refine⟨_,_,_,rfl,(z0c (z12 (z4s (xs:=[.int k,hsD (whR r),csD (csR r),hsD (z0g r)]) (z1b rfl (z1b ?_ rfl)) qw) rfl)).trans ((z0c (z12 (d:=.str (nmx cc)) (z1o (d:=.tup (deed ++ [.str (nmx cc)])) (e:=.int (-1)) (h':=hO ns fs) (h2:=hO ns fs) rfl rfl ?_) rfl)).trans ((ze0 (zsw (zfn (z44 cc) (z5u cc) (z4s (xs:=[.at 1,.tup deed]) (z1b rfl (z1b ?_ rfl)) qc) rfl) (zfn f9 f60 (z4s (xs:=[.at 1]) rfl q) rfl))).trans rfl)),_,_,_,rfl,rfl⟩
  ·unfold rSl;rw[z1o (o:=gAdd false) (d:=hsD (thR r)) (e:=hsD (z0g r)) (h':=hO ns fs) (h2:=hO ns fs) (r:=.ok (.lst (eap ((thR r).map .str) ((z0g r).map .str))) (hO ns fs)) rfl rfl (by
    show z18 (y1m (eln ((thR r).map D.str)+eln ((z0g r).map D.str)) 16777216) _=_;rw[a2];rfl)]
   show R.ok (D.lst (cutD (eap ((thR r).map .str) ((z0g r).map .str)) none (some (bif iLt 1 (.ofNat (eln ((thR r).map D.str))) then .ofNat (eln ((thR r).map D.str)) else 1)))) (hO ns fs)=_;rw[z8y 9 a1]
  ·show ofO (eat (deed ++ [.str (nmx cc)]) (-1)) _=_;rw[zev];rfl
  ·show z18 (!(true&&y17 (HT.sIx (deed ++ [D.str (nmx cc)]).length (deed ++ [D.str (nmx cc)]).length (some (-1))) (deed ++ [D.str (nmx cc)]).length)) (R.ok (D.tup (cutD (deed ++ [.str (nmx cc)]) none (some (-1)))) (hO ns fs))=_;rw[z8t,y0k,y1q,zfz];rfl
 obtain⟨ρ2,h2,q,x10,x11,x12,e1,e2⟩:=K;subst e1 e2;exact⟨x10,x11,x12,q⟩
theorem g12 (V:HF ns r p0 p1 p2 fs){x3 x5 x7 x8 x9 x10 x11 x12:Option D}:l12 (eA c (some (.at 1)) x3 x4 x5 x6 x7 x8 x9 x10 x11 x12) (hO ns fs) = .ok (.nx (eA c (some (.at 1)) x3 x4 x5 x6 x7 x8 x9 x10 x11 x12)) (hO ns fs):=by
 have q1:=z0n (V.cl _ (mE (w:=z78) (.head _)));have q2:=z0n (V.cl _ (mF (w:=z6h) (.tail _ (.head _))))
 have h4:("hand":Str)=nmx 4:=by decide +kernel
 have h5:("chore":Str)=nmx 5:=by decide +kernel
 unfold l12;rw[zgw,z2m,zin,z1z,h4,h5];exact(ze0 (zsw (zfn (z44 4) (z5u 4) (z4s (xs:=[.at 1,.tup [z78,.str z1p]]) rfl q1) rfl) (zfn (z44 5) (z5u 5) (z4s (xs:=[.at 1,.tup [z6h,.str z1a]]) rfl q2) rfl))).trans rfl
theorem zlb:e__law_full [.int c] [.mr ns,.no] = .ok (.bl true) [.mr ns,.no]:=by kernel_rfl
theorem zao:e__law_full_chores [.int c] [.mr ns,.no] = .ok (.bl true) [.mr ns,.no]:=by kernel_rfl
theorem g13 (V:HF ns r p0 p1 p2 fs){x3 x5 x7 x8 x9 x10 x11 x12:Option D}:l13 (eA c (some (.at 1)) x3 x4 x5 x6 x7 x8 x9 x10 x11 x12) (hO ns fs) = .ok (.nx (eA c (some (.at 1)) x3 x4 x5 x6 x7 x8 x9 x10 x11 x12)) [.mr ns,.no]:=by
 obtain⟨gs,q⟩:=zml V.tn;refine(ze0 (zsw (h':=[.mr ns,.no]) (q:=.ok false [.mr ns,.no]) ?_ ?_)).trans rfl
 ·have z:rFg 2 2 (rCB e__law_taken (z00 (rV 2) z01)) (eA c (some (.at 1)) x3 x4 x5 x6 x7 x8 x9 x10 x11 x12) (hO ns fs) = .ok (.bl true) [.mr ns,.no]:=by
   unfold rFg;rw[z4s (g:=e__law_taken) (xs:=[.at 1]) rfl q];rfl
  unfold z6e;rw[z7i z];rfl
 ·have t:z0b (rOp (gEq false) (rOp z1c (rOp z19 (rV 1) (rC (.int 24))) (rC (.int 8))) (rC (.int 1))) (eA c (some (.at 1)) x3 x4 x5 x6 x7 x8 x9 x10 x11 x12) [.mr ns,.no] = .ok (false ^^ iEq (c.fdiv 24 % 8) 1) [.mr ns,.no]:=by kernel_rfl
  unfold ze3;rw[t];cases iEq (c.fdiv 24 % 8) 1 with
  | false=>rfl
  | true =>
   show z6e _ _ _=_;unfold z6e;rw[z7i (z4s (g:=e__law_full_chores) (xs:=[.int c]) rfl zao)];rfl
theorem law_ok (HH:∀ns r,r<24->∀k,OkH ns r k)(ns:List Int):e_law [.at 0] [.mr ns] = .ok (.bl true) [.mr ns]:=by
 obtain⟨c,q01⟩:=g01 ns;obtain⟨r,lt,m1,m2,m3⟩:=zp6 c;obtain⟨p0,p1,p2,fs,V,cm⟩:=zu9 (HH ns r lt);obtain⟨w1,_,w3,w4,w5,w6,w7⟩:=zfu r lt;obtain⟨v,f9,f60,qv⟩:=zqu V.lo;obtain⟨x4,q4⟩:=g4 (c:=c) V.i1 w1;obtain⟨y4,y6,q6⟩:=g6 (c:=c) (x4:=x4) V.i2 w7;obtain⟨x10,x11,x12,q11⟩:=g11 (c:=c) (x4:=y4) (x6:=y6) V cm lt f9 f60 qv;unfold e_law;refine zf9 (keep:=false) (v:=.bl true) (h':=[.mr ns,.no]) rfl ?_ rfl;refine(q01 _).trans ((z0c (g2 V.i0)).trans ((z0c (g3 m1)).trans ((z0c q4).trans ((z0c (g5 m2)).trans ((z0c q6).trans ((g78 V lt m3).trans ((z0c (g9 lt)).trans ((z0c (g10 qv)).trans ((z0c q11).trans ((z0c (g12 V)).trans ((z0c (g13 V)).trans ?_)))))))))));exact zcs (z4s (xs:=[.int c]) rfl zlb)
end
end My
set_option maxRecDepth 1000000
set_option Elab.async false
namespace My
open PySem L2 L2.EX L2.RX
theorem zy0 (ns:List Int)(k:Nat):OkH ns 0 k:=by kernel_rfl
theorem zxz (ns:List Int)(k:Nat):OkH ns 1 k:=by kernel_rfl
theorem zyd (ns:List Int)(k:Nat):OkH ns 2 k:=by kernel_rfl
theorem zyg (ns:List Int)(k:Nat):OkH ns 3 k:=by kernel_rfl
end My
set_option maxRecDepth 1000000
set_option Elab.async false
namespace My
open PySem L2 L2.EX L2.RX
theorem zxk (ns:List Int)(k:Nat):OkH ns 4 k:=by kernel_rfl
theorem zyf (ns:List Int)(k:Nat):OkH ns 5 k:=by kernel_rfl
theorem zyl (ns:List Int)(k:Nat):OkH ns 6 k:=by kernel_rfl
theorem zya (ns:List Int)(k:Nat):OkH ns 7 k:=by kernel_rfl
end My
set_option maxRecDepth 1000000
set_option Elab.async false
namespace My
open PySem L2 L2.EX L2.RX
theorem zym (ns:List Int)(k:Nat):OkH ns 8 k:=by kernel_rfl
theorem zxy (ns:List Int)(k:Nat):OkH ns 9 k:=by kernel_rfl
theorem zsp (ns:List Int)(k:Nat):OkH ns 10 k:=by kernel_rfl
theorem zte (ns:List Int)(k:Nat):OkH ns 11 k:=by kernel_rfl
end My
set_option maxRecDepth 1000000
set_option Elab.async false
namespace My
open PySem L2 L2.EX L2.RX
theorem zu5 (ns:List Int)(k:Nat):OkH ns 12 k:=by kernel_rfl
theorem zu6 (ns:List Int)(k:Nat):OkH ns 13 k:=by kernel_rfl
theorem zso (ns:List Int)(k:Nat):OkH ns 14 k:=by kernel_rfl
theorem zse (ns:List Int)(k:Nat):OkH ns 15 k:=by kernel_rfl
end My
set_option maxRecDepth 1000000
set_option Elab.async false
namespace My
open PySem L2 L2.EX L2.RX
theorem zsa (ns:List Int)(k:Nat):OkH ns 16 k:=by kernel_rfl
theorem ztl (ns:List Int)(k:Nat):OkH ns 17 k:=by kernel_rfl
theorem zv6 (ns:List Int)(k:Nat):OkH ns 18 k:=by kernel_rfl
theorem zt8 (ns:List Int)(k:Nat):OkH ns 19 k:=by kernel_rfl
end My
set_option maxRecDepth 1000000
set_option Elab.async false
namespace My
open PySem L2 L2.EX L2.RX
theorem zt3 (ns:List Int)(k:Nat):OkH ns 20 k:=by kernel_rfl
theorem zum (ns:List Int)(k:Nat):OkH ns 21 k:=by kernel_rfl
theorem zu1 (ns:List Int)(k:Nat):OkH ns 22 k:=by kernel_rfl
theorem ztm (ns:List Int)(k:Nat):OkH ns 23 k:=by kernel_rfl
end My
set_option Elab.async false
set_option linter.all false
namespace My
open L2.RX
theorem okH_all (ns:List Int)(r:Nat)(lt:r<24)(k:Nat):OkH ns r k:=match r,lt with
 | 0,_=>zy0 ns k
 | 1,_=>zxz ns k
 | 2,_=>zyd ns k
 | 3,_=>zyg ns k
 | 4,_=>zxk ns k
 | 5,_=>zyf ns k
 | 6,_=>zyl ns k
 | 7,_=>zya ns k
 | 8,_=>zym ns k
 | 9,_=>zxy ns k
 | 10,_=>zsp ns k
 | 11,_=>zte ns k
 | 12,_=>zu5 ns k
 | 13,_=>zu6 ns k
 | 14,_=>zso ns k
 | 15,_=>zse ns k
 | 16,_=>zsa ns k
 | 17,_=>ztl ns k
 | 18,_=>zv6 ns k
 | 19,_=>zt8 ns k
 | 20,_=>zt3 ns k
 | 21,_=>zum ns k
 | 22,_=>zu1 ns k
 | 23,_=>ztm ns k
 | n+24,h=>absurd h (by omega)
end My
set_option Elab.async false
set_option linter.all false
set_option maxRecDepth 100000
set_option maxHeartbeats 4000000
namespace My
open PySem PySem.Spec PyProof.Rows L2 L2.EX L2.RX
local macro_rules | `(tactic| walk_at "sc")=>`(tactic| exact ⟨by decide +kernel,rfl,rfl,by decide +kernel,(by repeat (first | exact True.intro | refine And.intro (Or.inl rfl) ?_ | refine And.intro (Or.inr rfl) ?_)),rfl,by decide +kernel,by decide +kernel,by intro _; rfl⟩)
local macro_rules | `(tactic| walk_at "E")=>`(tactic| first
 | exact q_v | exact zob | exact zqn | exact zoo | exact zwe | exact zm3
 | refine zwd ?_ ?_ | refine zp8 ?_ ?_ | refine zas ?_ ?_ ?_ | refine zrc ?_ | refine zwm ?_ ?_ ?_ | refine zq4 ?_ | refine zw2 ?_ ?_
 | refine zq6 ?_ | refine zqw ?_ | exact zp4 | refine zm6 ?_ ?_ | refine zvp ?_ ?_ | refine zmy ?_ | refine zm8 ?_ | refine zor ?_ | refine zx3 ?_ ?_ ?_
 | refine z5b (z0z _) (z0u (by decide)) (by walk_at "sc") ?_ (λc Y=>z1d Y) λc Y=>?_
 | refine z5b (z4r _ _) (z1r (by decide) (by decide)) (by walk_at "sc") ?_ (λc Y=>ze9 Y (z1d Y) (z1d Y)) λc Y=>?_
 | refine z5b (zfd _ _ _) (z53 (by decide) (by decide) (by decide)) (by walk_at "sc") ?_ (λc Y=>zru Y (z1d Y) (z1d Y) (z1d Y)) λc Y=>?_
 | refine z5m (z0z _) (z0u (by decide)) (by walk_at "sc") ?_ (λc Y=>z1d Y) (λc Y=>?_) λc Y=>?_
 | refine z5m (z4r _ _) (z1r (by decide) (by decide)) (by walk_at "sc") ?_ (λc Y=>ze9 Y (z1d Y) (z1d Y)) (λc Y=>?_) λc Y=>?_
 | refine zgy ?_ ?_ | refine zdc ?_ | refine zm5 ?_ ?_ | refine zio ?_ ?_ ?_ | refine zr6 ?_ | refine zih ?_ ?_ | refine znn ?_ ?_ | refine zq8 ?_ ?_ | refine zc9 ?_ ?_ | refine zba ?_
 | refine zi2 ?_ | refine zht ?_ | exact zcm | refine zce (by assumption) rfl ?_ ?_ | refine q_b ?_ | refine zik ?_ | refine zhh ?_ | refine zni (by assumption) ?_ | refine zqz (by assumption) ?_
 | refine z8o ?_ | refine zwq ?_ | refine zvv ?_ ?_ | refine zbz ?_ | exact zp9 (by assumption) (λ_ _ _=>rfl) | refine zvy ?_ | refine zw8 ?_)
local macro_rules | `(tactic| walk_at "S")=>`(tactic| first
 | refine zpw ?_ | refine zwk ?_ | refine zr8 ?_ ?_ ?_ | refine zbl ?_
 | refine z60 (z0z _) (z0u (by decide)) (by walk_at "sc") ?_ (λc Y=>z1d Y) λc Y=>?_
 | refine z60 (z4r _ _) (z1r (by decide) (by decide)) (by walk_at "sc") ?_ (λc Y=>ze9 Y (z1d Y) (z1d Y)) λc Y=>?_
 | refine z3n (z0z _) (z0u (by decide)) (by walk_at "sc") ?_ (λc Y=>z1d Y) (λc Y=>?_) λc Y=>?_
 | refine z3n (z4r _ _) (z1r (by decide) (by decide)) (by walk_at "sc") ?_ (λc Y=>ze9 Y (z1d Y) (z1d Y)) (λc Y=>?_) λc Y=>?_
 | refine zm0 ?_ | refine zwt ?_ ?_ | refine zop ?_ ?_ ?_
 | refine zgd (tip:=z8v) (λ_ _ _ _ q=>q) zb9 ?_ ?_ ?_ | refine zgd (tip:=z8p) (λ_ _ _ _ q=>q) zd0 ?_ ?_ ?_
 | refine zab (z0z _) ?_ (λY=>z1d Y) ?_ | refine zab (z4r _ _) ?_ (λY=>ze9 Y (z1d Y) (z1d Y)) ?_ | refine zab (zfd _ _ _) ?_ (λY=>zru Y (z1d Y) (z1d Y) (z1d Y)) ?_ | refine zar ?_ ?_ | exact ze2 | exact zi1 | refine zn4 ?_ | refine znu ?_)
local macro_rules | `(tactic| walk_at "q")=>`(tactic| first
 | (refine QE.mk (QE.h ?_);walk_at "E")
 | (refine QA.mk (QA.h ?_);first | exact zp7 | refine zib ?_ ?_)
 | (refine QT.mk (QT.h ?_);first | refine zhs ?_ ?_ | refine zii ?_ | refine zgs (z99 ?_ ?_) | refine zgs (zf7 ?_ ?_) | refine zoe ?_)
 | (refine QW.mk (QW.h ?_);first | refine z99 ?_ ?_ | refine zf7 ?_ ?_ | refine zcn ?_ | refine zh8 ?_)
 | (refine QS.mk (QS.h ?_);walk_at "S")
 | (refine QB.mk (QB.h ?_);first | refine zns λY=>?_ | refine zh5 ?_ | refine zo7 ?_ ?_ | exact zic)
 | (refine QI.mk (QI.h ?_);first | refine zx9 ?_ | refine zvo ?_ | refine zww ?_ ?_ | refine zn3 ?_ ?_ | refine zmf ?_ ?_ ?_ | refine zwy ?_)
 | (refine QO.mk (QO.h ?_);first | exact zwr | refine zx2 ?_))
local macro_rules | `(tactic| walk_at "x")=>`(tactic| repeat' (walk_at "q"))
section
variable {P:Program}{w:World}{K:y00}{mg:Str->Option Value}{base:Heap}{CP CR CH T:Addr}{XC:Nat->Addr}
theorem z6d (B:Bx (gC K CP CR CH T XC) K mg)(F:∃f fd,Fun K "__init__" "House.__init__" (z02 (top 47) 0) f fd/\Binds K fd ["self"] []/\L2.Mk K CH f)(hm:mg "House"=some (.ref CH)):RCls ⟨P,w,K,mg,base⟩ (gC K CP CR CH T XC) "House" 2 1 ["self"] e_House_init:=by
 unfold e_House_init;refine zs1 (c:=2) (N:=["self"]) (k:=0) B F hm ⟨rfl,rfl,rfl,by decide +kernel,rfl,by decide +kernel,by decide +kernel⟩ rfl rfl λf cdv A outer s H E sx W Y=>?_
 walk_at "x"
theorem ze4 (B:Bx (gC K CP CR CH T XC) K mg)(aM:RCst (gC K CP CR CH T XC) mg "LONGEST_NAME" (.int 12))(F:Top K mg "is_name" (top 44) ["thing"]):RDef ⟨P,w,K,mg,base⟩ (gC K CP CR CH T XC) "is_name" 1 ["thing"] e_is_name:=by
 unfold e_is_name;refine z2q (N:=["thing"]) (k:=0) B F ⟨rfl,rfl,rfl,by decide +kernel,rfl,by decide +kernel,by decide +kernel⟩ rfl rfl λf cdv A outer s H E sx W Y=>?_
 walk_at "x"
theorem z80 (B:Bx (gC K CP CR CH T XC) K mg)(d0:RDef ⟨P,w,K,mg,base⟩ (gC K CP CR CH T XC) "is_name" 1 ["thing"] e_is_name)(x0:ExcD K mg "NoName" (XC 0))(F:Top K mg "need_name" (top 45) ["thing"]):RDef ⟨P,w,K,mg,base⟩ (gC K CP CR CH T XC) "need_name" 2 ["thing"] e_need_name:=by
 unfold e_need_name;refine z2q (N:=["thing"]) (k:=1) B F ⟨rfl,rfl,rfl,by decide +kernel,rfl,by decide +kernel,by decide +kernel⟩ rfl rfl λf cdv A outer s H E sx W Y=>?_
 walk_at "x"
theorem z86 (B:Bx (gC K CP CR CH T XC) K mg)(F:∃f fd,Fun K "__init__" "Roll.__init__" (z02 (top 46) 0) f fd/\Binds K fd ["self","crew","tasks"] []/\L2.Mk K CR f)(hm:mg "Roll"=some (.ref CR)):RCls ⟨P,w,K,mg,base⟩ (gC K CP CR CH T XC) "Roll" 1 1 ["self","crew","tasks"] e_Roll_init:=by
 unfold e_Roll_init;refine zs1 (c:=1) (N:=["self","crew","tasks","number_of","chore","numbers"]) (k:=0) B F hm ⟨rfl,rfl,rfl,by decide +kernel,rfl,by decide +kernel,by decide +kernel⟩ rfl rfl λf cdv A outer s H E sx W Y=>?_
 walk_at "x"
theorem z2v (B:Bx (gC K CP CR CH T XC) K mg)(F:MTop K CR "hand_names" "Roll.hand_names" (z02 (top 46) 1) ["self","numbers"]):RMet ⟨P,w,K,mg,base⟩ (gC K CP CR CH T XC) 1 "hand_names" 1 ["self","numbers"] e_Roll_hand_names:=by
 unfold e_Roll_hand_names;refine z1u (c:=1) (N:=["self","numbers"]) (k:=0) B F ⟨rfl,rfl,rfl,by decide +kernel,rfl,by decide +kernel,by decide +kernel⟩ rfl rfl λf cdv A outer s H E sx W Y=>?_
 walk_at "x"
theorem z43 (B:Bx (gC K CP CR CH T XC) K mg)(d0:RMet ⟨P,w,K,mg,base⟩ (gC K CP CR CH T XC) 1 "hand_names" 1 ["self","numbers"] e_Roll_hand_names)(aJ:RCst (gC K CP CR CH T XC) mg "NOTHING" (.tup [.int 0,.int 1]))(F:MTop K CH "old_row" "House.old_row" (z02 (top 47) 16) ["self","roll","place","touched"]):RMet ⟨P,w,K,mg,base⟩ (gC K CP CR CH T XC) 2 "old_row" 2 ["self","roll","place","touched"] e_House_old_row:=by
 unfold e_House_old_row;refine z1u (c:=2) (N:=["self","roll","place","touched","chore","doers"]) (k:=1) B F ⟨rfl,rfl,rfl,by decide +kernel,rfl,by decide +kernel,by decide +kernel⟩ rfl rfl λf cdv A outer s H E sx W Y=>?_
 walk_at "x"
theorem z8d (B:Bx (gC K CP CR CH T XC) K mg)(F:∃f fd,Fun K "__init__" "Pour.__init__" (z02 (top 20) 0) f fd/\Binds K fd ["self","gives","takes","ties","sent"] []/\L2.Mk K CP f)(hm:mg "Pour"=some (.ref CP)):RCls ⟨P,w,K,mg,base⟩ (gC K CP CR CH T XC) "Pour" 0 1 ["self","gives","takes","ties","sent"] e_Pour_init:=by
 unfold e_Pour_init;refine zs1 (c:=0) (N:=["self","gives","takes","ties","sent","tie","ends","end"]) (k:=0) B F hm ⟨rfl,rfl,rfl,by decide +kernel,rfl,by decide +kernel,by decide +kernel⟩ rfl rfl λf cdv A outer s H E sx W Y=>?_
 walk_at "x"
theorem z1v (B:Bx (gC K CP CR CH T XC) K mg)(F:MTop K CP "gives_with_rest" "Pour.gives_with_rest" (z02 (top 20) 3) ["self"]):RMet ⟨P,w,K,mg,base⟩ (gC K CP CR CH T XC) 0 "gives_with_rest" 1 ["self"] e_Pour_gives_with_rest:=by
 unfold e_Pour_gives_with_rest;refine z1u (c:=0) (N:=["self"]) (k:=0) B F ⟨rfl,rfl,rfl,by decide +kernel,rfl,by decide +kernel,by decide +kernel⟩ rfl rfl λf cdv A outer s H E sx W Y=>?_
 walk_at "x"
theorem z3v (B:Bx (gC K CP CR CH T XC) K mg)(F:MTop K CP "has_room" "Pour.has_room" (z02 (top 20) 4) ["self","ends"]):RMet ⟨P,w,K,mg,base⟩ (gC K CP CR CH T XC) 0 "has_room" 1 ["self","ends"] e_Pour_has_room:=by
 unfold e_Pour_has_room;refine z1u (c:=0) (N:=["self","ends"]) (k:=0) B F ⟨rfl,rfl,rfl,by decide +kernel,rfl,by decide +kernel,by decide +kernel⟩ rfl rfl λf cdv A outer s H E sx W Y=>?_
 walk_at "x"
theorem z4t (B:Bx (gC K CP CR CH T XC) K mg)(F:MTop K CP "far_end" "Pour.far_end" (z02 (top 20) 1) ["self","end","tie"]):RMet ⟨P,w,K,mg,base⟩ (gC K CP CR CH T XC) 0 "far_end" 1 ["self","end","tie"] e_Pour_far_end:=by
 unfold e_Pour_far_end;refine z1u (c:=0) (N:=["self","end","tie","ends"]) (k:=0) B F ⟨rfl,rfl,rfl,by decide +kernel,rfl,by decide +kernel,by decide +kernel⟩ rfl rfl λf cdv A outer s H E sx W Y=>?_
 walk_at "x"
theorem z5l (B:Bx (gC K CP CR CH T XC) K mg)(F:MTop K CP "may_go" "Pour.may_go" (z02 (top 20) 2) ["self","end","tie"]):RMet ⟨P,w,K,mg,base⟩ (gC K CP CR CH T XC) 0 "may_go" 1 ["self","end","tie"] e_Pour_may_go:=by
 unfold e_Pour_may_go;refine z1u (c:=0) (N:=["self","end","tie"]) (k:=0) B F ⟨rfl,rfl,rfl,by decide +kernel,rfl,by decide +kernel,by decide +kernel⟩ rfl rfl λf cdv A outer s H E sx W Y=>?_
 walk_at "x"
theorem z2t (B:Bx (gC K CP CR CH T XC) K mg)(d0:RMet ⟨P,w,K,mg,base⟩ (gC K CP CR CH T XC) 0 "far_end" 1 ["self","end","tie"] e_Pour_far_end)(d1:RMet ⟨P,w,K,mg,base⟩ (gC K CP CR CH T XC) 0 "may_go" 1 ["self","end","tie"] e_Pour_may_go)(F:MTop K CP "row_behind" "Pour.row_behind" (z02 (top 20) 6) ["self","row","steps"]):RMet ⟨P,w,K,mg,base⟩ (gC K CP CR CH T XC) 0 "row_behind" 2 ["self","row","steps"] e_Pour_row_behind:=by
 unfold e_Pour_row_behind;refine z1u (c:=0) (N:=["self","row","steps","behind","end","tie","far"]) (k:=1) B F ⟨rfl,rfl,rfl,by decide +kernel,rfl,by decide +kernel,by decide +kernel⟩ rfl rfl λf cdv A outer s H E sx W Y=>?_
 walk_at "x"
theorem z22 (B:Bx (gC K CP CR CH T XC) K mg)(d0:RMet ⟨P,w,K,mg,base⟩ (gC K CP CR CH T XC) 0 "gives_with_rest" 1 ["self"] e_Pour_gives_with_rest)(d1:RMet ⟨P,w,K,mg,base⟩ (gC K CP CR CH T XC) 0 "has_room" 1 ["self","ends"] e_Pour_has_room)(d2:RMet ⟨P,w,K,mg,base⟩ (gC K CP CR CH T XC) 0 "row_behind" 2 ["self","row","steps"] e_Pour_row_behind)(F:MTop K CP "steps_to_room" "Pour.steps_to_room" (z02 (top 20) 5) ["self"]):RMet ⟨P,w,K,mg,base⟩ (gC K CP CR CH T XC) 0 "steps_to_room" 3 ["self"] e_Pour_steps_to_room:=by
 unfold e_Pour_steps_to_room;refine z1u (c:=0) (N:=["self","steps","row","give"]) (k:=2) B F ⟨rfl,rfl,rfl,by decide +kernel,rfl,by decide +kernel,by decide +kernel⟩ rfl rfl λf cdv A outer s H E sx W Y=>?_
 walk_at "x"
theorem z4a (B:Bx (gC K CP CR CH T XC) K mg)(d0:RMet ⟨P,w,K,mg,base⟩ (gC K CP CR CH T XC) 0 "far_end" 1 ["self","end","tie"] e_Pour_far_end)(d1:RMet ⟨P,w,K,mg,base⟩ (gC K CP CR CH T XC) 0 "may_go" 1 ["self","end","tie"] e_Pour_may_go)(F:MTop K CP "leads_on" "Pour.leads_on" (z02 (top 20) 10) ["self","end","tie","steps"]):RMet ⟨P,w,K,mg,base⟩ (gC K CP CR CH T XC) 0 "leads_on" 2 ["self","end","tie","steps"] e_Pour_leads_on:=by
 unfold e_Pour_leads_on;refine z1u (c:=0) (N:=["self","end","tie","steps"]) (k:=1) B F ⟨rfl,rfl,rfl,by decide +kernel,rfl,by decide +kernel,by decide +kernel⟩ rfl rfl λf cdv A outer s H E sx W Y=>?_
 walk_at "x"
theorem z1y (B:Bx (gC K CP CR CH T XC) K mg)(d0:RMet ⟨P,w,K,mg,base⟩ (gC K CP CR CH T XC) 0 "leads_on" 2 ["self","end","tie","steps"] e_Pour_leads_on)(F:MTop K CP "skip_dead_ties" "Pour.skip_dead_ties" (z02 (top 20) 9) ["self","end","steps","tried"]):RMet ⟨P,w,K,mg,base⟩ (gC K CP CR CH T XC) 0 "skip_dead_ties" 3 ["self","end","steps","tried"] e_Pour_skip_dead_ties:=by
 unfold e_Pour_skip_dead_ties;refine z1u (c:=0) (N:=["self","end","steps","tried","ties"]) (k:=2) B F ⟨rfl,rfl,rfl,by decide +kernel,rfl,by decide +kernel,by decide +kernel⟩ rfl rfl λf cdv A outer s H E sx W Y=>?_
 walk_at "x"
theorem z3w (B:Bx (gC K CP CR CH T XC) K mg)(d0:RMet ⟨P,w,K,mg,base⟩ (gC K CP CR CH T XC) 0 "has_room" 1 ["self","ends"] e_Pour_has_room)(d1:RMet ⟨P,w,K,mg,base⟩ (gC K CP CR CH T XC) 0 "skip_dead_ties" 3 ["self","end","steps","tried"] e_Pour_skip_dead_ties)(d2:RMet ⟨P,w,K,mg,base⟩ (gC K CP CR CH T XC) 0 "far_end" 1 ["self","end","tie"] e_Pour_far_end)(F:MTop K CP "way_from" "Pour.way_from" (z02 (top 20) 8) ["self","give","steps","tried"]):RMet ⟨P,w,K,mg,base⟩ (gC K CP CR CH T XC) 0 "way_from" 4 ["self","give","steps","tried"] e_Pour_way_from:=by
 unfold e_Pour_way_from;refine z1u (c:=0) (N:=["self","give","steps","tried","way","ends","end","tie"]) (k:=3) B F ⟨rfl,rfl,rfl,by decide +kernel,rfl,by decide +kernel,by decide +kernel⟩ rfl rfl λf cdv A outer s H E sx W Y=>?_
 walk_at "x"
theorem z30 (B:Bx (gC K CP CR CH T XC) K mg)(F:MTop K CP "send_along" "Pour.send_along" (z02 (top 20) 11) ["self","give","way"]):RMet ⟨P,w,K,mg,base⟩ (gC K CP CR CH T XC) 0 "send_along" 1 ["self","give","way"] e_Pour_send_along:=by
 unfold e_Pour_send_along;refine z1u (c:=0) (N:=["self","give","way","take","amount","tie"]) (k:=0) B F ⟨rfl,rfl,rfl,by decide +kernel,rfl,by decide +kernel,by decide +kernel⟩ rfl rfl λf cdv A outer s H E sx W Y=>?_
 walk_at "x"
theorem z23 (B:Bx (gC K CP CR CH T XC) K mg)(d0:RMet ⟨P,w,K,mg,base⟩ (gC K CP CR CH T XC) 0 "gives_with_rest" 1 ["self"] e_Pour_gives_with_rest)(d1:RMet ⟨P,w,K,mg,base⟩ (gC K CP CR CH T XC) 0 "way_from" 4 ["self","give","steps","tried"] e_Pour_way_from)(d2:RMet ⟨P,w,K,mg,base⟩ (gC K CP CR CH T XC) 0 "send_along" 1 ["self","give","way"] e_Pour_send_along)(F:MTop K CP "send_by_steps" "Pour.send_by_steps" (z02 (top 20) 7) ["self","steps"]):RMet ⟨P,w,K,mg,base⟩ (gC K CP CR CH T XC) 0 "send_by_steps" 5 ["self","steps"] e_Pour_send_by_steps:=by
 unfold e_Pour_send_by_steps;refine z1u (c:=0) (N:=["self","steps","tried","give","way"]) (k:=4) B F ⟨rfl,rfl,rfl,by decide +kernel,rfl,by decide +kernel,by decide +kernel⟩ rfl rfl λf cdv A outer s H E sx W Y=>?_
 walk_at "x"
theorem z81 (B:Bx (gC K CP CR CH T XC) K mg)(d0:RMet ⟨P,w,K,mg,base⟩ (gC K CP CR CH T XC) 0 "steps_to_room" 3 ["self"] e_Pour_steps_to_room)(d1:RMet ⟨P,w,K,mg,base⟩ (gC K CP CR CH T XC) 0 "has_room" 1 ["self","ends"] e_Pour_has_room)(d2:RMet ⟨P,w,K,mg,base⟩ (gC K CP CR CH T XC) 0 "send_by_steps" 5 ["self","steps"] e_Pour_send_by_steps)(F:MTop K CP "fill" "Pour.fill" (z02 (top 20) 12) ["self"]):RMet ⟨P,w,K,mg,base⟩ (gC K CP CR CH T XC) 0 "fill" 6 ["self"] e_Pour_fill:=by
 unfold e_Pour_fill;refine z1u (c:=0) (N:=["self","steps"]) (k:=5) B F ⟨rfl,rfl,rfl,by decide +kernel,rfl,by decide +kernel,by decide +kernel⟩ rfl rfl λf cdv A outer s H E sx W Y=>?_
 walk_at "x"
theorem z8f (B:Bx (gC K CP CR CH T XC) K mg)(d0:RCls ⟨P,w,K,mg,base⟩ (gC K CP CR CH T XC) "Pour" 0 1 ["self","gives","takes","ties","sent"] e_Pour_init)(d1:RMet ⟨P,w,K,mg,base⟩ (gC K CP CR CH T XC) 0 "fill" 6 ["self"] e_Pour_fill)(F:Top K mg "pour_more" (top 22) ["gives","takes","ties","sent"]):RDef ⟨P,w,K,mg,base⟩ (gC K CP CR CH T XC) "pour_more" 7 ["gives","takes","ties","sent"] e_pour_more:=by
 unfold e_pour_more;refine z2q (N:=["gives","takes","ties","sent","pour","near"]) (k:=6) B F ⟨rfl,rfl,rfl,by decide +kernel,rfl,by decide +kernel,by decide +kernel⟩ rfl rfl λf cdv A outer s H E sx W Y=>?_
 walk_at "x"
theorem za4 (B:Bx (gC K CP CR CH T XC) K mg)(d0:RDef ⟨P,w,K,mg,base⟩ (gC K CP CR CH T XC) "pour_more" 7 ["gives","takes","ties","sent"] e_pour_more)(F:Top K mg "pour_all" (top 21) ["gives","takes","ties"]):RDef ⟨P,w,K,mg,base⟩ (gC K CP CR CH T XC) "pour_all" 8 ["gives","takes","ties"] e_pour_all:=by
 unfold e_pour_all;refine z2q (N:=["gives","takes","ties"]) (k:=7) B F ⟨rfl,rfl,rfl,by decide +kernel,rfl,by decide +kernel,by decide +kernel⟩ rfl rfl λf cdv A outer s H E sx W Y=>?_
 walk_at "x"
theorem zd9 (B:Bx (gC K CP CR CH T XC) K mg)(F:Top K mg "ties_in" (top 24) ["doers","crowd"]):RDef ⟨P,w,K,mg,base⟩ (gC K CP CR CH T XC) "ties_in" 1 ["doers","crowd"] e_ties_in:=by
 unfold e_ties_in;refine z2q (N:=["doers","crowd","place_of","ties","give","chore"]) (k:=0) B F ⟨rfl,rfl,rfl,by decide +kernel,rfl,by decide +kernel,by decide +kernel⟩ rfl rfl λf cdv A outer s H E sx W Y=>?_
 walk_at "x"
theorem zat (B:Bx (gC K CP CR CH T XC) K mg)(F:Top K mg "work_in" (top 25) ["works","crowd"]):RDef ⟨P,w,K,mg,base⟩ (gC K CP CR CH T XC) "work_in" 1 ["works","crowd"] e_work_in:=by
 unfold e_work_in;refine z2q (N:=["works","crowd"]) (k:=0) B F ⟨rfl,rfl,rfl,by decide +kernel,rfl,by decide +kernel,by decide +kernel⟩ rfl rfl λf cdv A outer s H E sx W Y=>?_
 walk_at "x"
theorem zcr (B:Bx (gC K CP CR CH T XC) K mg)(d0:RDef ⟨P,w,K,mg,base⟩ (gC K CP CR CH T XC) "pour_all" 8 ["gives","takes","ties"] e_pour_all)(d1:RDef ⟨P,w,K,mg,base⟩ (gC K CP CR CH T XC) "ties_in" 1 ["doers","crowd"] e_ties_in)(d2:RDef ⟨P,w,K,mg,base⟩ (gC K CP CR CH T XC) "work_in" 1 ["works","crowd"] e_work_in)(F:Top K mg "pour_in" (top 26) ["works","doers","crowd"]):RDef ⟨P,w,K,mg,base⟩ (gC K CP CR CH T XC) "pour_in" 9 ["works","doers","crowd"] e_pour_in:=by
 unfold e_pour_in;refine z2q (N:=["works","doers","crowd","many","gives"]) (k:=8) B F ⟨rfl,rfl,rfl,by decide +kernel,rfl,by decide +kernel,by decide +kernel⟩ rfl rfl λf cdv A outer s H E sx W Y=>?_
 walk_at "x"
theorem zen (B:Bx (gC K CP CR CH T XC) K mg)(F:Top K mg "chosen" (top 27) ["things","marks","wanted"]):RDef ⟨P,w,K,mg,base⟩ (gC K CP CR CH T XC) "chosen" 1 ["things","marks","wanted"] e_chosen:=by
 unfold e_chosen;refine z2q (N:=["things","marks","wanted"]) (k:=0) B F ⟨rfl,rfl,rfl,by decide +kernel,rfl,by decide +kernel,by decide +kernel⟩ rfl rfl λf cdv A outer s H E sx W Y=>?_
 walk_at "x"
theorem z8c (B:Bx (gC K CP CR CH T XC) K mg)(d0:RDef ⟨P,w,K,mg,base⟩ (gC K CP CR CH T XC) "pour_in" 9 ["works","doers","crowd"] e_pour_in)(d1:RDef ⟨P,w,K,mg,base⟩ (gC K CP CR CH T XC) "chosen" 1 ["things","marks","wanted"] e_chosen)(F:Top K mg "crowds_by" (top 28) ["works","doers","many"]):RDef ⟨P,w,K,mg,base⟩ (gC K CP CR CH T XC) "crowds_by" 10 ["works","doers","many"] e_crowds_by:=by
 unfold e_crowds_by;refine z2q (N:=["works","doers","many","crowds","uncut","crowd","near","wanted"]) (k:=9) B F ⟨rfl,rfl,rfl,by decide +kernel,rfl,by decide +kernel,by decide +kernel⟩ rfl rfl λf cdv A outer s H E sx W Y=>?_
 walk_at "x"
theorem za5 (B:Bx (gC K CP CR CH T XC) K mg)(F:Top K mg "is_whole" (top 14) ["thing"]):RDef ⟨P,w,K,mg,base⟩ (gC K CP CR CH T XC) "is_whole" 1 ["thing"] e_is_whole:=by
 unfold e_is_whole;refine z2q (N:=["thing"]) (k:=0) B F ⟨rfl,rfl,rfl,by decide +kernel,rfl,by decide +kernel,by decide +kernel⟩ rfl rfl λf cdv A outer s H E sx W Y=>?_
 walk_at "x"
theorem z71 (B:Bx (gC K CP CR CH T XC) K mg)(F:Top K mg "divisor_of" (top 15) ["one","other"]):RDef ⟨P,w,K,mg,base⟩ (gC K CP CR CH T XC) "divisor_of" 1 ["one","other"] e_divisor_of:=by
 unfold e_divisor_of;refine z2q (N:=["one","other","greater","lesser","rest"]) (k:=0) B F ⟨rfl,rfl,rfl,by decide +kernel,rfl,by decide +kernel,by decide +kernel⟩ rfl rfl λf cdv A outer s H E sx W Y=>?_
 walk_at "x"
theorem zcq (B:Bx (gC K CP CR CH T XC) K mg)(d0:RDef ⟨P,w,K,mg,base⟩ (gC K CP CR CH T XC) "is_whole" 1 ["thing"] e_is_whole)(d1:RDef ⟨P,w,K,mg,base⟩ (gC K CP CR CH T XC) "divisor_of" 1 ["one","other"] e_divisor_of)(x7:ExcD K mg "NoPart" (XC 7))(F:Top K mg "part_of" (top 16) ["top","bottom"]):RDef ⟨P,w,K,mg,base⟩ (gC K CP CR CH T XC) "part_of" 2 ["top","bottom"] e_part_of:=by
 unfold e_part_of;refine z2q (N:=["top","bottom","divisor"]) (k:=1) B F ⟨rfl,rfl,rfl,by decide +kernel,rfl,by decide +kernel,by decide +kernel⟩ rfl rfl λf cdv A outer s H E sx W Y=>?_
 walk_at "x"
theorem z8a (B:Bx (gC K CP CR CH T XC) K mg)(d0:RDef ⟨P,w,K,mg,base⟩ (gC K CP CR CH T XC) "pour_in" 9 ["works","doers","crowd"] e_pour_in)(d1:RDef ⟨P,w,K,mg,base⟩ (gC K CP CR CH T XC) "part_of" 2 ["top","bottom"] e_part_of)(F:Top K mg "shares_in" (top 32) ["works","doers","crowd"]):RDef ⟨P,w,K,mg,base⟩ (gC K CP CR CH T XC) "shares_in" 10 ["works","doers","crowd"] e_shares_in:=by
 unfold e_shares_in;refine z2q (N:=["works","doers","crowd","sent"]) (k:=9) B F ⟨rfl,rfl,rfl,by decide +kernel,rfl,by decide +kernel,by decide +kernel⟩ rfl rfl λf cdv A outer s H E sx W Y=>?_
 walk_at "x"
theorem z7l (B:Bx (gC K CP CR CH T XC) K mg)(d0:RDef ⟨P,w,K,mg,base⟩ (gC K CP CR CH T XC) "ties_in" 1 ["doers","crowd"] e_ties_in)(F:Top K mg "rows_from" (top 29) ["doers","crowds","sents","nothing"]):RDef ⟨P,w,K,mg,base⟩ (gC K CP CR CH T XC) "rows_from" 2 ["doers","crowds","sents","nothing"] e_rows_from:=by
 unfold e_rows_from;refine z2q (N:=["doers","crowds","sents","nothing","rows","crowd","sent","tie","amount","chore"]) (k:=1) B F ⟨rfl,rfl,rfl,by decide +kernel,rfl,by decide +kernel,by decide +kernel⟩ rfl rfl λf cdv A outer s H E sx W Y=>?_
 walk_at "x"
theorem z5w (B:Bx (gC K CP CR CH T XC) K mg)(d0:RDef ⟨P,w,K,mg,base⟩ (gC K CP CR CH T XC) "crowds_by" 10 ["works","doers","many"] e_crowds_by)(d1:RDef ⟨P,w,K,mg,base⟩ (gC K CP CR CH T XC) "shares_in" 10 ["works","doers","crowd"] e_shares_in)(d2:RDef ⟨P,w,K,mg,base⟩ (gC K CP CR CH T XC) "rows_from" 2 ["doers","crowds","sents","nothing"] e_rows_from)(F:Top K mg "deal_evenly" (top 31) ["works","doers","many"]):RDef ⟨P,w,K,mg,base⟩ (gC K CP CR CH T XC) "deal_evenly" 11 ["works","doers","many"] e_deal_evenly:=by
 unfold e_deal_evenly;refine z2q (N:=["works","doers","many","crowds","sents"]) (k:=10) B F ⟨rfl,rfl,rfl,by decide +kernel,rfl,by decide +kernel,by decide +kernel⟩ rfl rfl λf cdv A outer s H E sx W Y=>?_
 walk_at "x"
theorem z3g (B:Bx (gC K CP CR CH T XC) K mg)(d0:RDef ⟨P,w,K,mg,base⟩ (gC K CP CR CH T XC) "divisor_of" 1 ["one","other"] e_divisor_of)(F:Top K mg "plus_in_lowest" (top 17) ["one","other"]):RDef ⟨P,w,K,mg,base⟩ (gC K CP CR CH T XC) "plus_in_lowest" 2 ["one","other"] e_plus_in_lowest:=by
 unfold e_plus_in_lowest;refine z2q (N:=["one","other","shared","top","extra"]) (k:=1) B F ⟨rfl,rfl,rfl,by decide +kernel,rfl,by decide +kernel,by decide +kernel⟩ rfl rfl λf cdv A outer s H E sx W Y=>?_
 walk_at "x"
theorem z4y (B:Bx (gC K CP CR CH T XC) K mg)(d0:RDef ⟨P,w,K,mg,base⟩ (gC K CP CR CH T XC) "plus_in_lowest" 2 ["one","other"] e_plus_in_lowest)(F:Top K mg "sum_of_parts" (top 18) ["parts"]):RDef ⟨P,w,K,mg,base⟩ (gC K CP CR CH T XC) "sum_of_parts" 3 ["parts"] e_sum_of_parts:=by
 unfold e_sum_of_parts;refine z2q (N:=["parts","total","part"]) (k:=2) B F ⟨rfl,rfl,rfl,by decide +kernel,rfl,by decide +kernel,by decide +kernel⟩ rfl rfl λf cdv A outer s H E sx W Y=>?_
 walk_at "x"
theorem z35 (B:Bx (gC K CP CR CH T XC) K mg)(d0:RDef ⟨P,w,K,mg,base⟩ (gC K CP CR CH T XC) "sum_of_parts" 3 ["parts"] e_sum_of_parts)(F:Top K mg "loads_of_shares" (top 33) ["doers","many","shares"]):RDef ⟨P,w,K,mg,base⟩ (gC K CP CR CH T XC) "loads_of_shares" 4 ["doers","many","shares"] e_loads_of_shares:=by
 unfold e_loads_of_shares;refine z2q (N:=["doers","many","shares","shares_at","hands","row","hand","share"]) (k:=3) B F ⟨rfl,rfl,rfl,by decide +kernel,rfl,by decide +kernel,by decide +kernel⟩ rfl rfl λf cdv A outer s H E sx W Y=>?_
 walk_at "x"
theorem zdz (B:Bx (gC K CP CR CH T XC) K mg)(F:Top K mg "is_kept" (top 39) ["hands","old","stayed"]):RDef ⟨P,w,K,mg,base⟩ (gC K CP CR CH T XC) "is_kept" 1 ["hands","old","stayed"] e_is_kept:=by
 unfold e_is_kept;refine z2q (N:=["hands","old","stayed"]) (k:=0) B F ⟨rfl,rfl,rfl,by decide +kernel,rfl,by decide +kernel,by decide +kernel⟩ rfl rfl λf cdv A outer s H E sx W Y=>?_
 walk_at "x"
theorem zai (B:Bx (gC K CP CR CH T XC) K mg)(d0:RDef ⟨P,w,K,mg,base⟩ (gC K CP CR CH T XC) "deal_evenly" 11 ["works","doers","many"] e_deal_evenly)(d1:RDef ⟨P,w,K,mg,base⟩ (gC K CP CR CH T XC) "loads_of_shares" 4 ["doers","many","shares"] e_loads_of_shares)(d2:RDef ⟨P,w,K,mg,base⟩ (gC K CP CR CH T XC) "is_kept" 1 ["hands","old","stayed"] e_is_kept)(F:Top K mg "kept_up" (top 38) ["works","doers","many","shares","old_loads"]):RDef ⟨P,w,K,mg,base⟩ (gC K CP CR CH T XC) "kept_up" 12 ["works","doers","many","shares","old_loads"] e_kept_up:=by
 unfold e_kept_up;refine z2q (N:=["works","doers","many","shares","old_loads","dealt","loads","stayed"]) (k:=11) B F ⟨rfl,rfl,rfl,by decide +kernel,rfl,by decide +kernel,by decide +kernel⟩ rfl rfl λf cdv A outer s H E sx W Y=>?_
 walk_at "x"
theorem z2g (B:Bx (gC K CP CR CH T XC) K mg)(aJ:RCst (gC K CP CR CH T XC) mg "NOTHING" (.tup [.int 0,.int 1]))(F:MTop K CH "changes_to" "House.changes_to" (z02 (top 47) 17) ["self","burdens"]):RMet ⟨P,w,K,mg,base⟩ (gC K CP CR CH T XC) 2 "changes_to" 1 ["self","burdens"] e_House_changes_to:=by
 unfold e_House_changes_to;refine z1u (c:=2) (N:=["self","burdens","changes"]) (k:=0) B F ⟨rfl,rfl,rfl,by decide +kernel,rfl,by decide +kernel,by decide +kernel⟩ rfl rfl λf cdv A outer s H E sx W Y=>?_
 walk_at "x"
theorem z4f (B:Bx (gC K CP CR CH T XC) K mg)(d0:RMet ⟨P,w,K,mg,base⟩ (gC K CP CR CH T XC) 1 "hand_names" 1 ["self","numbers"] e_Roll_hand_names)(lf:∀l p,lb l=some p->LamF ⟨P,w,K,mg,base⟩ (gC K CP CR CH T XC) 0 l p.1 p.2)(F:MTop K CR "by_names" "Roll.by_names" (z02 (top 46) 2) ["self","rows","is_above"]):RMet ⟨P,w,K,mg,base⟩ (gC K CP CR CH T XC) 1 "by_names" 2 ["self","rows","is_above"] e_Roll_by_names:=by
 unfold e_Roll_by_names;refine z1u (c:=1) (N:=["self","rows","is_above","told","chore","numbers","row"]) (k:=1) B F ⟨rfl,rfl,rfl,by decide +kernel,rfl,by decide +kernel,by decide +kernel⟩ rfl rfl λf cdv A outer s H E sx W Y=>?_
 walk_at "x"
theorem z4n (B:Bx (gC K CP CR CH T XC) K mg)(d0:RCls ⟨P,w,K,mg,base⟩ (gC K CP CR CH T XC) "Roll" 1 1 ["self","crew","tasks"] e_Roll_init)(d1:RMet ⟨P,w,K,mg,base⟩ (gC K CP CR CH T XC) 2 "old_row" 2 ["self","roll","place","touched"] e_House_old_row)(d2:RDef ⟨P,w,K,mg,base⟩ (gC K CP CR CH T XC) "kept_up" 12 ["works","doers","many","shares","old_loads"] e_kept_up)(d3:RDef ⟨P,w,K,mg,base⟩ (gC K CP CR CH T XC) "loads_of_shares" 4 ["doers","many","shares"] e_loads_of_shares)(d4:RMet ⟨P,w,K,mg,base⟩ (gC K CP CR CH T XC) 2 "changes_to" 1 ["self","burdens"] e_House_changes_to)(d5:RMet ⟨P,w,K,mg,base⟩ (gC K CP CR CH T XC) 1 "by_names" 2 ["self","rows","is_above"] e_Roll_by_names)(aJ:RCst (gC K CP CR CH T XC) mg "NOTHING" (.tup [.int 0,.int 1])){cd:Addr}(lk:LamK mg base cd T)(F:MTopC K CH "settle" "House.settle" (z02 (top 47) 15) ["self","crew","tasks","touched"] cd):RMet ⟨P,w,K,mg,base⟩ (gC K CP CR CH T XC) 2 "settle" 13 ["self","crew","tasks","touched"] e_House_settle:=by
 unfold e_House_settle;refine zun (c:=2) (N:=["self","crew","tasks","touched","roll","many","old_rows","old_loads","dealt","burdens","changes"]) (k:=12) B F ⟨rfl,rfl,rfl,by decide +kernel,rfl,by decide +kernel,by decide +kernel⟩ rfl rfl λf A outer s H E sx W Y=>?_
 walk_at "x"
theorem z2z (B:Bx (gC K CP CR CH T XC) K mg)(d0:RMet ⟨P,w,K,mg,base⟩ (gC K CP CR CH T XC) 2 "settle" 13 ["self","crew","tasks","touched"] e_House_settle)(F:MTop K CH "with_crew" "House.with_crew" (z02 (top 47) 13) ["self","name","is_present"]):RMet ⟨P,w,K,mg,base⟩ (gC K CP CR CH T XC) 2 "with_crew" 14 ["self","name","is_present"] e_House_with_crew:=by
 unfold e_House_with_crew;refine z1u (c:=2) (N:=["self","name","is_present","crew"]) (k:=13) B F ⟨rfl,rfl,rfl,by decide +kernel,rfl,by decide +kernel,by decide +kernel⟩ rfl rfl λf cdv A outer s H E sx W Y=>?_
 walk_at "x"
theorem z7d (B:Bx (gC K CP CR CH T XC) K mg)(d0:RDef ⟨P,w,K,mg,base⟩ (gC K CP CR CH T XC) "need_name" 2 ["thing"] e_need_name)(d1:RMet ⟨P,w,K,mg,base⟩ (gC K CP CR CH T XC) 2 "with_crew" 14 ["self","name","is_present"] e_House_with_crew)(x1:ExcD K mg "Twice" (XC 1))(x2:ExcD K mg "TooMany" (XC 2))(cMOST:RCst (gC K CP CR CH T XC) mg "MOST" (.int 40))(F:MTop K CH "hire" "House.hire" (z02 (top 47) 4) ["self","name"]):RMet ⟨P,w,K,mg,base⟩ (gC K CP CR CH T XC) 2 "hire" 15 ["self","name"] e_House_hire:=by
 unfold e_House_hire;refine z1u (c:=2) (N:=["self","name"]) (k:=14) B F ⟨rfl,rfl,rfl,by decide +kernel,rfl,by decide +kernel,by decide +kernel⟩ rfl rfl λf cdv A outer s H E sx W Y=>?_
 walk_at "x"
theorem z33 (B:Bx (gC K CP CR CH T XC) K mg)(x4:ExcD K mg "NoHand" (XC 4))(F:MTop K CH "need_hand" "House.need_hand" (z02 (top 47) 2) ["self","name"]):RMet ⟨P,w,K,mg,base⟩ (gC K CP CR CH T XC) 2 "need_hand" 1 ["self","name"] e_House_need_hand:=by
 unfold e_House_need_hand;refine z1u (c:=2) (N:=["self","name"]) (k:=0) B F ⟨rfl,rfl,rfl,by decide +kernel,rfl,by decide +kernel,by decide +kernel⟩ rfl rfl λf cdv A outer s H E sx W Y=>?_
 walk_at "x"
theorem z31 (B:Bx (gC K CP CR CH T XC) K mg)(d0:RMet ⟨P,w,K,mg,base⟩ (gC K CP CR CH T XC) 2 "settle" 13 ["self","crew","tasks","touched"] e_House_settle)(F:MTop K CH "with_task" "House.with_task" (z02 (top 47) 14) ["self","chore","work","named"]):RMet ⟨P,w,K,mg,base⟩ (gC K CP CR CH T XC) 2 "with_task" 14 ["self","chore","work","named"] e_House_with_task:=by
 unfold e_House_with_task;refine z1u (c:=2) (N:=["self","chore","work","named","tasks"]) (k:=13) B F ⟨rfl,rfl,rfl,by decide +kernel,rfl,by decide +kernel,by decide +kernel⟩ rfl rfl λf cdv A outer s H E sx W Y=>?_
 walk_at "x"
theorem z8e (B:Bx (gC K CP CR CH T XC) K mg)(d0:RDef ⟨P,w,K,mg,base⟩ (gC K CP CR CH T XC) "need_name" 2 ["thing"] e_need_name)(d1:RMet ⟨P,w,K,mg,base⟩ (gC K CP CR CH T XC) 2 "need_hand" 1 ["self","name"] e_House_need_hand)(d2:RMet ⟨P,w,K,mg,base⟩ (gC K CP CR CH T XC) 2 "with_task" 14 ["self","chore","work","named"] e_House_with_task)(x1:ExcD K mg "Twice" (XC 1))(x2:ExcD K mg "TooMany" (XC 2))(x3:ExcD K mg "NoWork" (XC 3))(x4:ExcD K mg "NoHand" (XC 4))(cMOST:RCst (gC K CP CR CH T XC) mg "MOST" (.int 40))(F:MTop K CH "put" "House.put" (z02 (top 47) 5) ["self","chore","work","names"]):RMet ⟨P,w,K,mg,base⟩ (gC K CP CR CH T XC) 2 "put" 15 ["self","chore","work","names"] e_House_put:=by
 unfold e_House_put;refine z1u (c:=2) (N:=["self","chore","work","names","name"]) (k:=14) B F ⟨rfl,rfl,rfl,by decide +kernel,rfl,by decide +kernel,by decide +kernel⟩ rfl rfl λf cdv A outer s H E sx W Y=>?_
 walk_at "x"
theorem z6g (B:Bx (gC K CP CR CH T XC) K mg)(d0:RMet ⟨P,w,K,mg,base⟩ (gC K CP CR CH T XC) 2 "need_hand" 1 ["self","name"] e_House_need_hand)(d1:RMet ⟨P,w,K,mg,base⟩ (gC K CP CR CH T XC) 2 "with_crew" 14 ["self","name","is_present"] e_House_with_crew)(x6:ExcD K mg "NotSo" (XC 6))(F:MTop K CH "move" "House.move" (z02 (top 47) 12) ["self","name","to_be_there"]):RMet ⟨P,w,K,mg,base⟩ (gC K CP CR CH T XC) 2 "move" 15 ["self","name","to_be_there"] e_House_move:=by
 unfold e_House_move;refine z1u (c:=2) (N:=["self","name","to_be_there"]) (k:=14) B F ⟨rfl,rfl,rfl,by decide +kernel,rfl,by decide +kernel,by decide +kernel⟩ rfl rfl λf cdv A outer s H E sx W Y=>?_
 walk_at "x"
theorem z6o (B:Bx (gC K CP CR CH T XC) K mg)(d0:RMet ⟨P,w,K,mg,base⟩ (gC K CP CR CH T XC) 2 "move" 15 ["self","name","to_be_there"] e_House_move)(F:MTop K CH "away" "House.away" (z02 (top 47) 10) ["self","name"]):RMet ⟨P,w,K,mg,base⟩ (gC K CP CR CH T XC) 2 "away" 16 ["self","name"] e_House_away:=by
 unfold e_House_away;refine z1u (c:=2) (N:=["self","name"]) (k:=15) B F ⟨rfl,rfl,rfl,by decide +kernel,rfl,by decide +kernel,by decide +kernel⟩ rfl rfl λf cdv A outer s H E sx W Y=>?_
 walk_at "x"
theorem z5n (B:Bx (gC K CP CR CH T XC) K mg)(F:MTop K CH "hands" "House.hands" (z02 (top 47) 22) ["self"]):RMet ⟨P,w,K,mg,base⟩ (gC K CP CR CH T XC) 2 "hands" 1 ["self"] e_House_hands:=by
 unfold e_House_hands;refine z1u (c:=2) (N:=["self"]) (k:=0) B F ⟨rfl,rfl,rfl,by decide +kernel,rfl,by decide +kernel,by decide +kernel⟩ rfl rfl λf cdv A outer s H E sx W Y=>?_
 walk_at "x"
theorem z7j (B:Bx (gC K CP CR CH T XC) K mg)(d0:RMet ⟨P,w,K,mg,base⟩ (gC K CP CR CH T XC) 2 "need_hand" 1 ["self","name"] e_House_need_hand)(F:MTop K CH "load" "House.load" (z02 (top 47) 18) ["self","name"]):RMet ⟨P,w,K,mg,base⟩ (gC K CP CR CH T XC) 2 "load" 2 ["self","name"] e_House_load:=by
 unfold e_House_load;refine z1u (c:=2) (N:=["self","name"]) (k:=1) B F ⟨rfl,rfl,rfl,by decide +kernel,rfl,by decide +kernel,by decide +kernel⟩ rfl rfl λf cdv A outer s H E sx W Y=>?_
 walk_at "x"
theorem z4v (B:Bx (gC K CP CR CH T XC) K mg)(F:MTop K CH "chores" "House.chores" (z02 (top 47) 23) ["self"]):RMet ⟨P,w,K,mg,base⟩ (gC K CP CR CH T XC) 2 "chores" 1 ["self"] e_House_chores:=by
 unfold e_House_chores;refine z1u (c:=2) (N:=["self"]) (k:=0) B F ⟨rfl,rfl,rfl,by decide +kernel,rfl,by decide +kernel,by decide +kernel⟩ rfl rfl λf cdv A outer s H E sx W Y=>?_
 walk_at "x"
theorem z2j (B:Bx (gC K CP CR CH T XC) K mg)(x5:ExcD K mg "NoChore" (XC 5))(F:MTop K CH "need_chore" "House.need_chore" (z02 (top 47) 3) ["self","chore"]):RMet ⟨P,w,K,mg,base⟩ (gC K CP CR CH T XC) 2 "need_chore" 1 ["self","chore"] e_House_need_chore:=by
 unfold e_House_need_chore;refine z1u (c:=2) (N:=["self","chore"]) (k:=0) B F ⟨rfl,rfl,rfl,by decide +kernel,rfl,by decide +kernel,by decide +kernel⟩ rfl rfl λf cdv A outer s H E sx W Y=>?_
 walk_at "x"
theorem z4x (B:Bx (gC K CP CR CH T XC) K mg)(d0:RMet ⟨P,w,K,mg,base⟩ (gC K CP CR CH T XC) 2 "need_chore" 1 ["self","chore"] e_House_need_chore)(F:MTop K CH "shares" "House.shares" (z02 (top 47) 19) ["self","chore"]):RMet ⟨P,w,K,mg,base⟩ (gC K CP CR CH T XC) 2 "shares" 2 ["self","chore"] e_House_shares:=by
 unfold e_House_shares;refine z1u (c:=2) (N:=["self","chore"]) (k:=1) B F ⟨rfl,rfl,rfl,by decide +kernel,rfl,by decide +kernel,by decide +kernel⟩ rfl rfl λf cdv A outer s H E sx W Y=>?_
 walk_at "x"
theorem z6s (B:Bx (gC K CP CR CH T XC) K mg)(d0:RMet ⟨P,w,K,mg,base⟩ (gC K CP CR CH T XC) 2 "need_chore" 1 ["self","chore"] e_House_need_chore)(F:MTop K CH "work" "House.work" (z02 (top 47) 20) ["self","chore"]):RMet ⟨P,w,K,mg,base⟩ (gC K CP CR CH T XC) 2 "work" 2 ["self","chore"] e_House_work:=by
 unfold e_House_work;refine z1u (c:=2) (N:=["self","chore"]) (k:=1) B F ⟨rfl,rfl,rfl,by decide +kernel,rfl,by decide +kernel,by decide +kernel⟩ rfl rfl λf cdv A outer s H E sx W Y=>?_
 walk_at "x"
theorem z3f (B:Bx (gC K CP CR CH T XC) K mg)(d0:RMet ⟨P,w,K,mg,base⟩ (gC K CP CR CH T XC) 2 "need_hand" 1 ["self","name"] e_House_need_hand)(F:MTop K CH "is_there" "House.is_there" (z02 (top 47) 21) ["self","name"]):RMet ⟨P,w,K,mg,base⟩ (gC K CP CR CH T XC) 2 "is_there" 2 ["self","name"] e_House_is_there:=by
 unfold e_House_is_there;refine z1u (c:=2) (N:=["self","name"]) (k:=1) B F ⟨rfl,rfl,rfl,by decide +kernel,rfl,by decide +kernel,by decide +kernel⟩ rfl rfl λf cdv A outer s H E sx W Y=>?_
 walk_at "x"
theorem z46 (B:Bx (gC K CP CR CH T XC) K mg)(F:MTop K CH "waiting" "House.waiting" (z02 (top 47) 24) ["self"]):RMet ⟨P,w,K,mg,base⟩ (gC K CP CR CH T XC) 2 "waiting" 1 ["self"] e_House_waiting:=by
 unfold e_House_waiting;refine z1u (c:=2) (N:=["self"]) (k:=0) B F ⟨rfl,rfl,rfl,by decide +kernel,rfl,by decide +kernel,by decide +kernel⟩ rfl rfl λf cdv A outer s H E sx W Y=>?_
 walk_at "x"
theorem z85 (B:Bx (gC K CP CR CH T XC) K mg)(d0:RMet ⟨P,w,K,mg,base⟩ (gC K CP CR CH T XC) 2 "hands" 1 ["self"] e_House_hands)(d1:RMet ⟨P,w,K,mg,base⟩ (gC K CP CR CH T XC) 2 "load" 2 ["self","name"] e_House_load)(d2:RMet ⟨P,w,K,mg,base⟩ (gC K CP CR CH T XC) 2 "chores" 1 ["self"] e_House_chores)(d3:RMet ⟨P,w,K,mg,base⟩ (gC K CP CR CH T XC) 2 "shares" 2 ["self","chore"] e_House_shares)(d4:RMet ⟨P,w,K,mg,base⟩ (gC K CP CR CH T XC) 2 "work" 2 ["self","chore"] e_House_work)(d5:RMet ⟨P,w,K,mg,base⟩ (gC K CP CR CH T XC) 2 "is_there" 2 ["self","name"] e_House_is_there)(d6:RMet ⟨P,w,K,mg,base⟩ (gC K CP CR CH T XC) 2 "waiting" 1 ["self"] e_House_waiting)(F:Top K mg "_law_look" (top 53) ["_law_house"]):RDef ⟨P,w,K,mg,base⟩ (gC K CP CR CH T XC) "_law_look" 3 ["_law_house"] e__law_look:=by
 unfold e__law_look;refine z2q (N:=["_law_house","_law_loads","_law_shares","_law_works","_law_there"]) (k:=2) B F ⟨rfl,rfl,rfl,by decide +kernel,rfl,by decide +kernel,by decide +kernel⟩ rfl rfl λf cdv A outer s H E sx W Y=>?_
 walk_at "x"
theorem za7 (B:Bx (gC K CP CR CH T XC) K mg)(F:Top K mg "_law_odd" (top 51) ["_law_cell"]):RDef ⟨P,w,K,mg,base⟩ (gC K CP CR CH T XC) "_law_odd" 1 ["_law_cell"] e__law_odd:=by
 unfold e__law_odd;refine z2q (N:=["_law_cell"]) (k:=0) B F ⟨rfl,rfl,rfl,by decide +kernel,rfl,by decide +kernel,by decide +kernel⟩ rfl rfl λf cdv A outer s H E sx W Y=>?_
 walk_at "x"
theorem z7c (B:Bx (gC K CP CR CH T XC) K mg)(d0:RDef ⟨P,w,K,mg,base⟩ (gC K CP CR CH T XC) "_law_odd" 1 ["_law_cell"] e__law_odd)(F:Top K mg "_law_wrong" (top 52) ["_law_cell","_law_hands","_law_chores","_law_gone"]):RDef ⟨P,w,K,mg,base⟩ (gC K CP CR CH T XC) "_law_wrong" 2 ["_law_cell","_law_hands","_law_chores","_law_gone"] e__law_wrong:=by
 unfold e__law_wrong;refine z2q (N:=["_law_cell","_law_hands","_law_chores","_law_gone","_law_hand","_law_chore","_law_work","_law_odd_here","_law_less","_law_some"]) (k:=1) B F ⟨rfl,rfl,rfl,by decide +kernel,rfl,by decide +kernel,by decide +kernel⟩ rfl rfl λf cdv A outer s H E sx W Y=>?_
 walk_at "x"
theorem z6f (B:Bx (gC K CP CR CH T XC) K mg)(d0:RMet ⟨P,w,K,mg,base⟩ (gC K CP CR CH T XC) 2 "need_chore" 1 ["self","chore"] e_House_need_chore)(d1:RMet ⟨P,w,K,mg,base⟩ (gC K CP CR CH T XC) 2 "settle" 13 ["self","crew","tasks","touched"] e_House_settle)(F:MTop K CH "drop" "House.drop" (z02 (top 47) 6) ["self","chore"]):RMet ⟨P,w,K,mg,base⟩ (gC K CP CR CH T XC) 2 "drop" 14 ["self","chore"] e_House_drop:=by
 unfold e_House_drop;refine z1u (c:=2) (N:=["self","chore","tasks"]) (k:=13) B F ⟨rfl,rfl,rfl,by decide +kernel,rfl,by decide +kernel,by decide +kernel⟩ rfl rfl λf cdv A outer s H E sx W Y=>?_
 walk_at "x"
theorem z76 (B:Bx (gC K CP CR CH T XC) K mg)(d0:RMet ⟨P,w,K,mg,base⟩ (gC K CP CR CH T XC) 2 "need_chore" 1 ["self","chore"] e_House_need_chore)(d1:RMet ⟨P,w,K,mg,base⟩ (gC K CP CR CH T XC) 2 "with_task" 14 ["self","chore","work","named"] e_House_with_task)(x3:ExcD K mg "NoWork" (XC 3))(F:MTop K CH "grow" "House.grow" (z02 (top 47) 9) ["self","chore","work","sign"]):RMet ⟨P,w,K,mg,base⟩ (gC K CP CR CH T XC) 2 "grow" 15 ["self","chore","work","sign"] e_House_grow:=by
 unfold e_House_grow;refine z1u (c:=2) (N:=["self","chore","work","sign","task","after"]) (k:=14) B F ⟨rfl,rfl,rfl,by decide +kernel,rfl,by decide +kernel,by decide +kernel⟩ rfl rfl λf cdv A outer s H E sx W Y=>?_
 walk_at "x"
theorem z6j (B:Bx (gC K CP CR CH T XC) K mg)(d0:RMet ⟨P,w,K,mg,base⟩ (gC K CP CR CH T XC) 2 "grow" 15 ["self","chore","work","sign"] e_House_grow)(F:MTop K CH "more" "House.more" (z02 (top 47) 7) ["self","chore","work"]):RMet ⟨P,w,K,mg,base⟩ (gC K CP CR CH T XC) 2 "more" 16 ["self","chore","work"] e_House_more:=by
 unfold e_House_more;refine z1u (c:=2) (N:=["self","chore","work"]) (k:=15) B F ⟨rfl,rfl,rfl,by decide +kernel,rfl,by decide +kernel,by decide +kernel⟩ rfl rfl λf cdv A outer s H E sx W Y=>?_
 walk_at "x"
theorem z63 (B:Bx (gC K CP CR CH T XC) K mg)(d0:RMet ⟨P,w,K,mg,base⟩ (gC K CP CR CH T XC) 2 "grow" 15 ["self","chore","work","sign"] e_House_grow)(F:MTop K CH "fewer" "House.fewer" (z02 (top 47) 8) ["self","chore","work"]):RMet ⟨P,w,K,mg,base⟩ (gC K CP CR CH T XC) 2 "fewer" 16 ["self","chore","work"] e_House_fewer:=by
 unfold e_House_fewer;refine z1u (c:=2) (N:=["self","chore","work"]) (k:=15) B F ⟨rfl,rfl,rfl,by decide +kernel,rfl,by decide +kernel,by decide +kernel⟩ rfl rfl λf cdv A outer s H E sx W Y=>?_
 walk_at "x"
theorem z6b (B:Bx (gC K CP CR CH T XC) K mg)(d0:RMet ⟨P,w,K,mg,base⟩ (gC K CP CR CH T XC) 2 "move" 15 ["self","name","to_be_there"] e_House_move)(F:MTop K CH "back" "House.back" (z02 (top 47) 11) ["self","name"]):RMet ⟨P,w,K,mg,base⟩ (gC K CP CR CH T XC) 2 "back" 16 ["self","name"] e_House_back:=by
 unfold e_House_back;refine z1u (c:=2) (N:=["self","name"]) (k:=15) B F ⟨rfl,rfl,rfl,by decide +kernel,rfl,by decide +kernel,by decide +kernel⟩ rfl rfl λf cdv A outer s H E sx W Y=>?_
 walk_at "x"
theorem z4u (B:Bx (gC K CP CR CH T XC) K mg)(d0:RMet ⟨P,w,K,mg,base⟩ (gC K CP CR CH T XC) 2 "need_chore" 1 ["self","chore"] e_House_need_chore)(F:MTop K CH "pieces" "House.pieces" (z02 (top 47) 26) ["self","chore"]):RMet ⟨P,w,K,mg,base⟩ (gC K CP CR CH T XC) 2 "pieces" 2 ["self","chore"] e_House_pieces:=by
 unfold e_House_pieces;refine z1u (c:=2) (N:=["self","chore","roll","numbers"]) (k:=1) B F ⟨rfl,rfl,rfl,by decide +kernel,rfl,by decide +kernel,by decide +kernel⟩ rfl rfl λf cdv A outer s H E sx W Y=>?_
 walk_at "x"
theorem z6z (B:Bx (gC K CP CR CH T XC) K mg)(d0:RMet ⟨P,w,K,mg,base⟩ (gC K CP CR CH T XC) 2 "hire" 15 ["self","name"] e_House_hire)(d1:RMet ⟨P,w,K,mg,base⟩ (gC K CP CR CH T XC) 2 "put" 15 ["self","chore","work","names"] e_House_put)(d2:RMet ⟨P,w,K,mg,base⟩ (gC K CP CR CH T XC) 2 "drop" 14 ["self","chore"] e_House_drop)(d3:RMet ⟨P,w,K,mg,base⟩ (gC K CP CR CH T XC) 2 "more" 16 ["self","chore","work"] e_House_more)(d4:RMet ⟨P,w,K,mg,base⟩ (gC K CP CR CH T XC) 2 "fewer" 16 ["self","chore","work"] e_House_fewer)(d5:RMet ⟨P,w,K,mg,base⟩ (gC K CP CR CH T XC) 2 "away" 16 ["self","name"] e_House_away)(d6:RMet ⟨P,w,K,mg,base⟩ (gC K CP CR CH T XC) 2 "back" 16 ["self","name"] e_House_back)(d7:RMet ⟨P,w,K,mg,base⟩ (gC K CP CR CH T XC) 2 "load" 2 ["self","name"] e_House_load)(d8:RMet ⟨P,w,K,mg,base⟩ (gC K CP CR CH T XC) 2 "shares" 2 ["self","chore"] e_House_shares)(d9:RMet ⟨P,w,K,mg,base⟩ (gC K CP CR CH T XC) 2 "work" 2 ["self","chore"] e_House_work)(d10:RMet ⟨P,w,K,mg,base⟩ (gC K CP CR CH T XC) 2 "pieces" 2 ["self","chore"] e_House_pieces)(d11:RMet ⟨P,w,K,mg,base⟩ (gC K CP CR CH T XC) 2 "is_there" 2 ["self","name"] e_House_is_there)(F:Top K mg "_law_asked" (top 49) ["_law_house","_law_deed"]):RDef ⟨P,w,K,mg,base⟩ (gC K CP CR CH T XC) "_law_asked" 17 ["_law_house","_law_deed"] e__law_asked:=by
 unfold e__law_asked;refine z2q (N:=["_law_house","_law_deed","_law_word"]) (k:=16) B F ⟨rfl,rfl,rfl,by decide +kernel,rfl,by decide +kernel,by decide +kernel⟩ rfl rfl λf cdv A outer s H E sx W Y=>?_
 walk_at "x"
theorem z73 (B:Bx (gC K CP CR CH T XC) K mg)(d0:RDef ⟨P,w,K,mg,base⟩ (gC K CP CR CH T XC) "_law_asked" 17 ["_law_house","_law_deed"] e__law_asked)(ix:IsXs (gC K CP CR CH T XC) K mg xnm 10){D0:Addr}(yy:∀c,yk c=true->ExcY K mg "YokeError" D0 (XC c))(F:Top K mg "_law_class" (top 50) ["_law_house","_law_deed"]):RDef ⟨P,w,K,mg,base⟩ (gC K CP CR CH T XC) "_law_class" 18 ["_law_house","_law_deed"] e__law_class:=by
 unfold e__law_class;refine z2q (N:=["_law_house","_law_deed","_law_caught","e","_law_names"]) (k:=17) B F ⟨rfl,rfl,rfl,by decide +kernel,rfl,by decide +kernel,by decide +kernel⟩ rfl rfl λf cdv A outer s H E sx W Y=>?_
 walk_at "x"
theorem z6q (B:Bx (gC K CP CR CH T XC) K mg)(d0:RMet ⟨P,w,K,mg,base⟩ (gC K CP CR CH T XC) 2 "hire" 15 ["self","name"] e_House_hire)(d1:RMet ⟨P,w,K,mg,base⟩ (gC K CP CR CH T XC) 2 "put" 15 ["self","chore","work","names"] e_House_put)(d2:RMet ⟨P,w,K,mg,base⟩ (gC K CP CR CH T XC) 2 "load" 2 ["self","name"] e_House_load)(d3:RMet ⟨P,w,K,mg,base⟩ (gC K CP CR CH T XC) 2 "work" 2 ["self","chore"] e_House_work)(d4:RMet ⟨P,w,K,mg,base⟩ (gC K CP CR CH T XC) 2 "hands" 1 ["self"] e_House_hands)(d5:RMet ⟨P,w,K,mg,base⟩ (gC K CP CR CH T XC) 2 "chores" 1 ["self"] e_House_chores)(F:Top K mg "_law_taken" (top 56) ["_law_house"]):RDef ⟨P,w,K,mg,base⟩ (gC K CP CR CH T XC) "_law_taken" 16 ["_law_house"] e__law_taken:=by
 unfold e__law_taken;refine z2q (N:=["_law_house","_law_many","_law_name"]) (k:=15) B F ⟨rfl,rfl,rfl,by decide +kernel,rfl,by decide +kernel,by decide +kernel⟩ rfl rfl λf cdv A outer s H E sx W Y=>?_
 walk_at "x"
theorem z2f (B:Bx (gC K CP CR CH T XC) K mg)(d0:RCls ⟨P,w,K,mg,base⟩ (gC K CP CR CH T XC) "House" 2 1 ["self"] e_House_init)(d1:RMet ⟨P,w,K,mg,base⟩ (gC K CP CR CH T XC) 2 "hire" 15 ["self","name"] e_House_hire)(d2:RMet ⟨P,w,K,mg,base⟩ (gC K CP CR CH T XC) 2 "away" 16 ["self","name"] e_House_away)(d3:RMet ⟨P,w,K,mg,base⟩ (gC K CP CR CH T XC) 2 "put" 15 ["self","chore","work","names"] e_House_put)(d4:RDef ⟨P,w,K,mg,base⟩ (gC K CP CR CH T XC) "_law_class" 18 ["_law_house","_law_deed"] e__law_class)(d5:RMet ⟨P,w,K,mg,base⟩ (gC K CP CR CH T XC) 2 "load" 2 ["self","name"] e_House_load)(d6:RMet ⟨P,w,K,mg,base⟩ (gC K CP CR CH T XC) 2 "waiting" 1 ["self"] e_House_waiting)(F:Top K mg "_law_full_chores" (top 55) ["_law_first"]):RDef ⟨P,w,K,mg,base⟩ (gC K CP CR CH T XC) "_law_full_chores" 19 ["_law_first"] e__law_full_chores:=by
 unfold e__law_full_chores;refine z2q (N:=["_law_first","_law_house","_law_letters","_law_k"]) (k:=18) B F ⟨rfl,rfl,rfl,by decide +kernel,rfl,by decide +kernel,by decide +kernel⟩ rfl rfl λf cdv A outer s H E sx W Y=>?_
 walk_at "x"
theorem z7k (B:Bx (gC K CP CR CH T XC) K mg)(d0:RCls ⟨P,w,K,mg,base⟩ (gC K CP CR CH T XC) "House" 2 1 ["self"] e_House_init)(d1:RMet ⟨P,w,K,mg,base⟩ (gC K CP CR CH T XC) 2 "hire" 15 ["self","name"] e_House_hire)(d2:RDef ⟨P,w,K,mg,base⟩ (gC K CP CR CH T XC) "_law_class" 18 ["_law_house","_law_deed"] e__law_class)(d3:RMet ⟨P,w,K,mg,base⟩ (gC K CP CR CH T XC) 2 "hands" 1 ["self"] e_House_hands)(F:Top K mg "_law_full" (top 54) ["_law_first"]):RDef ⟨P,w,K,mg,base⟩ (gC K CP CR CH T XC) "_law_full" 19 ["_law_first"] e__law_full:=by
 unfold e__law_full;refine z2q (N:=["_law_first","_law_house","_law_letters","_law_k"]) (k:=18) B F ⟨rfl,rfl,rfl,by decide +kernel,rfl,by decide +kernel,by decide +kernel⟩ rfl rfl λf cdv A outer s H E sx W Y=>?_
 walk_at "x"
theorem ztg (B:Bx (gC K CP CR CH T XC) K mg)(d0:RCls ⟨P,w,K,mg,base⟩ (gC K CP CR CH T XC) "House" 2 1 ["self"] e_House_init)(d1:RMet ⟨P,w,K,mg,base⟩ (gC K CP CR CH T XC) 2 "hire" 15 ["self","name"] e_House_hire)(d2:RMet ⟨P,w,K,mg,base⟩ (gC K CP CR CH T XC) 2 "put" 15 ["self","chore","work","names"] e_House_put)(d3:RMet ⟨P,w,K,mg,base⟩ (gC K CP CR CH T XC) 2 "away" 16 ["self","name"] e_House_away)(d4:RDef ⟨P,w,K,mg,base⟩ (gC K CP CR CH T XC) "_law_look" 3 ["_law_house"] e__law_look)(d5:RDef ⟨P,w,K,mg,base⟩ (gC K CP CR CH T XC) "_law_wrong" 2 ["_law_cell","_law_hands","_law_chores","_law_gone"] e__law_wrong)(d6:RDef ⟨P,w,K,mg,base⟩ (gC K CP CR CH T XC) "_law_class" 18 ["_law_house","_law_deed"] e__law_class)(d7:RDef ⟨P,w,K,mg,base⟩ (gC K CP CR CH T XC) "_law_taken" 16 ["_law_house"] e__law_taken)(d8:RDef ⟨P,w,K,mg,base⟩ (gC K CP CR CH T XC) "_law_full_chores" 19 ["_law_first"] e__law_full_chores)(d9:RDef ⟨P,w,K,mg,base⟩ (gC K CP CR CH T XC) "_law_full" 19 ["_law_first"] e__law_full){f:Addr}{fd:FuncData}(F:Fun K "law" "law" (top 57) f fd):FnOk P w K mg base (CXg P w) 20 f fd ["_law_script"] (spR (gC K CP CR CH T XC) e_law):=by
 unfold e_law;refine z64 (N:=["_law_script","_law_first","_law_house","_law_hands","_law_name","_law_chores","_law_work","_law_gone","_law_there","_law_before","_law_cell","_law_wrong_here","_law_due"]) (k:=19) B F ⟨rfl,rfl,rfl,by decide +kernel,rfl,by decide +kernel,by decide +kernel⟩ rfl λf cdv A outer s H E sx W Y=>?_
 walk_at "x"
end
end My
set_option Elab.async false
set_option linter.all false
set_option maxRecDepth 100000
namespace L2.EX
open PySem PySem.Spec PyProof.Rows
abbrev FA (K:y00)(x q:Str)(st:Stmt)(f:Addr):Prop:=∃(oc:Value) (od:Option Addr) (kV doc pm:Value) (an:Option Addr) (cdv ct:Value) (osl:Array (Option Value)),
 K.lookup f=some ⟨oc,od,.func (y19 x q (z0y st) (z0o st) (z0a st) .none kV doc pm an cdv ct),osl⟩/\y1n K cdv q=true/\y0w K (.ref f)=true
abbrev FT (K:y00)(x:Str)(st:Stmt):Prop:=∃f,y1s K mainGlobals x=some (some (.ref f))/\FA K x x st f
abbrev FM (K:y00)(C:Addr)(x q:Str)(st:Stmt):Prop:=∃f,y0i K (.ref C) x=some (some (.ref f))/\y2u K (.ref f)=true/\FA K x q st f
abbrev BA (x q:Str)(st:Stmt)(ps:List Str):Prop:=∀(kV doc pm:Value) (an:Option Addr) (cdv ct:Value) (us:List Value),us.length=ps.length->bindArgs (y19 x q (z0y st) (z0o st) (z0a st) .none kV doc pm an cdv ct) ⟨us,[]⟩=pure (ps.zip us)
theorem ft_mk {K:y00}{x:Str}{st:Stmt}{f:Addr}{oc:Value}{od an:Option Addr}{osl:Array (Option Value)}{kV doc pm cdv ct:Value}(a:y1s K mainGlobals x=some (some (.ref f)))
  (l:K.lookup f=some ⟨oc,od,.func (y19 x x (z0y st) (z0o st) (z0a st) .none kV doc pm an cdv ct),osl⟩) (c:y1n K cdv x=true) (k:y0w K (.ref f)=true):FT K x st :=
 ⟨f,a,oc,od,kV,doc,pm,an,cdv,ct,osl,l,c,k⟩
theorem fm_mk {K:y00}{C:Addr}{x q:Str}{st:Stmt}{f:Addr}{oc:Value}{od an:Option Addr}{osl:Array (Option Value)}{kV doc pm cdv ct:Value}(a:y0i K (.ref C) x=some (some (.ref f)))
  (l:K.lookup f=some ⟨oc,od,.func (y19 x q (z0y st) (z0o st) (z0a st) .none kV doc pm an cdv ct),osl⟩) (c:y1n K cdv q=true) (k:y0w K (.ref f)=true) (i:y2u K (.ref f)=true):FM K C x q st :=
 ⟨f,a,i,oc,od,kV,doc,pm,an,cdv,ct,osl,l,c,k⟩
theorem z0k {K:y00}{mg:Str->Option Value}{h:Heap}{x:Str}{st:Stmt}(ps:List Str)(X:K.In h)(G:h.Ns mainGlobals mg)(t:FT K x st)(b:BA x x st ps):Top K mg x st ps:=by
 obtain⟨f,a,oc,od,kV,doc,pm,an,cdv,ct,osl,l,c,k⟩:=t;exact zng X G a l c k b
theorem z0e {K:y00}{C:Addr}{x q:Str}{st:Stmt}(ps:List Str)(t:FM K C x q st)(cl:Cls K C)(b:BA x q st ps):MTop K C x q st ps:=by
 obtain⟨f,a,i,oc,od,kV,doc,pm,an,cdv,ct,osl,l,c,k⟩:=t;exact⟨⟨f,_,z3b l c k,(z3b l c k).binds b,⟨a,i,k⟩⟩,cl⟩
end L2.EX
set_option Elab.async false
set_option linter.all false
set_option maxRecDepth 100000
namespace L2.RX
open PySem PySem.Spec PyProof.Rows L2.EX
def zt9 (K:y00):Bool:=K.all λp=>match p.2.cls with
 | .type "list"=>false
 | _=>true
theorem zcl {P:Program}{w:World}{K:y00}{mg mb:Str->Option Value}{k:Nat}{fa a:Addr}{fd:FuncData}{x:Str}{C:CT}{ev:List D->TH->R D}{s₁:Shared}{vs:List Value}{ns:List Int}{ts:List (Addr×Str)}
  (KX:K.In s₁.heap) (hns:s₁.heap.Ns mainGlobals mg) (hb:s₁.heap.Ns builtinsNs mb) (hbb:∀x:Str,x ≠ "__name__"->mb x=bootBuiltins x) (hlim:s₁.heap.NoLimit) (hg:s₁.gens = #[])
  (ha:s₁.heap.get? a=some { cls:=.type "list",data:=.seq vs.toArray }) (hi:IntsAre vs ns) (hl:ns.length≤sizeLine) (hr:Room k callerA)
  (hka:K.lookup a=none) (hkt:y5u K=true) (htab:∀b q,ts.lookup b=some q->s₁.heap.get? b=some (y3r #[])/\isCodeTable s₁.heap b/\s₁.heap.BuiltinsAt mg b)
  (hC:∀k,k<C.nl->ts.lookup (C.tb k)=some (C.lm k).qual)
  (F:∀base:Heap,K.In base->base.Ns mainGlobals mg->(∀b q,ts.lookup b=some q->base.BuiltinsAt mg b)->FnOk P w K mg base (CXg P w) k fa fd [x] (spR C ev)) (hbind:∀(s:Shared) (u:Value),BindsTo s fd ⟨[u],[]⟩ [(x,u)])
  (hev:∃h,ev [.at 0] [.mr ns] = .ok (.bl true) h) :
  codeAny (model P w) callerA (.call (.ref fa) ⟨[.ref a],[]⟩) (λr s'=>r = .ok (.ret (.bool true))/\OldK s₁.heap s'.heap/\s'.os=s₁.os/\AllBare s'.gens) s₁:=by
 have rv:=z41 hi;have lenV:=hi.length
 have na:ts.lookup a=none:=by
  cases z:ts.lookup a with
  | none=>rfl
  | some q =>
   have:=(htab a q z).1;rw[ha] at this;cases this
 let so:Obj:={ cls:=.type "list",data:=.seq vs.toArray }
 let H:Hp:=λb=>if b=a then some (.frz so (.lst (ns.map V.int))) else (ts.lookup b).map λ_=>HO.tbl #[]
 have Ha:H a=some (.frz so (.lst (ns.map V.int))):=if_pos rfl;have Ht:∀{b q},ts.lookup b=some q->H b=some (.tbl #[]):=λ{b q} e=>by
  show(if b=a then _ else _)=_
  rw[if_neg (λz=>by rw[z,na] at e;cases e),e]
  rfl
 have Hn:∀{b},b≠a->ts.lookup b=none->H b=none:=λ{b} n e=>by
  show(if b=a then _ else _)=_
  rw[if_neg n,e];rfl
 have sp:∀b,(b=a∨∃q,ts.lookup b=some q)∨(b≠a/\ts.lookup b=none):=λb=>by
  by_cases z:b=a
  ·exact .inl (.inl z)
  ·cases y:ts.lookup b with
   | none=>exact .inr ⟨z,rfl⟩
   | some q=>exact .inl (.inr ⟨q,rfl⟩)
 have hok:HOk P w H s₁.heap:=λb u e=>by
  rcases sp b with (rfl | ⟨q,y⟩) | ⟨n,y⟩
  ·rw[Ha] at e;cases e;exact⟨ha,by rw[y0e];exact hl,vs,_,rv,ha⟩
  ·rw[Ht y] at e;cases e;exact(htab b q y).1
  ·rw[Hn n y] at e;cases e
 have free:∀{b:Addr} {o:Obj},s₁.heap.get? b=some o->(∀m n,o.data ≠ .seq m n)->(∀m,o.cls = .none->o.data ≠ .fields m)->H b=none:=λ{b o} e d1 d2=>by
  rcases sp b with (rfl | ⟨q,y⟩) | ⟨n,y⟩
  ·rw[ha] at e;cases e;exact absurd rfl (d1 _ _)
  ·rw[(htab b q y).1] at e;cases e;exact absurd rfl (d2 _ rfl)
  ·exact Hn n y
 have nsK:∀{b:Addr} {m:Str->Option Value},s₁.heap.Ns b m->(z9m s₁.heap H).Ns b m:=λ{b m} ⟨o,es,ep,e,d,r⟩=>⟨o,es,ep,z3i e (free e (λ_ _ z=>by rw[d] at z;cases z) λ_ _ z=>by rw[d] at z;cases z),d,r⟩
 have hKb:K.In (z9m s₁.heap H):=λb o e=>z3i (KX b o e) (by
  rcases sp b with (rfl | ⟨q,y⟩) | ⟨n,y⟩
  ·rw[hka] at e;cases e
  ·have h1:=KX b o e;rw[(htab b q y).1] at h1;cases h1;exact absurd (show false=true from y1t.mp hkt _ (y4f e)) y0t
  ·exact Hn n y)
 have hM:Mod K mg (z9m s₁.heap H):=⟨hKb,nsK hns,⟨mb,nsK hb,hbb⟩,let ⟨mc,h1,h2⟩:=hlim;⟨mc,nsK h1,h2⟩⟩
 have e0:Env0 P w K mg (z9m s₁.heap H) callerA [] s₁ H:=⟨rfl,hM,λb o e=>zb8 e,y3j (z7b _ _),trivial,λb hb=>absurd (show b∈([]:List Addr) from hb) (by simp),hok,.of_eq hg⟩
 have hB:∀b q,ts.lookup b=some q->(z9m s₁.heap H).BuiltinsAt mg b:=λb q y=>by
  obtain⟨bm,o,b1,b2,b3,b4,b5,b6,b7,b8⟩:=(htab b q y).2.2;exact⟨bm,o,b1,b2,b3,b4,z3i b5 (free b5 (λ_ _ z=>by rw[b8] at z;cases z) λ_ _ z=>by rw[b8] at z;cases z),b6,b7,b8⟩
 have R0:Rl C ⟨[a],[.mr ns],H⟩:=⟨rfl,λi j b _ _ e1 e2=>by
   have:=(y01.mp e1).1;have:=(y01.mp e2).1
   simp at *;omega,λi o b e1 e2=>by
   match i,e1,e2 with
   | 0,e1,e2=>cases e1;cases e2;exact⟨so,Ha⟩
   | i+1,e1,_=>simp at e1,λk hk=>⟨#[],Ht (hC k hk),trivial,λpos c z=>by cases z⟩,λi b k l e hk z=>by
   match i,e with
   | 0,e=>cases e;rw[←z,hC k hk] at na;cases na
   | i+1,e=>simp at e⟩
 have hs:spR C ev [.ref a] H (λv _=>v = .bl true) λ_ _ _=>False:=by
  obtain⟨h,hev⟩:=hev;refine⟨⟨[a],[.mr ns],H⟩,[.at 0],rfl,R0,⟨_,[],rfl,⟨a,rfl,rfl⟩,rfl⟩,?_⟩;show(ev [.at 0] [.mr ns]).sat _ _;rw[hev];exact λ_ i=>i
 refine codeAny_mono ((F _ hKb (nsK hns) hB).run callerA [] s₁ H ⟨[.ref a],[]⟩ [.ref a] [.ref a] _ _ hr e0 (hbind s₁ (.ref a)) (.cons rfl .nil) hs) λr s' h=>?_;cases r with
 | error e=>obtain⟨_,_,_,_,_,_,_,_,_,_,_,z,_⟩:=h;exact z.elim
 | ok fl =>
  cases fl with
  | next=>exact False.elim h
  | brk=>exact False.elim h
  | cont=>exact False.elim h
  | ret u =>
   obtain⟨v,H',os,bare,un,hok',r',q⟩:=h;have q':v = .bl true:=q;subst q';obtain rfl:u=Value.bool true:=r';refine⟨rfl,⟨λb o e=>?_,λb o e=>un.there b o e (by simp)⟩,os,bare⟩
   rcases sp b with (rfl | ⟨q,y⟩) | ⟨n,y⟩
   ·have z2:=un.frzs b so _ Ha;obtain⟨e2,_⟩:=hok' b _ z2;rw[ha] at e;cases e;exact .inl e2
   ·obtain⟨more,z2⟩:=un.tbls b #[] (Ht y);have e2:s'.heap.get? b=some { cls:=.none,data:=.fields (#[]++more) }:=hok' b _ z2;have e3:=(htab b q y).1
    rw[e3] at e;cases e;exact .inr (.inl ⟨(htab b q y).2.1,rfl,#[],more,rfl,e2⟩)
   ·exact .inl (un.keep b o e (Hn n y) (by intro z;exact absurd (show b∈([]:List Addr) from z) (by simp)) (by simp))
theorem walk_ofR {l:y4i}{n k:Nat}{q:Program}{aW:List Str}{XP:(Str->Option Value)->Heap->Prop}{YP:World->Heap->Prop}{d:DefRec}{K:Params->y00}{ev:List D->TH->R D}{x:Str}{ts:List (Addr×Str)}
  (hn:l.most=some n) (hn2:n≤sizeLine) (hdf:d.params.defaults = []) (hr:Room k callerA)
  (hY:∀(w:World) (h:Heap),YP w h->(K w.params).In h) (hT:∀(w:World) (h:Heap),YP w h->∀b q,ts.lookup b=some q->h.get? b=some (y3r #[]))
  (hC:∀(w:World) b q,ts.lookup b=some q->∃c,y4b (K w.params) c b=true) (hkt:∀w:World,y5u (K w.params)=true) (hkl:∀w:World,zt9 (K w.params)=true)
  (F:∀(w:World) (mg:Str->Option Value) (fa:Addr) (h:Heap),(K w.params).In h->h.Ns mainGlobals mg->mg d.name=some (.ref fa) ->
   ∃(C:CT) (fd:FuncData),(∀k,k<C.nl->ts.lookup (C.tb k)=some (C.lm k).qual)/\(∀(s:Shared) (u:Value),BindsTo s fd ⟨[u],[]⟩ [(x,u)]) /\
    ∀base:Heap,(K w.params).In base->base.Ns mainGlobals mg->(∀b q,ts.lookup b=some q->base.BuiltinsAt mg b)->FnOk l.prog w (K w.params) mg base (CXg l.prog w) k fa fd [x] (spR C ev))
  (hev:∀ns:List Int,ns.length≤n->∃h,ev [.at 0] [.mr ns] = .ok (.bl true) h) :
  y54 q aW XP YP l.row.toRowW d [] (λf vs=>y5c f vs):=by
 refine Att.attach_call hn hdf λw s₀ s₁ mg mb fa o pm cd doc a vs ns G Y ho hd hcd hmg hobj hints ap hg=>?_;have KX:=hY w _ Y;obtain⟨C,fd,hc,hb,hF⟩:=F w mg fa _ KX G.T.g hmg;obtain⟨bm,ob,b1,b2,b4,b5,b6,b7⟩:=G.T.bmain;refine zcl (ts:=ts) KX G.T.g G.T.b G.T.builtins G.T.nolimit hg hobj hints (y0j ap hn2) hr ?_ (hkt w) (λb q y=>?_) hc hF hb (hev ns ap)
 ·cases z:(K w.params).lookup a with
  | none=>rfl
  | some o =>
   have h1:=KX a o z;rw[hobj] at h1;cases h1;exact absurd (show false=true from y1t.mp (hkl w) _ (y4f z)) y0t
 ·have t:=hT w _ Y b q y;obtain⟨c,hc⟩:=hC w b q y;obtain⟨o,vs,file,tf,flags,tg,inF,text,tt,e1,r1,r2,r3,_⟩:=y51 KX hc;refine⟨t,⟨c,o,vs,e1,r1,r2,r3⟩,bm,ob,b1,b2,λz=>?_,λz=>?_,b4,b5,b6,b7⟩
  ·obtain⟨o2,es,ep,g1,g2,_⟩:=G.T.g;rw[z,g1] at b4;cases b4;rw[b7] at g2;cases g2
  ·rw[z,t] at b4;cases b4;cases b5
section
variable {K:y00}{mg:Str->Option Value}{h base:Heap}{x y q:Str}{C c T:Addr}{ps:List Str}{st:Stmt}
def adr (K:y00)(x:Str):Addr:=match y1s K mainGlobals x with
 | some (some (.ref a))=>a
 | _=>0
def okN (K:y00)(x:Str):Bool:=match y1s K mainGlobals x with
 | some (some (.ref _))=>true
 | _=>false
theorem zdg (X:K.In h)(G:h.Ns mainGlobals mg)(e:okN K x=true):mg x=some (.ref (adr K x)):=by
 refine y29 X G ?_;unfold okN at e;unfold adr
 split at e
 ·rename_i a z;rw[z]
 ·cases e
def okB (K:y00)(x:Str):Bool:=match y1s K mainGlobals x with
 | some none=>true
 | _=>false
theorem zmg (X:K.In h)(G:h.Ns mainGlobals mg)(e:okB K x=true):mg x=none:=by
 refine PySem.W.mg_none_of X G ?_;unfold okB at e
 split at e
 ·rename_i z;exact z
 ·cases e
def okC (K:y00)(C:Addr)(fs:List Str):Bool:=y2p K C Str.empty&&y2z K C&&y3t K C&&(y0i K (.ref C) "__setattr__"==some (some (.builtin "object.__setattr__")))&&y2v K C&&y0w K (.ref C)&&fs.all λf=>y0i K (.ref C) f==some none
theorem zcy {fs:List Str}(e:okC K C fs=true):Cls K C/\y2v K C=true/\y0w K (.ref C)=true/\∀f,fs.contains f=true->ClsF K C f:=by
 unfold okC at e;simp only[y09,beq_iff_eq,y1t] at e;obtain⟨⟨⟨⟨⟨⟨e1,e2⟩,e3⟩,e4⟩,e5⟩,e6⟩,e7⟩:=e;exact⟨⟨e1,e2,e3,e4⟩,e5,e6,λf hf=>⟨⟨e1,e2,e3,e4⟩,e7 f (y35.mp hf)⟩⟩
def okE (K:y00)(YE C:Addr):Bool:=(y0i K (.ref C) "__getattribute__"==some (some (.builtin "BaseException.__getattribute__")))&&(y0i K (.ref C) "__getattr__"==some none)&&(y0i K (.ref C) "__class__"==some (some (.builtin "object.__class__")))&&(y31 K (.builtin "object.__class__") "__get__"==some (some (.builtin "getset_descriptor.__get__")))&&(y4h K (.builtin "object.__class__")==some true)&&(y1v K C (.type "object")==some true)&&(y1v K C (.type "BaseException")==some true)&&(y2j K C).isSome&&y41 K C bmV "ValueError.__new__"&&(y1v K C (.ref YE)==some true)&&(y1b K (.ref C) (.type "ValueError")==some true)
theorem z79 {YE:Addr}(e:okE K YE C=true):ExcK K C/\y41 K C bmV "ValueError.__new__"=true/\y1v K C (.ref YE)=some true/\y1b K (.ref C) (.type "ValueError")=some true:=by
 unfold okE at e;simp only[y09,beq_iff_eq] at e;obtain⟨⟨⟨⟨⟨⟨⟨⟨⟨⟨e1,e2⟩,e3⟩,e4⟩,e5⟩,e6⟩,e7⟩,e8⟩,e9⟩,e10⟩,e11⟩:=e;exact⟨⟨e1,e2,e3,e4,e5,e6,e7,e8⟩,e9,e10,e11⟩
def okX (K:y00)(xs:List Str)(y:Str):Bool:=xs.all (λx=>okN K x&&okE K (adr K y) (adr K x)&&(y1b K (.type "NoneType") (.ref (adr K x))==some false))&&okN K y&&(y4t K (.ref (adr K y))==some (.type "type"))&&(y2j K (adr K y)).isSome&&(y1v K (adr K y) (.type "BaseException")==some true)&&(y1b K (.type "NoneType") (.type "ValueError")==some false)&&(y0s xs.length).all λk=>(y0s xs.length).all λj=>y1b K (.ref (adr K (xs.getD k ""))) (.ref (adr K (xs.getD j "")))==some (y17 k j)
structure Xs (C:CT)(K:y00)(mg:Str->Option Value)(xs:List Str)(y:Str):Prop where
 d:∀k x,xs[k]?=some x->ExcD K mg x (C.xc k)
 y:∀k,k<xs.length->ExcY K mg y (adr K y) (C.xc k)
 i:IsXs C K mg (λc=>xs[c]?) xs.length
theorem zqj {xs:List Str}{C:CT}(X:K.In h)(G:h.Ns mainGlobals mg)(hC:∀k,C.xc k=adr K (xs.getD k ""))(e:okX K xs y=true):Xs C K mg xs y:=by
 unfold okX at e;simp only[y09,beq_iff_eq,y1t,y2o] at e;obtain⟨⟨⟨⟨⟨⟨e1,e2⟩,e3⟩,e4⟩,e5⟩,e6⟩,e7⟩:=e;have at':∀k x,xs[k]?=some x->C.xc k=adr K x/\x∈xs:=λk x z=>⟨by rw[hC,y0n,z];rfl,y0o z⟩
 have lt':∀k,k<xs.length->∃x,xs[k]?=some x:=λk z=>⟨_,y02 z⟩;refine⟨λk x z=>?_,λk z=>?_,λj x z=>?_,e6,λk b z=>?_⟩
 ·obtain⟨z1,z2⟩:=at' k x z;obtain⟨⟨q1,q2⟩,q3⟩:=e1 x z2;obtain⟨f1,f2,f3,f4⟩:=z79 q2;rw[z1];exact⟨zdg X G q1,f2,f1⟩
 ·obtain⟨x,zx⟩:=lt' k z;obtain⟨z1,z2⟩:=at' k x zx;obtain⟨⟨q1,q2⟩,q3⟩:=e1 x z2;obtain⟨f1,f2,f3,f4⟩:=z79 q2;rw[z1];exact⟨zdg X G e2,e3,e4,e5,f3⟩
 ·obtain⟨z1,z2⟩:=at' j x z;obtain⟨⟨q1,q2⟩,q3⟩:=e1 x z2;refine⟨adr K x,zdg X G q1,q3,λk b y=>?_⟩;unfold bX at y;cases hb:y16 k xs.length with
  | false=>rw[hb] at y;cases y
  | true =>
   rw[hb] at y;cases y;have lk:=y0y.mp hb;obtain⟨x',zx⟩:=lt' k lk;obtain⟨y1,y2⟩:=at' k x' zx;obtain⟨⟨p1,p2⟩,p3⟩:=e1 x' y2;refine⟨y1▸(z79 p2).1,?_⟩;have:=e7 k lk j (y01.mp z).1
   rw[hC k,←z1,hC j];exact this
 ·unfold bV at z;cases hb:y16 k xs.length with
  | false=>rw[hb] at z;cases z
  | true =>
   rw[hb] at z;cases z;obtain⟨x',zx⟩:=lt' k (y0y.mp hb);obtain⟨y1,y2⟩:=at' k x' zx;obtain⟨⟨p1,p2⟩,p3⟩:=e1 x' y2;exact⟨y1▸(z79 p2).1,y1▸(z79 p2).2.2.2⟩
def okI (K:y00)(x:Str)(i:Int):Bool:=match y1s K mainGlobals x with
 | some (some (.int j _))=>j==i
 | _=>false
theorem zgz {C:CT}{i:Int}(X:K.In h)(G:h.Ns mainGlobals mg)(e:okI K x i=true):RCst C mg x (.int i):=by
 unfold okI at e
 split at e
 ·rename_i j t z;cases beq_iff_eq.mp e;exact⟨_,.int _,y29 X G z,⟨t,rfl⟩,λs=>rfl⟩
 ·cases e
theorem zt0 {C:CT}{a:Addr}{i j:Int}{t1 t2 n:Nat}{od:Option Addr}{sl:Array (Option Value)}(X:K.In h)(G:h.Ns mainGlobals mg)(hC:C.K=K)(u:y1s K mainGlobals x=some (some (.ref a)))
  (l:K.lookup a=some ⟨.type "tuple",od,.seq #[.int i t1,.int j t2] n,sl⟩):RCst C mg x (.tup [.int i,.int j]) :=
 ⟨_,.ref a,y29 X G u,rfl,λs=>⟨a,[.int i,.int j],rfl,.inr ⟨_,_,n,hC▸l,rfl,rfl,sz (y14 rfl),.cons ⟨t1,rfl⟩ (.cons ⟨t2,rfl⟩ .nil)⟩,_,_,rfl,rfl,_,_,rfl,rfl,rfl⟩⟩
theorem zcj (ps:List Str)(p5:y2v K C=true)(p6:y0w K (.ref C)=true)(t:FM K C "__init__" q st)(b:BA "__init__" q st ps):∃f fd,Fun K "__init__" q st f fd/\Binds K fd ps []/\L2.Mk K C f:=by
 obtain⟨f,a,i,oc,od,kV,doc,pm,an,cdv,ct,osl,l,c,kp⟩:=t;exact⟨f,_,z3b l c kp,(z3b l c kp).binds b,⟨p5,a,i,p6⟩⟩
abbrev FMC (K:y00)(C:Addr)(x q:Str)(st:Stmt)(c:Addr):Prop:=∃f,y0i K (.ref C) x=some (some (.ref f))/\y2u K (.ref f)=true/\∃(oc:Value) (od:Option Addr) (kV doc pm:Value) (an:Option Addr) (ct:Value) (osl:Array (Option Value)),
 K.lookup f=some ⟨oc,od,.func (y19 x q (z0y st) (z0o st) (z0a st) .none kV doc pm an (.ref c) ct),osl⟩/\y1n K (.ref c) q=true/\y0w K (.ref f)=true
theorem fmc_mk {f:Addr}{oc:Value}{od an:Option Addr}{osl:Array (Option Value)}{kV doc pm ct:Value}(a:y0i K (.ref C) x=some (some (.ref f)))
  (l:K.lookup f=some ⟨oc,od,.func (y19 x q (z0y st) (z0o st) (z0a st) .none kV doc pm an (.ref c) ct),osl⟩) (d:y1n K (.ref c) q=true) (k:y0w K (.ref f)=true) (i:y2u K (.ref f)=true):FMC K C x q st c :=
 ⟨f,a,i,oc,od,kV,doc,pm,an,ct,osl,l,d,k⟩
theorem zka (ps:List Str)(cl:Cls K C)(t:FMC K C x q st c)(b:BA x q st ps):MTopC K C x q st ps c:=by
 obtain⟨f,a,i,oc,od,kV,doc,pm,an,ct,osl,l,d,kp⟩:=t;exact⟨⟨f,_,⟨oc,od,kV,doc,pm,an,ct,osl,rfl,l,d⟩,(z3b l d kp).binds b,⟨a,i,kp⟩⟩,cl⟩
theorem zl0 (X:K.In base)(e:y4b K c T=true)(b:base.BuiltinsAt mg T)(n:mainGlobals≠T):LamK mg base c T:=⟨y51 X e,b,n⟩
theorem one_tab {a b:Addr}{x q:Str}(e:[(a,x)].lookup b=some q):b=a:=by
 rw[y0m] at e
 split at e
 ·rename_i z;exact beq_iff_eq.mp z
 ·cases e
end
end L2.RX
set_option Elab.async false
set_option linter.all false
set_option maxRecDepth 100000
set_option maxHeartbeats 4000000
set_option compiler.extract_closed false
namespace My
open PySem PySem.Spec PyProof.Rows L2 L2.EX L2.RX
theorem ln1 {us:List Value}(h:us.length=1):∃a0,us = [a0]:=by
 match us,h with
 | [a0],_=>exact⟨a0,rfl⟩
theorem ln2 {us:List Value}(h:us.length=2):∃a0 a1,us = [a0,a1]:=by
 match us,h with
 | [a0,a1],_=>exact⟨a0,a1,rfl⟩
theorem ln3 {us:List Value}(h:us.length=3):∃a0 a1 a2,us = [a0,a1,a2]:=by
 match us,h with
 | [a0,a1,a2],_=>exact⟨a0,a1,a2,rfl⟩
theorem ln4 {us:List Value}(h:us.length=4):∃a0 a1 a2 a3,us = [a0,a1,a2,a3]:=by
 match us,h with
 | [a0,a1,a2,a3],_=>exact⟨a0,a1,a2,a3,rfl⟩
theorem ln5 {us:List Value}(h:us.length=5):∃a0 a1 a2 a3 a4,us = [a0,a1,a2,a3,a4]:=by
 match us,h with
 | [a0,a1,a2,a3,a4],_=>exact⟨a0,a1,a2,a3,a4,rfl⟩
local macro_rules | `(tactic| walk_at "b")=>`(tactic| (intro _ _ _ _ _ _ us hl; first | (obtain ⟨_,e⟩:=ln1 hl; subst e; rfl) | (obtain ⟨_,_,e⟩:=ln2 hl; subst e; rfl) | (obtain ⟨_,_,_,e⟩:=ln3 hl; subst e; rfl) | (obtain ⟨_,_,_,_,e⟩:=ln4 hl; subst e; rfl) | (obtain ⟨_,_,_,_,_,e⟩:=ln5 hl; subst e; rfl)))
local macro_rules | `(tactic| walk_at "sc")=>`(tactic| exact ⟨by decide +kernel,rfl,rfl,by decide +kernel,(by repeat (first | exact True.intro | refine And.intro (Or.inl rfl) ?_ | refine And.intro (Or.inr rfl) ?_)),rfl,by decide +kernel,by decide +kernel,by intro _; rfl⟩)
local macro_rules | `(tactic| walk_at "E")=>`(tactic| first
 | exact q_v | exact zob | exact zqn | exact zoo | exact zwe | exact zm3
 | refine zwd ?_ ?_ | refine zp8 ?_ ?_ | refine zas ?_ ?_ ?_ | refine zrc ?_ | refine zwm ?_ ?_ ?_ | refine zq4 ?_ | refine zw2 ?_ ?_
 | refine zq6 ?_ | refine zqw ?_ | exact zp4 | refine zm6 ?_ ?_ | refine zvp ?_ ?_ | refine zmy ?_ | refine zm8 ?_ | refine zor ?_ | refine zx3 ?_ ?_ ?_
 | refine z5b (z0z _) (z0u (by decide)) (by walk_at "sc") ?_ (λc Y=>z1d Y) λc Y=>?_
 | refine z5b (z4r _ _) (z1r (by decide) (by decide)) (by walk_at "sc") ?_ (λc Y=>ze9 Y (z1d Y) (z1d Y)) λc Y=>?_
 | refine z5b (zfd _ _ _) (z53 (by decide) (by decide) (by decide)) (by walk_at "sc") ?_ (λc Y=>zru Y (z1d Y) (z1d Y) (z1d Y)) λc Y=>?_
 | refine z5m (z0z _) (z0u (by decide)) (by walk_at "sc") ?_ (λc Y=>z1d Y) (λc Y=>?_) λc Y=>?_
 | refine z5m (z4r _ _) (z1r (by decide) (by decide)) (by walk_at "sc") ?_ (λc Y=>ze9 Y (z1d Y) (z1d Y)) (λc Y=>?_) λc Y=>?_
 | refine zgy ?_ ?_ | refine zdc ?_ | refine zm5 ?_ ?_ | refine zio ?_ ?_ ?_ | refine zr6 ?_ | refine zih ?_ ?_ | refine znn ?_ ?_ | refine zq8 ?_ ?_ | refine zc9 ?_ ?_ | refine zba ?_
 | refine zi2 ?_ | refine zht ?_ | exact zcm | refine zce (by assumption) rfl ?_ ?_ | refine q_b ?_ | refine zik ?_ | refine zhh ?_ | refine zni (by assumption) ?_ | refine zqz (by assumption) ?_
 | refine z8o ?_ | refine zwq ?_ | refine zvv ?_ ?_ | refine zbz ?_ | exact zp9 (by assumption) (λ_ _ _=>rfl) | refine zvy ?_ | refine zw8 ?_)
local macro_rules | `(tactic| walk_at "S")=>`(tactic| first
 | refine zpw ?_ | refine zwk ?_ | refine zr8 ?_ ?_ ?_ | refine zbl ?_
 | refine z60 (z0z _) (z0u (by decide)) (by walk_at "sc") ?_ (λc Y=>z1d Y) λc Y=>?_
 | refine z60 (z4r _ _) (z1r (by decide) (by decide)) (by walk_at "sc") ?_ (λc Y=>ze9 Y (z1d Y) (z1d Y)) λc Y=>?_
 | refine z3n (z0z _) (z0u (by decide)) (by walk_at "sc") ?_ (λc Y=>z1d Y) (λc Y=>?_) λc Y=>?_
 | refine z3n (z4r _ _) (z1r (by decide) (by decide)) (by walk_at "sc") ?_ (λc Y=>ze9 Y (z1d Y) (z1d Y)) (λc Y=>?_) λc Y=>?_
 | refine zm0 ?_ | refine zwt ?_ ?_ | refine zop ?_ ?_ ?_
 | refine zgd (tip:=z8v) (λ_ _ _ _ q=>q) zb9 ?_ ?_ ?_ | refine zgd (tip:=z8p) (λ_ _ _ _ q=>q) zd0 ?_ ?_ ?_
 | refine zab (z0z _) ?_ (λY=>z1d Y) ?_ | refine zab (z4r _ _) ?_ (λY=>ze9 Y (z1d Y) (z1d Y)) ?_ | refine zab (zfd _ _ _) ?_ (λY=>zru Y (z1d Y) (z1d Y) (z1d Y)) ?_ | refine zar ?_ ?_ | exact ze2 | exact zi1 | refine zn4 ?_ | refine znu ?_)
local macro_rules | `(tactic| walk_at "q")=>`(tactic| first
 | (refine QE.mk (QE.h ?_);walk_at "E")
 | (refine QA.mk (QA.h ?_);first | exact zp7 | refine zib ?_ ?_)
 | (refine QT.mk (QT.h ?_);first | refine zhs ?_ ?_ | refine zii ?_ | refine zgs (z99 ?_ ?_) | refine zgs (zf7 ?_ ?_) | refine zoe ?_)
 | (refine QW.mk (QW.h ?_);first | refine z99 ?_ ?_ | refine zf7 ?_ ?_ | refine zcn ?_ | refine zh8 ?_)
 | (refine QS.mk (QS.h ?_);walk_at "S")
 | (refine QB.mk (QB.h ?_);first | refine zns λY=>?_ | refine zh5 ?_ | refine zo7 ?_ ?_ | exact zic)
 | (refine QI.mk (QI.h ?_);first | refine zx9 ?_ | refine zvo ?_ | refine zww ?_ ?_ | refine zn3 ?_ ?_ | refine zmf ?_ ?_ ?_ | refine zwy ?_)
 | (refine QO.mk (QO.h ?_);first | exact zwr | refine zx2 ?_))
local macro_rules | `(tactic| walk_at "x")=>`(tactic| repeat' (walk_at "q"))
def zwu (K:y00)(CP CR CH:Addr):Bool:=bltN.all (okB K)&&okC K CP ["many_gives","tie_ends","sent","spare","ties_at"]&&okC K CR ["present","dealt","works","doers"]&&okC K CH ["crew","tasks","rows","burdens","piece_rows"]&&okX K xnms "YokeError"&&okI K "LONGEST_NAME" 12&&okI K "MOST" 40
section
variable {P:Program}{w:World}{K:y00}{mg:Str->Option Value}{base:Heap}{CP CR CH T:Addr}{XC:Nat->Addr}
theorem zow (B:Bx (gC K CP CR CH T XC) K mg):∀l p,lb l=some p->LamF ⟨P,w,K,mg,base⟩ (gC K CP CR CH T XC) 0 l p.1 p.2
 | 0,_,e=>by
  cases e;have S:FnScope ["share"] ["share"] lamS.scope:=⟨rfl,rfl,rfl,by decide +kernel,rfl,by decide +kernel,by decide +kernel⟩
  refine⟨["share"],rfl,S,λpm cd ct us hl=>?_,λsx f cd A outer s H hr=>?_⟩
  ·obtain⟨_,e⟩:=ln1 hl;subst e;rfl
  ·have Y:=zn7 (P:=P) (w:=w) (base:=base) (N:=["share"]) (qual:=lamS.qual) (scope:=lamS.scope) (f:=f) (cdv:=cd) (outer:=outer) (s:=s) (H:=H) (sx:=sx) (k:=0) B (by decide +kernel) hr
   refine QE.h ?_;walk_at "x"
 | n+1,_,e=>by cases e
end
theorem all_mk {P:Program}{w:World}{K:y00}{h:Heap}{mg:Str->Option Value}{fa CP CR CH aN:Addr}{odN:Option Addr}{t0 t1 nN:Nat}{slN:Array (Option Value)}(X:K.In h)(G:h.Ns mainGlobals mg)(hfa:mg "law"=some (.ref fa))(neT:mainGlobals≠519)(hcd:y4b K 521 519=true)
  (uPour:y1s K mainGlobals "Pour"=some (some (.ref CP)))
  (uRoll:y1s K mainGlobals "Roll"=some (some (.ref CR)))
  (uHouse:y1s K mainGlobals "House"=some (some (.ref CH)))
  (kN:y1s K mainGlobals "NOTHING"=some (some (.ref aN))) (kNl:K.lookup aN=some ⟨.type "tuple",odN,.seq #[.int 0 t0,.int 1 t1] nN,slN⟩) (ck:zwu K CP CR CH=true)
  (m0:FM K CH "__init__" "House.__init__" (z02 (top 47) 0))
  (t1:FT K "is_name" (top 44))
  (t2:FT K "need_name" (top 45))
  (m3:FM K CR "__init__" "Roll.__init__" (z02 (top 46) 0))
  (m4:FM K CR "hand_names" "Roll.hand_names" (z02 (top 46) 1))
  (m5:FM K CH "old_row" "House.old_row" (z02 (top 47) 16))
  (m6:FM K CP "__init__" "Pour.__init__" (z02 (top 20) 0))
  (m7:FM K CP "gives_with_rest" "Pour.gives_with_rest" (z02 (top 20) 3))
  (m8:FM K CP "has_room" "Pour.has_room" (z02 (top 20) 4))
  (m9:FM K CP "far_end" "Pour.far_end" (z02 (top 20) 1))
  (m10:FM K CP "may_go" "Pour.may_go" (z02 (top 20) 2))
  (m11:FM K CP "row_behind" "Pour.row_behind" (z02 (top 20) 6))
  (m12:FM K CP "steps_to_room" "Pour.steps_to_room" (z02 (top 20) 5))
  (m13:FM K CP "leads_on" "Pour.leads_on" (z02 (top 20) 10))
  (m14:FM K CP "skip_dead_ties" "Pour.skip_dead_ties" (z02 (top 20) 9))
  (m15:FM K CP "way_from" "Pour.way_from" (z02 (top 20) 8))
  (m16:FM K CP "send_along" "Pour.send_along" (z02 (top 20) 11))
  (m17:FM K CP "send_by_steps" "Pour.send_by_steps" (z02 (top 20) 7))
  (m18:FM K CP "fill" "Pour.fill" (z02 (top 20) 12))
  (t19:FT K "pour_more" (top 22))
  (t20:FT K "pour_all" (top 21))
  (t21:FT K "ties_in" (top 24))
  (t22:FT K "work_in" (top 25))
  (t23:FT K "pour_in" (top 26))
  (t24:FT K "chosen" (top 27))
  (t25:FT K "crowds_by" (top 28))
  (t26:FT K "is_whole" (top 14))
  (t27:FT K "divisor_of" (top 15))
  (t28:FT K "part_of" (top 16))
  (t29:FT K "shares_in" (top 32))
  (t30:FT K "rows_from" (top 29))
  (t31:FT K "deal_evenly" (top 31))
  (t32:FT K "plus_in_lowest" (top 17))
  (t33:FT K "sum_of_parts" (top 18))
  (t34:FT K "loads_of_shares" (top 33))
  (t35:FT K "is_kept" (top 39))
  (t36:FT K "kept_up" (top 38))
  (m37:FM K CH "changes_to" "House.changes_to" (z02 (top 47) 17))
  (m38:FM K CR "by_names" "Roll.by_names" (z02 (top 46) 2))
  (s39:FMC K CH "settle" "House.settle" (z02 (top 47) 15) 521)
  (m40:FM K CH "with_crew" "House.with_crew" (z02 (top 47) 13))
  (m41:FM K CH "hire" "House.hire" (z02 (top 47) 4))
  (m42:FM K CH "need_hand" "House.need_hand" (z02 (top 47) 2))
  (m43:FM K CH "with_task" "House.with_task" (z02 (top 47) 14))
  (m44:FM K CH "put" "House.put" (z02 (top 47) 5))
  (m45:FM K CH "move" "House.move" (z02 (top 47) 12))
  (m46:FM K CH "away" "House.away" (z02 (top 47) 10))
  (m47:FM K CH "hands" "House.hands" (z02 (top 47) 22))
  (m48:FM K CH "load" "House.load" (z02 (top 47) 18))
  (m49:FM K CH "chores" "House.chores" (z02 (top 47) 23))
  (m50:FM K CH "need_chore" "House.need_chore" (z02 (top 47) 3))
  (m51:FM K CH "shares" "House.shares" (z02 (top 47) 19))
  (m52:FM K CH "work" "House.work" (z02 (top 47) 20))
  (m53:FM K CH "is_there" "House.is_there" (z02 (top 47) 21))
  (m54:FM K CH "waiting" "House.waiting" (z02 (top 47) 24))
  (t55:FT K "_law_look" (top 53))
  (t56:FT K "_law_odd" (top 51))
  (t57:FT K "_law_wrong" (top 52))
  (m58:FM K CH "drop" "House.drop" (z02 (top 47) 6))
  (m59:FM K CH "grow" "House.grow" (z02 (top 47) 9))
  (m60:FM K CH "more" "House.more" (z02 (top 47) 7))
  (m61:FM K CH "fewer" "House.fewer" (z02 (top 47) 8))
  (m62:FM K CH "back" "House.back" (z02 (top 47) 11))
  (m63:FM K CH "pieces" "House.pieces" (z02 (top 47) 26))
  (t64:FT K "_law_asked" (top 49))
  (t65:FT K "_law_class" (top 50))
  (t66:FT K "_law_taken" (top 56))
  (t67:FT K "_law_full_chores" (top 55))
  (t68:FT K "_law_full" (top 54))
  (t69:FT K "law" (top 57))
  : ∃(C:CT) (fd:FuncData),(∀k,k<C.nl->[((519:Addr),lamS.qual)].lookup (C.tb k)=some (C.lm k).qual)/\(∀(s:Shared) (v:Value),BindsTo s fd ⟨[v],[]⟩ [("_law_script",v)])/\∀base:Heap,K.In base->base.Ns mainGlobals mg->(∀b q,[((519:Addr),lamS.qual)].lookup b=some q->base.BuiltinsAt mg b)->FnOk P w K mg base (CXg P w) 20 fa fd ["_law_script"] (spR C e_law):=by
 unfold zwu at ck;simp only[y09] at ck;obtain⟨⟨⟨⟨⟨⟨c0,qCP⟩,qCR⟩,qCH⟩,cX⟩,iLONGEST_NAME⟩,iMOST⟩:=ck;have cCP:=zcy qCP;have cCR:=zcy qCR
 have cCH:=zcy qCH;have B:Bx (gC K CP CR CH 519 λi=>adr K (xnms.getD i "")) K mg:=⟨rfl,λx hx=>zmg X G (y1t.mp c0 x hx),λc f hf=>match c,hf with
  | 0,hf=>cCP.2.2.2 f hf
  | 1,hf=>cCR.2.2.2 f hf
  | n+2,hf=>cCH.2.2.2 f hf⟩
 have V:Xs (gC K CP CR CH 519 λi=>adr K (xnms.getD i "")) K mg xnms "YokeError":=zqj X G (λ_=>rfl) cX;have yy:∀c,yk c=true->ExcY K mg "YokeError" (adr K "YokeError") (adr K (xnms.getD c "")):=λc hc=>V.y c (y0y.mp hc)
 have aM:RCst (gC K CP CR CH 519 λi=>adr K (xnms.getD i "")) mg "LONGEST_NAME" (.int 12):=zgz X G iLONGEST_NAME;have cMOST:RCst (gC K CP CR CH 519 λi=>adr K (xnms.getD i "")) mg "MOST" (.int 40):=zgz X G iMOST
 have aJ:RCst (gC K CP CR CH 519 λi=>adr K (xnms.getD i "")) mg "NOTHING" (.tup [.int 0,.int 1]):=zt0 X G rfl kN kNl;obtain⟨fL,aL,ocL,odL,kVL,docL,pmL,anL,cdL,ctL,slL,lL,cL,kpL⟩:=t69;cases hfa.symm.trans (y29 X G aL);refine⟨(gC K CP CR CH 519 λi=>adr K (xnms.getD i "")),y19 "law" "law" (z0y (top 57)) (z0o (top 57)) (z0a (top 57)) .none kVL docL pmL anL cdL ctL,λk hk=>?_,λs v=>.of_eq rfl,λbase XB GB hB=>?_⟩
 ·have:k=0:=by have:k<1:=hk;omega
  subst this;rfl
 have Z:LamK mg base 521 519:=zl0 XB hcd (hB 519 _ rfl) neT;have lf:=zow (P:=P) (w:=w) (base:=base) B
 have d_House_init:=z6d (P:=P) (w:=w) (base:=base) B (zcj ["self"] cCH.2.1 cCH.2.2.1 m0 (by walk_at "b")) (y29 X G uHouse)
 have d_is_name:=ze4 (P:=P) (w:=w) (base:=base) B aM (z0k ["thing"] X G t1 (by walk_at "b"))
 have d_need_name:=z80 (P:=P) (w:=w) (base:=base) B d_is_name (V.d 0 _ rfl) (z0k ["thing"] X G t2 (by walk_at "b"))
 have d_Roll_init:=z86 (P:=P) (w:=w) (base:=base) B (zcj ["self","crew","tasks"] cCR.2.1 cCR.2.2.1 m3 (by walk_at "b")) (y29 X G uRoll)
 have d_Roll_hand_names:=z2v (P:=P) (w:=w) (base:=base) B (z0e ["self","numbers"] m4 cCR.1 (by walk_at "b"))
 have d_House_old_row:=z43 (P:=P) (w:=w) (base:=base) B d_Roll_hand_names aJ (z0e ["self","roll","place","touched"] m5 cCH.1 (by walk_at "b"))
 have d_Pour_init:=z8d (P:=P) (w:=w) (base:=base) B (zcj ["self","gives","takes","ties","sent"] cCP.2.1 cCP.2.2.1 m6 (by walk_at "b")) (y29 X G uPour)
 have d_Pour_gives_with_rest:=z1v (P:=P) (w:=w) (base:=base) B (z0e ["self"] m7 cCP.1 (by walk_at "b"))
 have d_Pour_has_room:=z3v (P:=P) (w:=w) (base:=base) B (z0e ["self","ends"] m8 cCP.1 (by walk_at "b"))
 have d_Pour_far_end:=z4t (P:=P) (w:=w) (base:=base) B (z0e ["self","end","tie"] m9 cCP.1 (by walk_at "b"))
 have d_Pour_may_go:=z5l (P:=P) (w:=w) (base:=base) B (z0e ["self","end","tie"] m10 cCP.1 (by walk_at "b"))
 have d_Pour_row_behind:=z2t (P:=P) (w:=w) (base:=base) B d_Pour_far_end d_Pour_may_go (z0e ["self","row","steps"] m11 cCP.1 (by walk_at "b"))
 have d_Pour_steps_to_room:=z22 (P:=P) (w:=w) (base:=base) B d_Pour_gives_with_rest d_Pour_has_room d_Pour_row_behind (z0e ["self"] m12 cCP.1 (by walk_at "b"))
 have d_Pour_leads_on:=z4a (P:=P) (w:=w) (base:=base) B d_Pour_far_end d_Pour_may_go (z0e ["self","end","tie","steps"] m13 cCP.1 (by walk_at "b"))
 have d_Pour_skip_dead_ties:=z1y (P:=P) (w:=w) (base:=base) B d_Pour_leads_on (z0e ["self","end","steps","tried"] m14 cCP.1 (by walk_at "b"))
 have d_Pour_way_from:=z3w (P:=P) (w:=w) (base:=base) B d_Pour_has_room d_Pour_skip_dead_ties d_Pour_far_end (z0e ["self","give","steps","tried"] m15 cCP.1 (by walk_at "b"))
 have d_Pour_send_along:=z30 (P:=P) (w:=w) (base:=base) B (z0e ["self","give","way"] m16 cCP.1 (by walk_at "b"))
 have d_Pour_send_by_steps:=z23 (P:=P) (w:=w) (base:=base) B d_Pour_gives_with_rest d_Pour_way_from d_Pour_send_along (z0e ["self","steps"] m17 cCP.1 (by walk_at "b"))
 have d_Pour_fill:=z81 (P:=P) (w:=w) (base:=base) B d_Pour_steps_to_room d_Pour_has_room d_Pour_send_by_steps (z0e ["self"] m18 cCP.1 (by walk_at "b"))
 have d_pour_more:=z8f (P:=P) (w:=w) (base:=base) B d_Pour_init d_Pour_fill (z0k ["gives","takes","ties","sent"] X G t19 (by walk_at "b"))
 have d_pour_all:=za4 (P:=P) (w:=w) (base:=base) B d_pour_more (z0k ["gives","takes","ties"] X G t20 (by walk_at "b"))
 have d_ties_in:=zd9 (P:=P) (w:=w) (base:=base) B (z0k ["doers","crowd"] X G t21 (by walk_at "b"))
 have d_work_in:=zat (P:=P) (w:=w) (base:=base) B (z0k ["works","crowd"] X G t22 (by walk_at "b"))
 have d_pour_in:=zcr (P:=P) (w:=w) (base:=base) B d_pour_all d_ties_in d_work_in (z0k ["works","doers","crowd"] X G t23 (by walk_at "b"))
 have d_chosen:=zen (P:=P) (w:=w) (base:=base) B (z0k ["things","marks","wanted"] X G t24 (by walk_at "b"))
 have d_crowds_by:=z8c (P:=P) (w:=w) (base:=base) B d_pour_in d_chosen (z0k ["works","doers","many"] X G t25 (by walk_at "b"))
 have d_is_whole:=za5 (P:=P) (w:=w) (base:=base) B (z0k ["thing"] X G t26 (by walk_at "b"))
 have d_divisor_of:=z71 (P:=P) (w:=w) (base:=base) B (z0k ["one","other"] X G t27 (by walk_at "b"))
 have d_part_of:=zcq (P:=P) (w:=w) (base:=base) B d_is_whole d_divisor_of (V.d 7 _ rfl) (z0k ["top","bottom"] X G t28 (by walk_at "b"))
 have d_shares_in:=z8a (P:=P) (w:=w) (base:=base) B d_pour_in d_part_of (z0k ["works","doers","crowd"] X G t29 (by walk_at "b"))
 have d_rows_from:=z7l (P:=P) (w:=w) (base:=base) B d_ties_in (z0k ["doers","crowds","sents","nothing"] X G t30 (by walk_at "b"))
 have d_deal_evenly:=z5w (P:=P) (w:=w) (base:=base) B d_crowds_by d_shares_in d_rows_from (z0k ["works","doers","many"] X G t31 (by walk_at "b"))
 have d_plus_in_lowest:=z3g (P:=P) (w:=w) (base:=base) B d_divisor_of (z0k ["one","other"] X G t32 (by walk_at "b"))
 have d_sum_of_parts:=z4y (P:=P) (w:=w) (base:=base) B d_plus_in_lowest (z0k ["parts"] X G t33 (by walk_at "b"))
 have d_loads_of_shares:=z35 (P:=P) (w:=w) (base:=base) B d_sum_of_parts (z0k ["doers","many","shares"] X G t34 (by walk_at "b"))
 have d_is_kept:=zdz (P:=P) (w:=w) (base:=base) B (z0k ["hands","old","stayed"] X G t35 (by walk_at "b"))
 have d_kept_up:=zai (P:=P) (w:=w) (base:=base) B d_deal_evenly d_loads_of_shares d_is_kept (z0k ["works","doers","many","shares","old_loads"] X G t36 (by walk_at "b"))
 have d_House_changes_to:=z2g (P:=P) (w:=w) (base:=base) B aJ (z0e ["self","burdens"] m37 cCH.1 (by walk_at "b"))
 have d_Roll_by_names:=z4f (P:=P) (w:=w) (base:=base) B d_Roll_hand_names lf (z0e ["self","rows","is_above"] m38 cCR.1 (by walk_at "b"))
 have d_House_settle:=z4n (P:=P) (w:=w) (base:=base) B d_Roll_init d_House_old_row d_kept_up d_loads_of_shares d_House_changes_to d_Roll_by_names aJ Z (zka ["self","crew","tasks","touched"] cCH.1 s39 (by walk_at "b"))
 have d_House_with_crew:=z2z (P:=P) (w:=w) (base:=base) B d_House_settle (z0e ["self","name","is_present"] m40 cCH.1 (by walk_at "b"))
 have d_House_hire:=z7d (P:=P) (w:=w) (base:=base) B d_need_name d_House_with_crew (V.d 1 _ rfl) (V.d 2 _ rfl) cMOST (z0e ["self","name"] m41 cCH.1 (by walk_at "b"))
 have d_House_need_hand:=z33 (P:=P) (w:=w) (base:=base) B (V.d 4 _ rfl) (z0e ["self","name"] m42 cCH.1 (by walk_at "b"))
 have d_House_with_task:=z31 (P:=P) (w:=w) (base:=base) B d_House_settle (z0e ["self","chore","work","named"] m43 cCH.1 (by walk_at "b"))
 have d_House_put:=z8e (P:=P) (w:=w) (base:=base) B d_need_name d_House_need_hand d_House_with_task (V.d 1 _ rfl) (V.d 2 _ rfl) (V.d 3 _ rfl) (V.d 4 _ rfl) cMOST (z0e ["self","chore","work","names"] m44 cCH.1 (by walk_at "b"))
 have d_House_move:=z6g (P:=P) (w:=w) (base:=base) B d_House_need_hand d_House_with_crew (V.d 6 _ rfl) (z0e ["self","name","to_be_there"] m45 cCH.1 (by walk_at "b"))
 have d_House_away:=z6o (P:=P) (w:=w) (base:=base) B d_House_move (z0e ["self","name"] m46 cCH.1 (by walk_at "b"))
 have d_House_hands:=z5n (P:=P) (w:=w) (base:=base) B (z0e ["self"] m47 cCH.1 (by walk_at "b"))
 have d_House_load:=z7j (P:=P) (w:=w) (base:=base) B d_House_need_hand (z0e ["self","name"] m48 cCH.1 (by walk_at "b"))
 have d_House_chores:=z4v (P:=P) (w:=w) (base:=base) B (z0e ["self"] m49 cCH.1 (by walk_at "b"))
 have d_House_need_chore:=z2j (P:=P) (w:=w) (base:=base) B (V.d 5 _ rfl) (z0e ["self","chore"] m50 cCH.1 (by walk_at "b"))
 have d_House_shares:=z4x (P:=P) (w:=w) (base:=base) B d_House_need_chore (z0e ["self","chore"] m51 cCH.1 (by walk_at "b"))
 have d_House_work:=z6s (P:=P) (w:=w) (base:=base) B d_House_need_chore (z0e ["self","chore"] m52 cCH.1 (by walk_at "b"))
 have d_House_is_there:=z3f (P:=P) (w:=w) (base:=base) B d_House_need_hand (z0e ["self","name"] m53 cCH.1 (by walk_at "b"))
 have d_House_waiting:=z46 (P:=P) (w:=w) (base:=base) B (z0e ["self"] m54 cCH.1 (by walk_at "b"))
 have d__law_look:=z85 (P:=P) (w:=w) (base:=base) B d_House_hands d_House_load d_House_chores d_House_shares d_House_work d_House_is_there d_House_waiting (z0k ["_law_house"] X G t55 (by walk_at "b"))
 have d__law_odd:=za7 (P:=P) (w:=w) (base:=base) B (z0k ["_law_cell"] X G t56 (by walk_at "b"))
 have d__law_wrong:=z7c (P:=P) (w:=w) (base:=base) B d__law_odd (z0k ["_law_cell","_law_hands","_law_chores","_law_gone"] X G t57 (by walk_at "b"))
 have d_House_drop:=z6f (P:=P) (w:=w) (base:=base) B d_House_need_chore d_House_settle (z0e ["self","chore"] m58 cCH.1 (by walk_at "b"))
 have d_House_grow:=z76 (P:=P) (w:=w) (base:=base) B d_House_need_chore d_House_with_task (V.d 3 _ rfl) (z0e ["self","chore","work","sign"] m59 cCH.1 (by walk_at "b"))
 have d_House_more:=z6j (P:=P) (w:=w) (base:=base) B d_House_grow (z0e ["self","chore","work"] m60 cCH.1 (by walk_at "b"))
 have d_House_fewer:=z63 (P:=P) (w:=w) (base:=base) B d_House_grow (z0e ["self","chore","work"] m61 cCH.1 (by walk_at "b"))
 have d_House_back:=z6b (P:=P) (w:=w) (base:=base) B d_House_move (z0e ["self","name"] m62 cCH.1 (by walk_at "b"))
 have d_House_pieces:=z4u (P:=P) (w:=w) (base:=base) B d_House_need_chore (z0e ["self","chore"] m63 cCH.1 (by walk_at "b"))
 have d__law_asked:=z6z (P:=P) (w:=w) (base:=base) B d_House_hire d_House_put d_House_drop d_House_more d_House_fewer d_House_away d_House_back d_House_load d_House_shares d_House_work d_House_pieces d_House_is_there (z0k ["_law_house","_law_deed"] X G t64 (by walk_at "b"))
 have d__law_class:=z73 (P:=P) (w:=w) (base:=base) B d__law_asked V.i yy (z0k ["_law_house","_law_deed"] X G t65 (by walk_at "b"))
 have d__law_taken:=z6q (P:=P) (w:=w) (base:=base) B d_House_hire d_House_put d_House_load d_House_work d_House_hands d_House_chores (z0k ["_law_house"] X G t66 (by walk_at "b"))
 have d__law_full_chores:=z2f (P:=P) (w:=w) (base:=base) B d_House_init d_House_hire d_House_away d_House_put d__law_class d_House_load d_House_waiting (z0k ["_law_first"] X G t67 (by walk_at "b"))
 have d__law_full:=z7k (P:=P) (w:=w) (base:=base) B d_House_init d_House_hire d__law_class d_House_hands (z0k ["_law_first"] X G t68 (by walk_at "b"))
 exact ztg (P:=P) (w:=w) (base:=base) B d_House_init d_House_hire d_House_put d_House_away d__law_look d__law_wrong d__law_class d__law_taken d__law_full_chores d__law_full (z3b lL cL kpL)
end My
set_option Elab.async false
set_option linter.all false
set_option maxRecDepth 100000
set_option compiler.extract_closed false
open PySem PySem.W PyProof.Rows
local macro_rules | `(tactic| walk_at "t")=>`(tactic| (refine' L2.EX.ft_mk ?a ?l ?c ?k; (case a=>k_is); (case l=>k_is); (case c=>k_is); (case k=>k_is)))
local macro_rules | `(tactic| walk_at "m")=>`(tactic| (refine' L2.EX.fm_mk ?a ?l ?c ?k ?i; (case a=>k_is); (case l=>k_is); (case c=>k_is); (case k=>k_is); (case i=>k_is)))
local macro_rules | `(tactic| walk_at "s")=>`(tactic| (refine' L2.RX.fmc_mk ?a ?l ?d ?k ?i; (case a=>k_is); (case l=>k_is); (case d=>k_is); (case k=>k_is); (case i=>k_is)))
namespace PySem.W.Fast
def tw6380279262061791997:=0
def tw11416188053476548763:=0
def tw15391835366848047781:=0
def tw12350500488769107702:=0
def tw17806844473324326463:=0
def tw12840204037420990134:=0
def tw10431779107234362191:=0
def tw382386292125366480:=0
def tw9756833186552237967:=0
def tw14841928095987820077:=0
def tw4296293267002542349:=0
def tw5041763131198589226:=0
def tw11712612554094728671:=0
def tw9881757655523739641:=0
def tw7414755098561014075:=0
def tw4263982069612703143:=0
def tw17143891645793178748:=0
def tw4634464596317633026:=0
def tw1956280432989321303:=0
def tw16032952897115482095:=0
def tw9041466683073596181:=0
def tw7302333448923034335:=0
def tw11823737994249460931:=0
def tw11095233305448812868:=0
def tw3826633957511639554:=0
def tw14751408279744275931:=0
def tw2735936164182153744:=0
def tw53802733979894029:=0
def tw5598541139163575238:=0
def tw76017405434925280:=0
def tw4613038928213963640:=0
def tw13795858756872600012:=0
def tw15820368625701740282:=0
def tw12343907671154466350:=0
def tw7999043119201778818:=0
def tw826011204603949719:=0
def tw14555585328113210672:=0
def tw2218408515581610547:=0
def tw3040971556167535019:=0
def tw18141783893990677466:=0
def tw5895565132157574104:=0
def tw5489895151256216969:=0
def tw9219972922016735873:=0
def tw9882371881355516833:=0
def tw5178539625906825140:=0
def tw12686022850464309889:=0
def tw16143782854060634094:=0
def tw16422067160286842604:=0
def tw10076624713845562522:=0
def tw16158673014798864001:=0
def tw18181155735358347055:=0
def tw12782247700352001893:=0
def tw10391684252312069681:=0
def tw7970347254359638811:=0
def tw16787807885969404856:=0
def tw5623328731051536050:=0
def tw2357459626859804836:=0
def tw5500548295166859239:=0
def tw348275638895471164:=0
def tw4809442784653405741:=0
def tw5107472519402528669:=0
def tw11695776156681216732:=0
def tw2927172700672572206:=0
def tw6835867982008507591:=0
def tw5053184168075002816:=0
def tw17278374211000638390:=0
def tw2868512255806616976:=0
def tw15469939041161125968:=0
def tw11959512409659589455:=0
def tw14472527321674090360:=0
def tw12393990511960281793:=0
def tw2001156475284930381:=0
def tw8609897739410629028:=0
def tw15353265134785663643:=0
def tw10276048023610915256:=0
def tw6174276722582907529:=0
def tw5317233701352399029:=0
def tw7126642692975832790:=0
def tw4664184440464817085:=0
def tw14222785309946804726:=0
def tw10446629397087090561:=0
def tw970860251661197645:=0
def tw14999567995492911633:=0
def tw7278686733549869257:=0
def tw11406621442307063099:=0
def tw16649827839821741893:=0
def tw9303301455037759830:=0
def tw10950543262209066253:=0
def tw5405206463840267045:=0
def tw12817997686138750397:=0
def tw11006114511521423301:=0
def tw11326353897787373659:=0
def tw9069060441686652684:=0
def tw8725606108992154475:=0
def tw12866260111319817229:=0
def tw15927840054581530045:=0
def tw4167302298269532367:=0
def tw12117884652819866084:=0
def tw2385905377337917505:=0
def tw4970365532379967782:=0
def tw16038893599744905437:=0
def tw14208915271024871277:=0
def tw11517607938115816089:=0
def tw1149365831859609027:=0
def tw9143649994875304109:=0
def tw14379755662317816409:=0
def tw16942463778143281602:=0
def tw1589452051358597230:=0
def tw1622829235020824304:=0
def tw11817238235840111263:=0
def tw3986350460012177792:=0
def tw10939469558018005746:=0
def tw7234570413422893832:=0
def tw16471643841948137340:=0
def tw4338833378107264699:=0
def tw8807691467146758964:=0
def tw4323578581751671757:=0
def tw4771775447158845919:=0
def tw10634958181187847282:=0
def tw13722107917903147150:=0
def tw17292403183101405296:=0
def tw4475173032560308321:=0
def tw2906059854954704320:=0
def tw8674521789799372845:=0
def tw6505520502090388819:=0
def tw12499174898009684961:=0
def tw5617930488381504477:=0
def tw5920313439276710608:=0
def tw9221100449920751275:=0
def tw3420020378179894638:=0
def tw18433946458940250629:=0
def tw381082295500419006:=0
def tw13297669434170313275:=0
def tw9183681054077186248:=0
def tw11634013053226882830:=0
def tw2196098579943911830:=0
def tw16171631715744861268:=0
def tw168692346803157840:=0
def tw15832359918979447446:=0
def tw15633831031166481969:=0
def tw17348445344347188455:=0
def tw5571618960051660495:=0
def tw7512255457969098577:=0
def tw16899663137543602440:=0
def tw10828698580368885254:=0
def tw1476205509701905444:=0
def tw5091955449311964382:=0
def tw10949369385773200814:=0
def tw4993474354679043255:=0
def tw11321631015462266573:=0
def tw17958801839782400961:=0
def tw14345438492670831884:=0
def tw3131267440116467729:=0
def tw15277144181696010022:=0
def tw1944052038586852759:=0
def tw11543922661377084319:=0
def tw8381823673580572829:=0
def tw7107255247252852533:=0
def tw3823264219167039339:=0
def tw12550130582586599017:=0
def tw12884779934002073028:=0
def tw17419238938021416767:=0
def tw8610293928727637409:=0
def tw10608044012568663897:=0
def tw9703898082940995709:=0
def tw3799542307951943047:=0
def tw14476159344932441270:=0
def tw10858041653618239090:=0
def tw708289626419023661:=0
def tw3107059637471044262:=0
def tw2507990723709147706:=0
def tw8657757799546003098:=0
def tw14433861724003946181:=0
def tw7371733585743087278:=0
def tw2067058438561725120:=0
def tw6963753704759760455:=0
def tw17115448891451488611:=0
def tw17072750474335063558:=0
def tw16278906444133273704:=0
def tw1568608381331451031:=0
def tw15145267946229170295:=0
def tw17672439070184036293:=0
def tw6848416010360152981:=0
def tw12812237296977214302:=0
def tw13449693149561578484:=0
def tw5085125451363184103:=0
def tw12147669402948691223:=0
def tw15966976742038519852:=0
def tw17226054038040097906:=0
def tw13045396782619223604:=0
def tw11742268098646069488:=0
def tw2839653516011766783:=0
def tw6596610604956035597:=0
def tw490486097149928196:=0
def tw16322746803791599359:=0
def tw18187043108862931927:=0
def tw2600552330321737383:=0
def tw17468039030942848596:=0
def tw15032559741730338767:=0
def tw3387162017224822411:=0
def tw5246673606399845217:=0
def tw9145557500301081367:=0
def tw16844655049036769135:=0
def tw13707416505446677464:=0
def tw14954213487303816576:=0
def tw16375212321963062331:=0
def tw12057845333652551248:=0
def tw727865890811990467:=0
def tw12884101900468210487:=0
def tw11289354207297460743:=0
def tw961104049745887337:=0
def tw3189078363494667134:=0
def tw13917337809570710482:=0
def tw18042133595690585796:=0
def tw11594611912646708752:=0
def tw11282658895498473221:=0
def tw17960415566469047976:=0
def tw4172437190706171494:=0
def tw17389906833090613355:=0
def tw1658949033877120548:=0
def tw16169389009543058041:=0
def tw4575766816108414196:=0
def tw5842129537538015900:=0
def tw14257790540394702346:=0
def tw18230915103933235406:=0
def tw12800494769572310892:=0
def tw15170827073130522122:=0
def tw3497202463570870352:=0
def tw5684725800700452263:=0
def tw784741457101427237:=0
def tw17224913884149607385:=0
def tw8804384320237248316:=0
def tw8020512088503424018:=0
def tw10403630970289930970:=0
def tw9942010518782969881:=0
def tw1877117773073309651:=0
def tw8291034531631710840:=0
def tw17140648560973905194:=0
def tw6474796088136129870:=0
def tw11280840191426420968:=0
def tw12406113253650947460:=0
def tw13408431509333314876:=0
def tw2672041458363740765:=0
def tw9903811737180771737:=0
def tw9168027990414276451:=0
def tw10382658474226023385:=0
def tw5005415701234340977:=0
def tw8009777926953864735:=0
def tw6741621567662131419:=0
def tw2204332153492773729:=0
def tw18306942089499111422:=0
def tw9098459273834206841:=0
def tw4599989828010896064:=0
def tw4616388864227434920:=0
def tw15626618494977464797:=0
def tw995448330802721267:=0
def tw5250355336705423697:=0
def tw2973578937555108820:=0
def tw15740693835120890521:=0
def tw13138465380038113967:=0
def tw4543703544571342134:=0
def tw16770632680198797890:=0
def tw11907928304233109676:=0
def tw11203503998071735365:=0
def tw9652030974058767782:=0
def tw9133123572905500410:=0
def tw17852442548483700586:=0
def tw2858632610707940064:=0
def tw15727495345169862578:=0
def tw2740899681859272790:=0
def tw13198336022399162696:=0
def tw12165704820848179958:=0
def tw13830766797162606182:=0
def tw6351091913711454715:=0
def tw5509816271747218178:=0
def tw11864491668802394344:=0
def tw7980064597575961638:=0
def tw5362212106984622351:=0
def tw13229525154464922470:=0
def tw2234841930756833974:=0
def tw16733364977279383605:=0
def tw1035470252839762795:=0
def tw1985536255004763359:=0
def tw3544437238418777219:=0
def tw6308708409305026125:=0
def tw7587999443294436285:=0
def tw6878397025765134057:=0
def tw13566625730124580315:=0
def tw16815261528156772328:=0
def tw17980287174296316242:=0
def tw7723910055754557683:=0
def tw1681341670165608576:=0
def tw4170276976641976434:=0
def tw1801678708258427934:=0
def tw2864884946735592224:=0
def tw18160908651354903264:=0
def tw14274058017093163118:=0
def tw16069692985515456885:=0
def tw12674292037097932554:=0
def tw8914809393417798048:=0
def tw3660604839244480528:=0
def tw13786322837501286455:=0
def tw17973834033381018482:=0
def tw1188729415155868333:=0
def tw16380979638536900847:=0
def tw12953384438724506485:=0
def tw4665489518128731059:=0
def tw4800619084810757168:=0
def tw4860372860619019974:=0
def tw11997254496890805808:=0
def tw10815423049798536841:=0
def tw3248910802394193897:=0
def tw13523528990536622061:=0
def tw4231709021510685174:=0
def tw8712105995639945229:=0
def tw3584457832231506791:=0
def tw7350050429489297356:=0
def tw10396961680386030332:=0
def tw7081579363946620903:=0
def tw11282292806480951367:=0
def tw7633534495431598111:=0
def tw12682477347389436753:=0
def tw9522147017186056447:=0
def tw1669423883425265440:=0
def tw6928339986762034407:=0
def tw10471133736831582419:=0
def tw9034950758849986521:=0
def tw4538642385137086733:=0
def tw15683439429422547182:=0
def tw1485418656947085911:=0
def tw8805967378320130886:=0
def tw16999645491816548016:=0
def tw7291673471744195518:=0
def tw14695214522020107385:=0
def tw9148842406065955185:=0
def tw16257196331277210395:=0
def tw11069314371503845427:=0
def tw5684668225446299570:=0
def tw16470534916155178107:=0
def tw14134571819625578153:=0
def tw8340449905038395331:=0
def tw14561395435532685435:=0
def tw5218907970296306058:=0
def tw2200217261469198195:=0
def tw13552889920505138511:=0
def tw10017870795546348274:=0
def tw9841817828835521911:=0
def tw8162270516300670028:=0
def tw4465806985409527751:=0
def tw5295586681571021597:=0
def tw4479780592331526171:=0
def tw6194762226313079380:=0
def tw3068225087752850795:=0
def tw10518210222571426327:=0
def tw16307322033055999406:=0
def tw4808287304036544747:=0
def tw2561534970700050770:=0
def tw6540170728834407324:=0
def tw6351849214521970567:=0
def tw3565653206407648518:=0
def tw2429279430270792914:=0
def tw5205574272640946097:=0
def tw5791357322358276891:=0
def tw8823191788510531902:=0
def tw2315306303174357799:=0
def tw5815904317646669455:=0
def tw18046446903860788351:=0
def tw14441884937778313030:=0
def tw11443891988319198022:=0
def tw11883186783455500875:=0
def tw8846861801988693976:=0
def tw14591196837366579186:=0
def tw5991297664691126403:=0
def tw6720839283103626312:=0
def tw1740840891430070474:=0
def tw8040046069133082374:=0
def tw12726334656662361883:=0
def tw17550865392804796152:=0
def tw4603310287359067474:=0
def tw7748658541973924442:=0
def tw1352080444567212362:=0
def tw14943095947848592233:=0
def tw8721179055248632740:=0
def tw6526041768189202925:=0
def tw16816830084496077450:=0
def tw6607406055604376147:=0
def tw6675003086170990909:=0
def tw2799122999163436885:=0
def tw1061325028754269220:=0
def tw8235293208584804203:=0
def tw14936789966019829331:=0
def tw3057862251586853415:=0
def tw1826682133893171373:=0
def tw334925732591321844:=0
def tw8107169583499557616:=0
def tw1414421741932504240:=0
def tw14638074093568506080:=0
def tw13444549867074879624:=0
def tw6565798566002482352:=0
def tw3640333699473408155:=0
def tw14789573495177842593:=0
def tw7064581182583185138:=0
def tw17051785697335396811:=0
def tw11369305952144448321:=0
def tw16362198249800718739:=0
def tw16829199745326870728:=0
def tw9380321514954799842:=0
def tw14247325141131761896:=0
def tw7049206853141532789:=0
def tw16980037110223340339:=0
def tw12079474121600199512:=0
def tw16830680695003113479:=0
def tw4036062258914350658:=0
def tw7481614909387602523:=0
def tw4918827060594754949:=0
def tw14898948331773935290:=0
def tw15099372145948210828:=0
def tw12838928288871068502:=0
def tw3602803767041534424:=0
def tw2238649115137470674:=0
def tw17019620774218704057:=0
def tw598996579843412332:=0
def tw12065321385595837267:=0
def tw9158534584938511795:=0
def tw10141775654403655816:=0
def tw5751503946249482745:=0
def tw2546837882540685768:=0
def tw10228626512830362738:=0
def tw11324183644894420303:=0
def tw5966490451014629128:=0
def tw2436273412611351529:=0
def tw8729523771677730137:=0
def tw18051524427638406005:=0
def tw367821234182367865:=0
def tw2666764066726005542:=0
def tw13271152737516021396:=0
def tw8296491558525973418:=0
def tw10278763755068633065:=0
def tw3011980548849485974:=0
def tw5086049556069796276:=0
def tw11155761297014464151:=0
def tw1385716029244795238:=0
def tw10059920896902782692:=0
def tw17648919697374046462:=0
def tw3489427782892978694:=0
def tw5566953405764354209:=0
def tw4336878845921677241:=0
def tw9541835272790050129:=0
def tw6336980029391782582:=0
def tw13213636238622841818:=0
def tw4709401177269693212:=0
def tw9268491557835452114:=0
def tw3997992136601012324:=0
def tw4791663559930356118:=0
def tw18109405555623934442:=0
def tw5796141828340617729:=0
def tw1551466557549604112:=0
def tw2354745874607534340:=0
def tw5498351135009234020:=0
def tw16150821323497358611:=0
def tw388039574278384552:=0
def tw4841314894846143625:=0
def tw14479586341543373033:=0
def tw4006470785326934725:=0
def tw12156771334453401414:=0
def tw68492499413926808:=0
def tw8738221734063086706:=0
def tw15759923647135947950:=0
def tw6599936525083315849:=0
def tw1079113407754128092:=0
def tw3503388858044871646:=0
def tw14145555285163970948:=0
def tw255931787816995633:=0
def tw6752812260143308082:=0
def tw3168763241217608893:=0
def tw12158777350563861381:=0
def tw5799411797673179217:=0
def tw8312602719299983912:=0
def tw12237357292076547785:=0
def tw8847925358609229148:=0
def tw11039553345165265118:=0
def tw10545177375035342148:=0
def tw11685230515894037615:=0
def tw14507176518379738747:=0
def tw1701245654983905739:=0
end PySem.W.Fast
set_option maxHeartbeats 0 in
theorem PySem.Challenge.cw_evenyoke_k53_deeds_refused_holds : PySem.Challenge.rw_evenyoke_k53_deeds_refused.Holds := by
 w_on; o_law; k_head; (case hw=>w_witness2)
 k_fill
 refine L2.RX.walk_ofR (l:=PySem.Challenge.rw_evenyoke_k53_deeds_refused) (n:=63) (k:=20) (x:="_law_script") (ev:=My.e_law) (ts:=[(519,My.lamS.qual)]) rfl (by decide) rfl ⟨rfl,by decide,by decide⟩ (fun w h Y=>PySem.W.km_in_of Y) (fun w h Y b q e=>?T) (fun w b q e=>?C) (fun w=>?kt) (fun w=>?kl) ?F ?S
 case T=>exact PySem.W.km_tabs_of Y b (by have:=L2.RX.one_tab e; subst this; decide)
 case C=>have:=L2.RX.one_tab e; subst this; exact⟨521,by kernel_rfl⟩
 case kt=>kernel_rfl
 case kl=>kernel_rfl
 case S=>exact fun ns _=>⟨_,My.law_ok My.okH_all ns⟩
 case F =>
  intro w mg fa h KX G hmg
  refine' My.all_mk KX G hmg (by decide) ?hcd ?uPour ?uRoll ?uHouse ?kN ?kNl ?ck ?m0 ?t1 ?t2 ?m3 ?m4 ?m5 ?m6 ?m7 ?m8 ?m9 ?m10 ?m11 ?m12 ?m13 ?m14 ?m15 ?m16 ?m17 ?m18 ?t19 ?t20 ?t21 ?t22 ?t23 ?t24 ?t25 ?t26 ?t27 ?t28 ?t29 ?t30 ?t31 ?t32 ?t33 ?t34 ?t35 ?t36 ?m37 ?m38 ?s39 ?m40 ?m41 ?m42 ?m43 ?m44 ?m45 ?m46 ?m47 ?m48 ?m49 ?m50 ?m51 ?m52 ?m53 ?m54 ?t55 ?t56 ?t57 ?m58 ?m59 ?m60 ?m61 ?m62 ?m63 ?t64 ?t65 ?t66 ?t67 ?t68 ?t69
  (case uPour=>k_is)
  (case uRoll=>k_is)
  (case uHouse=>k_is)
  (case hcd=>kernel_rfl)
  (case kN=>k_is)
  (case kNl=>k_is)
  (case m0=>walk_at "m")
  (case t1=>walk_at "t")
  (case t2=>walk_at "t")
  (case m3=>walk_at "m")
  (case m4=>walk_at "m")
  (case m5=>walk_at "m")
  (case m6=>walk_at "m")
  (case m7=>walk_at "m")
  (case m8=>walk_at "m")
  (case m9=>walk_at "m")
  (case m10=>walk_at "m")
  (case m11=>walk_at "m")
  (case m12=>walk_at "m")
  (case m13=>walk_at "m")
  (case m14=>walk_at "m")
  (case m15=>walk_at "m")
  (case m16=>walk_at "m")
  (case m17=>walk_at "m")
  (case m18=>walk_at "m")
  (case t19=>walk_at "t")
  (case t20=>walk_at "t")
  (case t21=>walk_at "t")
  (case t22=>walk_at "t")
  (case t23=>walk_at "t")
  (case t24=>walk_at "t")
  (case t25=>walk_at "t")
  (case t26=>walk_at "t")
  (case t27=>walk_at "t")
  (case t28=>walk_at "t")
  (case t29=>walk_at "t")
  (case t30=>walk_at "t")
  (case t31=>walk_at "t")
  (case t32=>walk_at "t")
  (case t33=>walk_at "t")
  (case t34=>walk_at "t")
  (case t35=>walk_at "t")
  (case t36=>walk_at "t")
  (case m37=>walk_at "m")
  (case m38=>walk_at "m")
  (case s39=>walk_at "s")
  (case m40=>walk_at "m")
  (case m41=>walk_at "m")
  (case m42=>walk_at "m")
  (case m43=>walk_at "m")
  (case m44=>walk_at "m")
  (case m45=>walk_at "m")
  (case m46=>walk_at "m")
  (case m47=>walk_at "m")
  (case m48=>walk_at "m")
  (case m49=>walk_at "m")
  (case m50=>walk_at "m")
  (case m51=>walk_at "m")
  (case m52=>walk_at "m")
  (case m53=>walk_at "m")
  (case m54=>walk_at "m")
  (case t55=>walk_at "t")
  (case t56=>walk_at "t")
  (case t57=>walk_at "t")
  (case m58=>walk_at "m")
  (case m59=>walk_at "m")
  (case m60=>walk_at "m")
  (case m61=>walk_at "m")
  (case m62=>walk_at "m")
  (case m63=>walk_at "m")
  (case t64=>walk_at "t")
  (case t65=>walk_at "t")
  (case t66=>walk_at "t")
  (case t67=>walk_at "t")
  (case t68=>walk_at "t")
  (case t69=>walk_at "t")
  (case ck=>kernel_rfl)
