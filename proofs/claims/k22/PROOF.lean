import PyProof.Rows.All
import Wide.All
import OpenK.AllK
import Wide.FinOn
import Lean
import PyProof.EqAt
import PyProof.EqKinds
import PyProof.TupleCall
import PyProof.ZipIter
import KE.KTryMore
import PyProof.EnumMake
import KE.KRevSl
import KE.KRevIter
import KE.KDictLaws
import KE.KIntText
import KE.KStrOpen
import KE.KxWritten
import PySem.Challenge.RW_twomakes_k22_ends_that_break_a_rule
set_option Elab.async false
set_option linter.all false
set_option maxRecDepth 100000
abbrev zn:=PySem.W.Frag
abbrev yp:=List (PySem.Addr×PySem.Obj)
abbrev xz:=PySem.Value->PySem.Shared->Prop
abbrev xL:=PySem.Str->Option PySem.Value
abbrev wf:=List PySem.Value
abbrev wn:=List Int
abbrev ww:=List PySem.Str
abbrev wE:=List PySem.Addr
abbrev wP:=List PySem.PyData
abbrev wS:=Option PySem.Value
abbrev wT:=Option PySem.Addr
abbrev v6:=PySem.FuncData
abbrev ul:=Option Int
abbrev ut:=List PySem.Expr
abbrev u8:=List PySem.Stmt
abbrev tx:=List (Int×Int)
abbrev tz:=PySem.Program
abbrev t0:=PySem.Around
abbrev aaa:=@PySem.wpAny_bind
abbrev aab:=@List.length_map
abbrev aac:=@PySem.Heap.get?_push_of_some
abbrev aad:=@PySem.wpAny_pure
abbrev aae:=@Nat.le_refl
abbrev aaf:=@List.mem_cons
abbrev aag:=@List.getElem?_map
abbrev aah:=@PySem.Heap.lt_size
abbrev aai:=@PySem.Heap.get?_push_size
abbrev aaj:=@Bool.false_ne_true
abbrev aak:=@List.getElem?_eq_getElem
abbrev aal:=@List.getElem?_eq_some_iff
abbrev aam:=@Nat.le_trans
abbrev aan:=@List.mem_cons_of_mem
abbrev aao:=@if_neg
abbrev aap:=@List.size_toArray
abbrev aaq:=@decide_eq_false
abbrev aar:=@PySem.W.Fast.te14364793385576792824
abbrev aas:=@Bool.and_eq_true
abbrev aat:=@Nat.lt_of_lt_of_le
abbrev aau:=@if_pos
abbrev aav:=@List.mem_append_right
abbrev aaw:=@List.mem_cons_self
abbrev aax:=@PySem.W.Fast.te10110043849684766642
abbrev aay:=@Int.toNat_natCast
abbrev aaz:=@Nat.le_succ_of_le
abbrev aaA:=@Array.length_toList
abbrev aaB:=@List.length_append
abbrev aaC:=@PySem.F.plainAttrs_list
abbrev aaD:=@Nat.ne_of_lt
abbrev aaE:=@List.getD_eq_getElem?_getD
abbrev aaF:=@Option.some.inj
abbrev aaG:=@List.length_cons
abbrev aaH:=@Option.map_eq_some_iff
abbrev aaI:=@PySem.Heap.SameBut.update
abbrev aaJ:=@Nat.zero_le
abbrev aaK:=@List.all_cons
abbrev aaL:=@Nat.le_of_lt
abbrev aaM:=@List.lookup_cons
abbrev aaN:=@List.mem_singleton
abbrev aaO:=@PySem.W.mg_none_of
abbrev aaP:=@Nat.lt_irrefl
abbrev aaQ:=@List.map_cons
abbrev aaR:=@PySem.F.slot_list_append
abbrev aaS:=@PySem.F.type_list_append
abbrev aaT:=@PySem.Obj.data_mapFields
abbrev aaU:=@Int.emod_lt_of_pos
abbrev aaV:=@PySem.Heap.get?_update_self
abbrev aaW:=@PySem.Heap.size_push
abbrev aaX:=@PySem.wpAny_newObj_type
abbrev aaY:=@List.take_add_one
abbrev aaZ:=@List.mem_append
abbrev aa0:=@PySem.wpAny_holding
abbrev aa1:=@PySem.wpAny_callSpecial?_slot
abbrev aa2:=@PySem.W.kia_one
abbrev aa3:=@List.getElem?_zip_eq_some
abbrev aa4:=@Array.getElem?_eq_getElem
abbrev aa5:=@Int.emod_nonneg
abbrev aa6:=@PySem.wpAny_call_entry
abbrev aa7:=@List.all_eq_true
abbrev aa8:=@List.getElem_mem
abbrev aa9:=@Option.isSome_iff_exists
abbrev aba:=@PySem.boot_len
abbrev abb:=@PySem.wpAny_field
abbrev abc:=@PySem.wpAny_ite_split
abbrev abd:=@PySem.wpAny_mono
abbrev abe:=@List.mem_of_getElem?
abbrev abf:=@List.length_take
abbrev abg:=@List.mem_map
abbrev abh:=@List.getElem?_append_right
abbrev abi:=@PySem.wpAny_truthy_bool
abbrev abj:=@PySem.wpAny_pyIter_list
abbrev abk:=@Nat.le_succ
abbrev abl:=@List.replicate_succ
abbrev abm:=@decide_eq_true
abbrev abn:=@PySem.W.mg_of
abbrev abo:=@List.mem_filter
abbrev abp:=@List.length_eq_zero_iff
abbrev abq:=@Int.eq_ofNat_of_zero_le
abbrev abr:=@PyProof.Rows.F.plain_set_update_loop
abbrev abt:=@PyProof.Rows.callWith_type1
abbrev abu:=@PySem.F.slot_tuple_iterator_next
abbrev abv:=@Nat.lt_succ_self
abbrev abw:=@List.length_drop
abbrev abx:=@List.not_mem_nil
abbrev aby:=@List.take_length
abbrev abz:=@congrArg
abbrev abA:=@Nat.ne_of_gt
abbrev abB:=@PySem.wpAny_Call_Name_kw
abbrev abC:=@Array.getElem?_toList
abbrev abD:=@PySem.Obj.isFreed_of_fields
abbrev abE:=@PySem.wpAny_setField_rec
abbrev abF:=@PyProof.Rows.boot_int
abbrev abG:=@PySem.wpAny_seqItems
abbrev abH:=@PySem.wpAny_setField
abbrev abI:=@List.pairwise_iff_getElem
abbrev abJ:=@PySem.Around.under_plainId
abbrev abK:=@Array.getElem_toList
abbrev abL:=@PySem.wpAny_passesOwn
abbrev abM:=@PyProof.Rows.slot_tuple_getitem
abbrev abN:=@List.flatten_cons
abbrev abO:=@List.append_assoc
abbrev abP:=@List.length_nil
abbrev abQ:=@PySem.mem_of_lookup
abbrev abR:=@List.any_cons
abbrev abS:=@PyProof.Rows.boot_tuple
abbrev abT:=@beq_iff_eq
abbrev abU:=@List.getElem?_set_self
abbrev abV:=@PySem.Heap.get?_update_other
abbrev abW:=@List.take_of_length_le
abbrev abX:=@PyProof.Rows.boot_list
abbrev abY:=@Nat.le_of_eq
abbrev abZ:=@List.append_nil
abbrev ab0:=@PySem.codeAny_mono
abbrev ab1:=@List.nodup_cons
abbrev ab2:=@List.find?_cons
abbrev ab3:=@List.map_set
abbrev ab4:=@PySem.codeAny_builtin
abbrev ab5:=@List.map_append
abbrev ab6:=@Int.le_refl
abbrev ab7:=@PySem.W.looks_pair
abbrev ab8:=@List.mem_append_left
abbrev ab9:=@PySem.F.args_object_init_3
abbrev aca:=@List.mem_iff_getElem
abbrev acb:=@List.getElem?_append_left
abbrev acd:=@List.mem_or_eq_of_mem_set
abbrev ace:=@PyProof.Rows.F.entry_set_update_loop
abbrev acf:=@beq_eq_false_iff_ne
abbrev acg:=@List.filterMap_cons
abbrev ach:=@PySem.F.args_tuple_add_2
abbrev aci:=@PySem.W.Fast.te5923862056798008813
abbrev acj:=@Ne.symm
abbrev ack:=@PySem.F.entry_tuple_add
abbrev acm:=@PySem.wpAny_pyIter_tuple
abbrev acn:=@Bool.false_eq_true
abbrev aco:=@List.filter_append
abbrev acp:=@PySem.F.slot_tuple_add
abbrev acq:=@if_true
abbrev acr:=@PySem.Obj.cls_mapFields
abbrev acs:=@PySem.wpAny_rule
abbrev acu:=@List.Perm.refl
abbrev acv:=@PyProof.Rows.callWith_builtin1
abbrev acw:=@Nat.sub_self
abbrev acx:=@List.map_map
abbrev acy:=@Int.emod_add_mul_ediv
abbrev acz:=@PySem.F.typeCall_zip_2
abbrev acA:=@List.getElem_map
abbrev acB:=@Int.mul_le_mul_of_nonneg_left
abbrev acC:=@PySem.wpAny_updateSeq_pair
abbrev acD:=@List.getElem?_of_mem
abbrev acE:=@PySem.plainId_quiet
abbrev acF:=@PySem.wpAny_execs_nil
abbrev acG:=@Bool.eq_iff_iff
abbrev acH:=@PySem.W.plainGet_of
abbrev acI:=@List.length_set
abbrev acJ:=@PySem.F.slot_zip_next
abbrev acK:=@PySem.F.newCall_zip_2
abbrev acL:=@PySem.F.entry_zip_new
abbrev acM:=@List.mem_filterMap
abbrev acN:=@PySem.Calls.spliced_cons
abbrev acO:=@PySem.W.callWith_K
abbrev acP:=@Nat.lt_of_le_of_lt
abbrev acQ:=@List.pairwise_cons
abbrev acR:=@Nat.succ.inj
abbrev acS:=@List.drop_eq_getElem_cons
abbrev acT:=@PySem.F.plain_extend_loop
abbrev acU:=@PySem.Calls.spliced_nil
abbrev acV:=@Nat.lt_succ_of_lt
abbrev acW:=@List.find?_append
abbrev acX:=@Decidable.not_not
abbrev acY:=@PySem.W.piece_app
abbrev acZ:=@PySem.W.segRun_of
abbrev ac0:=@PySem.wpAny_standAt
abbrev ac1:=@PySem.wpAny_onRaise
abbrev ac2:=@PySem.wpAny_attempt
abbrev ac3:=@Nat.min_le_right
abbrev ac4:=@Option.getD_none
abbrev ac5:=@beq_self_eq_true
abbrev ac6:=@List.getElem_set
abbrev ac7:=@List.ext_getElem
abbrev ac8:=@Nat.succ_ne_zero
abbrev ac9:=@List.of_mem_zip
abbrev ada:=@List.nil_append
abbrev adb:=@List.forIn_cons
abbrev ade:=@PySem.callType_new
abbrev adf:=@PySem.F.called_zip
abbrev adg:=@List.length_zip
abbrev adh:=@if_false
abbrev adi:=@PySem.call_meets
abbrev adj:=@or_false
abbrev adk:=@PySem.intKind_is
abbrev adl:=@List.forIn_nil
namespace L2
open PySem PySem.Spec PyProof.Rows
variable {us:wf}{x:Str}{u:Value}{a b dx C:Addr}{o c tg:Expr}{P prog:tz}{w:World}{h h' base:Heap}{pins:yp}{s s':Shared}{t' k:Nat}{ch fp:wE}{N ps:ww}{M:Model}{A:t0}{E Q:xz}{pos p:Pos}{op:CmpOp}{es:ut}{body:u8}{f:Value->Value->Sem Value}{mA mg:xL}{pl:Sem Bool}{kw:List (Str×Value)}{fd:v6}{kindOf:Str->Option NameKind}
abbrev Key:=Sum Int Str
def lC:Key->Value->Bool
 | .inl k,v=>Value.isInt k v
 | .inr x,v=>Value.isStrOf x v
def Ll(w:World):Key->Int
 | .inl k=>hashInt k
 | .inr x=>hashStr w x
theorem bS:∀{k:Key} {v:Value},lC k v=true->(∃ i t,k=Sum.inl i/\v=Value.int i t)\/(∃ x t,k=Sum.inr x/\v=Value.str x t)
 | .inl i,v,h=>by
  obtain⟨t,e⟩:=Value.isInt_shape (k:=i) (v:=v) h;exact .inl ⟨i,t,rfl,e⟩
 | .inr x,v,h=>by
  obtain⟨t,e⟩:=Value.isStrOf_shape (x:=x) (v:=v) h;exact .inr ⟨x,t,rfl,e⟩
theorem xR(i:Int)(t:Tok):lC (.inl i) (.int i t)=true:=by simp[lC,Value.isInt]
theorem bY(x:Str)(t:Tok):lC (.inr x) (.str x t)=true:=by simp[lC,Value.isStrOf]
theorem Hm(a b:Int):decide ((Sum.inl a:Key)=Sum.inl b)=(a == b):=by
 by_cases e:a=b
 ·subst e;simp
 ·have h:¬ (Sum.inl a:Key)=Sum.inl b:=fun q=>e (Sum.inl.inj q);rw[aaq h];exact(acf.mpr e).symm
theorem Hn(a b:Str):decide ((Sum.inr a:Key)=Sum.inr b)=decide (a=b):=by
 by_cases e:a=b
 ·subst e;simp
 ·have h:¬ (Sum.inr a:Key)=Sum.inr b:=fun q=>e (Sum.inr.inj q);rw[aaq h,aaq e]
theorem Ho(a:Int)(b:Str):decide ((Sum.inl a:Key)=Sum.inr b)=false:=aaq (fun q=>nomatch q)
theorem Hq(a:Str)(b:Int):decide ((Sum.inr a:Key)=Sum.inl b)=false:=aaq (fun q=>nomatch q)
def fh(prog:tz)(w:World):PySem.KeyKind prog w Key where
 is:=lC
 hash:=Ll w
 inj:=fun v a b ha hb=>by
  rcases bS ha with⟨i,t,rfl,rfl⟩ | ⟨x,t,rfl,rfl⟩
  ·rcases bS hb with⟨j,u,rfl,e⟩ | ⟨y,u,rfl,e⟩
   ·injection e with e1 _;rw[e1]
   ·exact nomatch e
  ·rcases bS hb with⟨j,u,rfl,e⟩ | ⟨y,u,rfl,e⟩
   ·exact nomatch e
   ·injection e with e1 _;rw[e1]
 byValue:=fun k v h=>by
  rcases bS h with⟨i,t,rfl,rfl⟩ | ⟨x,t,rfl,rfl⟩<;>rfl
 pyHash:=fun hv h=>by
  rcases bS hv with⟨i,t,rfl,rfl⟩ | ⟨x,t,rfl,rfl⟩
  ·exact wpAny_pyHash_int h
  ·exact wpAny_pyHash_str h
 eqBool:=fun hu hv h=>by
  rcases bS hu with⟨i,t,rfl,rfl⟩ | ⟨x,t,rfl,rfl⟩
  ·rcases bS hv with⟨j,u,rfl,rfl⟩ | ⟨y,u,rfl,rfl⟩
   ·rw[Hm]at h;exact wpAny_eqBool_int h
   ·rw[Ho]at h;exact SeqAt.EqAt.int_str i t y u _ _ _ _ h
  ·rcases bS hv with⟨j,u,rfl,rfl⟩ | ⟨y,u,rfl,rfl⟩
   ·rw[Hq]at h;exact SeqAt.EqAt.str_int x t j u _ _ _ _ h
   ·rw[Hn]at h;exact wpAny_eqBool_str h
 «strs»:=fun k x t v h=>by
  rcases bS h with⟨i,u,rfl,e⟩ | ⟨y,u,rfl,e⟩
  ·exact nomatch e
  ·injection e with e1 _
   subst e1;cases v<;>rfl
theorem rm(prog:tz)(w:World)(i:Int)(t:Tok):(fh prog w).is (.inl i) (.int i t)=true:=xR i t
theorem rp(prog:tz)(w:World)(x:Str)(t:Tok):(fh prog w).is (.inr x) (.str x t)=true:=bY x t
inductive V where
 | cD | bl (b:Bool) | int (i:Int) | str (x:Str) | vY (b:Array UInt8) | Dk (b:UInt64) | ref (a:Addr) | ty (n:String)
 deriving DecidableEq
variable {v y:V}{vs:List V}
def RelV:V->Value->Prop
 | .cD,u=>u=Value.none
 | .bl b,u=>u=Value.bool b
 | .int i,u=>∃ t,u=Value.int i t
 | .str x,u=>∃ t,u=Value.str x t
 | .vY b,u=>∃ t,u=Value.bytes b t
 | .Dk b,u=>∃ t,u=Value.float b t
 | .ref a,u=>u=Value.ref a
 | .ty n,u=>u=Value.type n
abbrev Vals:List V->wf->Prop:=Paired RelV
theorem Vals.length{xs:List V}{us:wf}(r:Vals xs us):xs.length=us.length:=Paired.length r
theorem Vals.get:∀{xs:List V} {us:wf} {i:Nat} {x:V},Vals xs us->xs[i]?=some x->∃ u,us[i]?=some u/\RelV x u
 | _,_,_,_,.nil,e=>by simp at e
 | _,_,0,_,.cons r _,e=>by simp at e;subst e;exact⟨_,rfl,r⟩
 | _,_,i+1,x,.cons _ t,e=>by
  obtain⟨u,h1,h2⟩:=Vals.get (i:=i) (x:=x) t (by simpa using e);exact⟨u,by simpa using h1,h2⟩
theorem Vals.set{x:V}{u:Value}(r:RelV x u):∀{xs:List V} {us:wf} (i:Nat),Vals xs us->Vals (xs.set i x) (us.set i u)
 | _,_,_,.nil=>.nil
 | _,_,0,.cons _ t=>.cons r t
 | _,_,i+1,.cons q t=>.cons q (Vals.set r i t)
theorem Vals.append:∀{xs ys:List V} {us ws:wf},Vals xs us->Vals ys ws->Vals (xs++ys) (us++ws)
 | _,_,_,_,.nil,s=>s
 | _,_,_,_,.cons r t,s=>.cons r (Vals.append t s)
theorem Vals.take:∀{xs:List V} {us:wf} (n:Nat),Vals xs us->Vals (xs.take n) (us.take n)
 | _,_,0,_=>.nil
 | _,_,_+1,.nil=>.nil
 | _,_,n+1,.cons r t=>.cons r (Vals.take n t)
theorem Vals.drop:∀{xs:List V} {us:wf} (n:Nat),Vals xs us->Vals (xs.drop n) (us.drop n)
 | _,_,0,r=>r
 | _,_,_+1,.nil=>.nil
 | _,_,n+1,.cons _ t=>Vals.drop n t
def kJ:Option V->wS->Prop
 | some v,some u=>RelV v u
 | none,none=>True
 | _,_=>False
def KV{κ:Type}:List (κ×V)->List (κ×Value)->Prop:=Paired fun(p:κ×V) (q:κ×Value)=>p.1=q.1/\RelV p.2 q.2
def kV:Key->V
 | .inl i=>.int i
 | .inr x=>.str x
inductive HO where
 | lst (xs:List V)
 | tup (xs:List V)
 | dK (bC:List (Key×V)) | dT (bC:List (List Key×V))
 | set (S:Int->Bool) (n:Nat)
 | ins (C dx:Addr) (fs:List (Str×V))
 | own (x:Addr)
 | xd (fs:List (Str×V))
 | met (f x:Addr)
 | OT (lo hi:Int)
 | jJ (o:Obj) (u:HO)
 | FR (ps:Array Value)
 | ext (φ:Heap->Prop)
abbrev Hp:=Addr->Option HO
variable {H:Hp}
def upd(H:Hp)(a:Addr)(o:HO):Hp:=fun b=>if b=a then some o else H b
theorem cK{o:HO}:upd H a o a=some o:=by unfold upd;rw[aau rfl]
theorem bc{o:HO}(h:b≠a):upd H a o b=H b:=by unfold upd;rw[aao h]
theorem bH{o:HO}(h:H a=some o)(h':H b=none):a≠b:=by
 intro e;subst e;rw[h]at h';cases h'
section
variable (P:tz)(w:World)
def cn(H:Hp)(h:Heap)(a:Addr):HO->Prop
 | .lst xs=>xs.length<=sizeLine/\∃(aL:wf) (n:Nat),Vals xs aL/\h.get? a=some { cls:=.type "list",data:=.seq aL.toArray n }
 | .tup xs=>xs.length<=sizeLine/\∃ aL:List Value,Vals xs aL/\IsTup h a aL.toArray
 | .dK bC=>bC.length<=sizeLine/\(a == sysModules)=false/\∃ vs,KV bC vs/\h.DictOf (fh P w) a vs
 | .dT bC=>bC.length<=sizeLine/\(a == sysModules)=false/\∃ xs:List (List Key×Addr×Value),
   Paired (fun(p:List Key×V) (q:List Key×Addr×Value)=>p.1=q.1/\H q.2.1=some (.tup (p.1.map kV))/\RelV p.2 q.2.2) bC xs /\
   ∃ o es ep,h.get? a=some o/\o.ExactDict/\o.data=.dict es ep/\es.toList=xs.map (entryOfKey (tupleKind (fh P w)))/\(xs.map (·.1)).Nodup
 | .set S n=>h.SetOf (intKind P w) a S n
 | .ins C dx fs=>H dx=some (.own a)/\fs.length<=1000/\dx≠a/\h.get? a=some (PySem.W.instObj C dx) /\
   ∃ mA,h.Ns1 dx mA/\(∀ f,kJ (fs.lookup f) (mA f))/\PySem.Within mA (fs.map (·.1))
 | .own _=>∃ o,h.get? a=some o
 | .xd fs=>∃ mA,h.Ns1 a mA/\∀ f,kJ (fs.lookup f) (mA f)
 | .OT lo hi=>∃ t u v,h.get? a=some { cls:=.type "range",data:=.fields #[.int lo t,.int hi u,.int 1 v] }
 | .jJ o u=>h.get? a=some o/\cn H h a u
 | .FR ps=>h.get? a=some { cls:=.none,data:=.fields ps }
 | .met f x=>h.get? a=some (PySem.W.methodObj (.ref f) (.ref x))
 | .ext φ=>φ h/\(∃ o,h.get? a=some o)/\∀ h1 h2:Heap,φ h1->(∀ o,h1.get? a=some o->h2.get? a=some o)->φ h2
def dZ(H:Hp)(h:Heap):Prop:=∀ a o,H a=some o->cn P w H h a o
end
section
variable {H':Hp}{o:HO}
theorem cn.lt(x:cn P w H h a o):a < h.objs.size:=by
 cases o with
 | lst xs=>obtain⟨_,_,_,_,e⟩:=x;exact aah e
 | tup xs=>obtain⟨_,_,_,p⟩:=x;exact p.lt
 | dK bC=>obtain⟨_,_,_,_,o,_,_,e,_⟩:=x;exact aah e
 | dT bC=>obtain⟨_,_,_,_,o,_,_,e,_⟩:=x;exact aah e
 | set S n=>obtain⟨o,_,_,_,e,_⟩:=x;exact aah e
 | ins C dx fs=>obtain⟨_,_,_,e,_⟩:=x;exact aah e
 | own y=>obtain⟨_,e⟩:=x;exact aah e
 | xd fs=>obtain⟨_,⟨_,_,_,e,_⟩,_⟩:=x;exact aah e
 | OT lo hi=>obtain⟨_,_,_,e⟩:=x;exact aah e
 | jJ ob u=>obtain⟨e,_⟩:=x;exact aah e
 | FR ps=>exact aah (show h.get? a=some _ from x)
 | met f y=>exact aah (show h.get? a=some _ from x)
 | ext φ=>obtain⟨_,⟨_,e⟩,_⟩:=x;exact aah e
theorem Paired.Lm{α β:Type}{F G:α->β->Prop}:∀{Ln:List α} {Lo:List β},Paired F Ln Lo->(∀ a b,F a b->G a b)->Paired G Ln Lo
 | _,_,.nil,_=>.nil
 | _,_,.cons r t,f=>.cons (f _ _ r) (Paired.Lm t f)
theorem cn.rq(x:cn P w H h a o)(k:∀ b u,(b=a\/H b=some (.own a))->h.get? b=some u->h'.get? b=some u)(ho:∀ b,H b=some (.own a)->H' b=some (.own a))(ht:∀ b xs,H b=some (.tup xs)->H' b=some (.tup xs)):cn P w H' h' a o:=by
 induction o with
 | lst xs=>obtain⟨z,aL,n,r,e⟩:=x;exact⟨z,aL,n,r,k _ _ (.inl rfl) e⟩
 | tup xs=>obtain⟨z,aL,r,ob,e,c⟩:=x;exact⟨z,aL,r,ob,k _ _ (.inl rfl) e,c⟩
 | dK bC=>obtain⟨z,y,vs,r,ob,es,ep,e,c⟩:=x;exact⟨z,y,vs,r,ob,es,ep,k _ _ (.inl rfl) e,c⟩
 | dT bC =>
  obtain⟨z,y,xs,r,ob,es,ep,e,c⟩:=x;exact⟨z,y,xs,Paired.Lm r fun p q z=>⟨z.1,ht _ _ z.2.1,z.2.2⟩,ob,es,ep,k _ _ (.inl rfl) e,c⟩
 | set S n=>obtain⟨ob,es,ep,t,e,c⟩:=x;exact⟨ob,es,ep,t,k _ _ (.inl rfl) e,c⟩
 | ins C dx fs =>
  obtain⟨d,z,ne,e,mA,⟨od,es,ep,e2,c⟩,r⟩:=x;exact⟨ho _ d,z,ne,k _ _ (.inl rfl) e,mA,⟨od,es,ep,k _ _ (.inr d) e2,c⟩,r⟩
 | own y=>obtain⟨ob,e⟩:=x;exact⟨ob,k _ _ (.inl rfl) e⟩
 | xd fs=>obtain⟨mA,⟨od,es,ep,e,c⟩,r⟩:=x;exact⟨mA,⟨od,es,ep,k _ _ (.inl rfl) e,c⟩,r⟩
 | OT lo hi=>obtain⟨t,u,v,e⟩:=x;exact⟨t,u,v,k _ _ (.inl rfl) e⟩
 | jJ ob u ih=>obtain⟨e,q⟩:=x;exact⟨k _ _ (.inl rfl) e,ih q⟩
 | FR ps =>
  have e:h.get? a=some { cls:=.none,data:=.fields ps }:=x;show h'.get? a=some { cls:=.none,data:=.fields ps };exact k a _ (.inl rfl) e
 | met f y =>
  have e:h.get? a=some (PySem.W.methodObj (.ref f) (.ref y)):=x;show h'.get? a=some (PySem.W.methodObj (.ref f) (.ref y));exact k a _ (.inl rfl) e
 | ext φ=>obtain⟨p,⟨o,e⟩,st⟩:=x;exact⟨st _ _ p fun o q=>k _ _ (.inl rfl) q,⟨o,k _ _ (.inl rfl) e⟩,st⟩
theorem dZ.lt(x:dZ P w H h)(e:H a=some o):a < h.objs.size:=(x a o e).lt
theorem dZ.fresh(x:dZ P w H h)(e:h.objs.size<=a):H a=none:=by
 cases q:H a with
 | none=>rfl
 | some u=>exact absurd (aat (x.lt q) e) (aaP _)
theorem dZ.kept(x:dZ P w H h)(k:∀ b u,h.get? b=some u->h'.get? b=some u):dZ P w H h':=fun a o e =>
 (x a o e).rq (fun b u _ q=>k b u q) (fun _ q=>q) fun _ _ q=>q
theorem dZ.laid(x:dZ P w H h)(k:∀ b u,h.get? b=some u->h'.get? b=some u)(hp:h.objs.size<=a)(new:cn P w (upd H a o) h' a o):dZ P w (upd H a o) h':=fun b u e=>by
 have hn:=x.fresh hp
 by_cases hb:b=a
 ·subst hb;rw[cK]at e;cases e;exact new
 ·rw[bc hb]at e;exact(x b u e).rq (fun c v _ q=>k c v q) (fun c q=>by rw[bc (bH q hn)];exact q) fun c xs q=>by rw[bc (bH q hn)];exact q
end
def Rd(H:Hp)(a:Addr)(u:HO):Prop:=H a=some u\/∃ o,H a=some (.jJ o u)
theorem Rd.ok{u:HO}(r:Rd H a u)(x:dZ P w H h):cn P w H h a u:=by
 rcases r with r | ⟨o,r⟩
 ·exact x a u r
 ·obtain⟨_,q⟩:=x a _ r;exact q
def OU:Option HO->Prop
 | some (.lst _)=>True
 | some (.dK _)=>True
 | some (.dT _)=>True
 | some (.set _ _)=>True
 | some (.ins _ _ _)=>True
 | some (.ext _)=>True
 | _=>False
section
variable {x e:Addr}{o':HO}
theorem dZ.write(ok:dZ P w H h)(mu:OU (H x))(he:e=x\/H e=some (.own x))(k:∀ b u,b≠e->h.get? b=some u->h'.get? b=some u)(zA:∃ u,h'.get? e=some u)(new:cn P w (upd H x o') h' x o'):dZ P w (upd H x o') h':=fun b u q=>by
 have Lp:∀ c y,H c=some (.own y)->c≠x:=fun c y r z=>by subst z;rw[r]at mu;exact mu
 have P6:∀ c xs,H c=some (.tup xs)->c≠x:=fun c xs r z=>by subst z;rw[r]at mu;exact mu
 by_cases hb:b=x
 ·subst hb;rw[cK]at q;cases q;exact new
 ·rw[bc hb]at q
  by_cases Hr:b=e
  ·have q':H b=some (.own x):=by
    rcases he with z | z
    ·exact absurd (Hr.trans z) hb
    ·rw[Hr];exact z
   rw[q]at q';cases q';obtain⟨v,hv⟩:=zA;exact⟨v,by rw[Hr];exact hv⟩
  ·refine(ok b u q).rq (fun c v hc r=>k c v ?_ r) (fun c r=>by rw[bc (Lp c b r)];exact r) fun c xs r=>by rw[bc (P6 c xs r)];exact r
   rcases hc with rfl | hc
   ·exact Hr
   ·rintro rfl;rcases he with z | z
    ·exact Lp c b hc z
    ·rw[hc]at z;cases z;exact hb rfl
end
structure Un(fs ex:wE)(H H':Hp)(h h':Heap):Prop where
 keep:∀ b o,h.get? b=some o->H b=none->b ∉ fs->b ∉ ex->h'.get? b=some o
 slot:∀ b o,h.get? b=some o->H b=none->b∈fs->b ∉ ex->∃ sl,h'.get? b=some { o with slots:=sl }
 free:∀ b o,h.get? b=some o->H b=none->b ∉ ex->H' b=none
 there:∀ b o,h.get? b=some o->b ∉ ex->∃ o',h'.get? b=some o'
 oW:∀ b xs,H b=some (.tup xs)->H' b=some (.tup xs)
 nG:∀ b o u,H b=some (.jJ o u)->H' b=some (.jJ o u)
 oX:∀ b ps,H b=some (.FR ps)->∃ more,H' b=some (.FR (ps++more))
section
variable {fs eW ex OV:wE}{H1 H2:Hp}{h1 h2:Heap}{x e:Addr}{o:HO}
theorem Un.any(u:Un fs ex H H1 h h1){ob:Obj}(q:h.get? b=some ob)(n:H b=none)(hx:b ∉ ex):∃ sl,h1.get? b=some { ob with slots:=sl }:=by
 by_cases hb:b∈fs
 ·exact u.slot b ob q n hb hx
 ·exact⟨ob.slots,u.keep b ob q n hb hx⟩
theorem Un.kept(k:∀ b u,h.get? b=some u->h'.get? b=some u):Un fs ex H H h h' :=
 ⟨fun b ob q _ _ _=>k b ob q,fun b ob q _ _ _=>⟨ob.slots,k b ob q⟩,fun _ _ _ n _=>n,fun b ob q _=>⟨ob,k b ob q⟩,fun _ _ q=>q,fun _ _ _ q=>q,fun _ ps q=>⟨#[],by rw[q];simp⟩⟩
theorem Un.refl:Un fs ex H H h h:=Un.kept fun _ _ q=>q
theorem Un.laid(k:∀ b u,h.get? b=some u->h'.get? b=some u)(hp:h.objs.size<=a)(hn:H a=none):Un fs ex H (upd H a o) h h' where
 keep:=fun b u q _ _ _=>k b u q
 slot:=fun b u q _ _ _=>⟨u.slots,k b u q⟩
 free:=fun b u q n _=>by rw[bc (aaD (aat (aah q) hp))];exact n
 there:=fun b u q _=>⟨u,k b u q⟩
 oW:=fun b xs q=>by rw[bc (bH q hn)];exact q
 nG:=fun b u xs q=>by rw[bc (bH q hn)];exact q
 oX:=fun b ps q=>⟨#[],by rw[bc (bH q hn),q];simp⟩
theorem Un.write(mu:OU (H x))(he:e=x\/H e=some (.own x))(k:∀ b u,b≠e->h.get? b=some u->h'.get? b=some u)(zA:∃ u,h'.get? e=some u):Un fs ex H (upd H x o) h h':=by
 have hx:∀ b,H b=none->b≠x:=fun b n z=>by subst z;rw[n]at mu;exact mu
 have hb:∀ b,H b=none->b≠e:=fun b n z=>by
  subst z;rcases he with r | r
  ·exact hx b n r
  ·rw[n]at r;cases r
 have hm:∀ b u,H b=some u->¬ OU (some u)->b≠x:=fun b u q nm z=>by subst z;rw[q]at mu;exact nm mu
 refine⟨fun b u q n _ _=>k b u (hb b n) q,fun b u q n _ _=>⟨u.slots,k b u (hb b n) q⟩,fun b u q n _=>by rw[bc (hx b n)];exact n,fun b u q _=>?_,
  fun b xs q=>by rw[bc (hm b _ q fun z=>z)];exact q,fun b u xs q=>by rw[bc (hm b _ q fun z=>z)];exact q,fun b ps q=>⟨#[],by rw[bc (hm b _ q fun z=>z),q];simp⟩⟩
 by_cases Hr:b=e
 ·subst Hr;exact zA
 ·exact⟨u,k b u Hr q⟩
end
def Dl(h:Heap)(H:Hp):List Addr:=(List.range h.objs.size).filter fun a=>(H a).isSome
def oY(h:Heap)(H:Hp):Heap:=PySem.W.hideAll h (Dl h H)
theorem xS(h:Heap)(H:Hp):(oY h H).objs.size=h.objs.size:=PySem.W.hideAll_size _ _
theorem zB{o:Obj}(e:h.get? b=some o)(n:H b=none):(oY h H).get? b=some o :=
 PySem.W.hideAll_get _ e fun hm=>by
  have q:(H b).isSome=true:=(abo.mp hm).2;rw[n]at q;simp at q
theorem Dm{o:Obj}(e:(oY h H).get? b=some o):h.get? b=some o/\H b=none:=by
 have e':h.get? b=some o:=PySem.W.of_hideAll (Dl h H) e;refine⟨e',?_⟩;cases q:H b with
 | none=>rfl
 | some x =>
  have hm:b∈Dl h H:=abo.mpr ⟨List.mem_range.mpr (aah e'),by simp[q]⟩;have z:(oY h H).get? b=none:=PySem.W.hideAll_none (Dl h H) hm;rw[z]at e;cases e
structure Mod(K:zn)(mg:xL)(base:Heap):Prop where
 K1:K.In base
 glob:base.Ns mainGlobals mg
 blt:∃ mb,base.Ns builtinsNs mb/\∀ x:Str,x ≠ "__name__"->mb x=bootBuiltins x
 nolimit:base.NoLimit
structure Cx where
 prog:tz
 w:World
 K:zn
 mg:Str->Option Value
 base:Heap
 A:t0
 N:List Str
 aT:Shared
 bj:Hp
 env:Env
 outer:List Env
 stack:List Env
 ex:List Addr
 fn:Str->Bool
 calm:Bool
 pn:List (Addr×Obj)
 xe:Value->Shared->Prop
variable {X:Cx}
def gm(l:List Env):List Addr:=l.filterMap (·.frame)
abbrev Cx.fs(X:Cx):List Addr:=gm X.outer
def OW(sc:Scope)(x:Str):Prop:=sc.names.lookup x=some .local\/sc.names.lookup x=some .cell\/sc.names.lookup x=some .free
def Loc(sc:Scope)(x:Str):Prop:=sc.names.lookup x=some .local\/sc.names.lookup x=some .cell
def Look(env:Env)(h:Heap)(m:xL)(x:Str)(u:Value):Prop :=
 (env.kindOf x=some .local/\m x=some u)\/((env.kindOf x=some .cell\/env.kindOf x=some .free)/\∃ c,env.cells.lookup x=some c/\h.IsCell c (some u))
structure Cx.Ok(X:Cx):Prop where
 mod:Mod X.K X.mg X.base
 kind:X.env.scope.kind=.function
 glob:X.env.globals=mainGlobals
 blt:X.env.builtins=builtinsNs
 above:X.aT.heap.objs.size<=X.env.locals
 inj:∀ x y c,X.env.cells.lookup x=some c->X.env.cells.lookup y=some c->x=y
 has:∀ x,(X.env.kindOf x=some .cell\/X.env.kindOf x=some .free)->∃ c,X.env.cells.lookup x=some c
 Lq:∀ x c,X.fn x=true->X.env.cells.lookup x=some c->X.aT.heap.objs.size<=c
 hd:X.calm=true->X.A.handled=none
 frames:X.A.frames=some X.stack
 Hs:X.stack=X.outer\/(X.stack=X.env::X.outer/\X.env.frame=some X.env.locals)
 OX:∀ b∈X.ex,b≠X.env.locals/\∀ x c,X.env.cells.lookup x=some c->c≠b
 bs:∀ b o,X.base.get? b=some o->X.aT.heap.get? b=some o/\X.bj b=none
 FT:X.base.objs.size<=X.aT.heap.objs.size
 zC:∀ b o,X.base.get? b=some o->b ∉ X.ex
 zD:∀ b∈X.ex,b ∉ X.fs
 kK:X.aT.heap.FunFrames X.base X.outer
 CW:∀ b∈X.fs,X.bj b=none
structure Inv(X:Cx)(pins:yp)(σ:List (Option V))(H:Hp)(s:Shared):Prop where
 ok:X.Ok
 os:s.os=X.aT.os
 bare:AllBare s.gens
 base:Un X.fs X.ex X.bj H X.aT.heap s.heap
 loc:∃ m,s.heap.Ns X.env.locals m/\∀(i:Nat) (x:Str) (v:V),X.N[i]?=some x->σ[i]?=some (some v)->OW X.env.scope x->∃ u,RelV v u/\Look X.env s.heap m x u
 cell:∀ x c,X.env.cells.lookup x=some c->∃ v,s.heap.IsCell c v
 free:H X.env.locals=none
 gp:∀ x c,X.env.cells.lookup x=some c->H c=none
 pin:∀ p∈X.pn++pins,s.heap.get? p.1=some p.2/\H p.1=none/\p.1≠X.env.locals/\p.1 ∉ X.fs/\∀ v,p.2.data≠.cell v
 bN:dZ X.prog X.w H s.heap
 len:σ.length=X.N.length
section
variable {σ:List (Option V)}{H':Hp}
theorem Cx.Ok.P7(ok:X.Ok){o:Obj}(e:X.base.get? b=some o):b ∉ X.fs:=fun hb=>by
 have:=(ok.kK.mem hb).1;rw[e]at this;cases this
theorem Inv.bs(I:Inv X pins σ H s):∀ b o,X.base.get? b=some o->s.heap.get? b=some o/\H b=none:=fun b o e =>
 ⟨I.base.keep b o (I.ok.bs b o e).1 (I.ok.bs b o e).2 (I.ok.P7 e) (I.ok.zC b o e),I.base.free b o (I.ok.bs b o e).1 (I.ok.bs b o e).2 (I.ok.zC b o e)⟩
theorem Inv.bk(I:Inv X pins σ H s):∀ b o,X.base.get? b=some o->s.heap.get? b=some o:=fun b o e=>(I.bs b o e).1
theorem Inv.mod(I:Inv X pins σ H s):Mod X.K X.mg X.base:=I.ok.mod
theorem Inv.kh(I:Inv X pins σ H s):X.K.In s.heap:=I.ok.mod.K1.keeps I.bk
theorem Inv.lt(I:Inv X pins σ H s):X.env.locals < s.heap.objs.size:=let ⟨_,hn,_⟩:=I.loc;hn.lt
theorem Inv.sz(I:Inv X pins σ H s):X.aT.heap.objs.size<=s.heap.objs.size:=aam I.ok.above (aaL I.lt)
theorem Inv.P8(I:Inv X pins σ H s)(h:s.heap.objs.size<=a):a ∉ X.fs:=fun hb=>by
 obtain⟨_,o,ho,_⟩:=I.ok.kK.mem hb;exact absurd (aat (aah ho) (aam I.sz h)) (aaP _)
theorem Inv.Ht(I:Inv X pins σ H s):∀ x c,X.env.cells.lookup x=some c->c≠X.env.locals:=fun x c e z=>by
 obtain⟨v,o,ho,hd⟩:=I.cell x c e;obtain⟨m,⟨o',es,ep,zE,FU,_⟩,_⟩:=I.loc;rw[z,zE]at ho;cases ho;rw[FU]at hd;cases hd
theorem Inv.kK(I:Inv X pins σ H s):s.heap.FunFrames X.base X.outer:=by
 have all:∀(l:List Env),(∀ b∈gm l,b∈X.fs)->X.aT.heap.FunFrames X.base l->s.heap.FunFrames X.base l:=by
  intro l;induction l with
  | nil=>intro _ _;trivial
  | cons env r ih =>
   intro hs hl;obtain⟨hk,⟨L,o,hf,hn,ho,hd⟩,hr⟩:=hl;have hL:L∈X.fs:=hs L (by unfold gm;rw[acg,hf];exact aaw);obtain⟨sl,e⟩:=I.base.slot L o ho (I.ok.CW L hL) hL fun z=>I.ok.zD L z hL;exact⟨hk,⟨L,_,hf,hn,e,hd⟩,ih (fun b hb=>hs b (by unfold gm;rw[acg,hf];exact aan _ hb)) hr⟩
 exact all X.outer (fun _ hb=>hb) I.ok.kK
theorem Inv.stack(I:Inv X pins σ H s):s.heap.FunFrames X.base X.stack:=by
 rcases I.ok.Hs with e | ⟨e,hf⟩
 ·rw[e];exact I.kK
 ·rw[e];obtain⟨m,hn,_⟩:=I.loc;refine .cons (by rw[I.ok.kind];decide) hf hn ?_ I.kK;exact Heap.get?_none_of_le (aam I.ok.FT I.ok.above)
theorem Inv.uf(I:Inv X pins σ H s):∀ b∈gm X.stack,b∈X.env.locals::X.fs:=fun b hb=>by
 rcases I.ok.Hs with e | ⟨e,hf⟩
 ·rw[e]at hb;exact aan _ hb
 ·rw[e]at hb;unfold gm at hb;rw[acg,hf]at hb;exact hb
theorem Inv.oZ(I:Inv X pins σ H s):∀ b∈gm X.stack,H b=none:=fun b hb=>by
 rcases aaf.mp (I.uf b hb)with e | hb
 ·rw[e];exact I.free
 ·obtain⟨_,o,ho,_⟩:=I.ok.kK.mem hb;exact I.base.free b o ho (I.ok.CW b hb) fun z=>I.ok.zD b z hb
theorem Inv.step{g':Array GenState}{d':Drawn}(I:Inv X pins σ H s)(CY:∀ b∈ch,(b∈X.ex\/X.aT.heap.objs.size<=b)/\b≠X.env.locals/\(∀ x c,X.env.cells.lookup x=some c->c≠b)/\∀ p∈X.pn++pins,p.1≠b)(keep:∀ b o,b≠X.env.locals->b ∉ X.fs->b ∉ ch->s.heap.get? b=some o->H b=none->h'.get? b=some o)(slot:∀ b o,b≠X.env.locals->b∈X.fs->b ∉ ch->s.heap.get? b=some o->H b=none->∃ sl,h'.get? b=some { o with slots:=sl })(free:∀ b o,b ∉ ch->s.heap.get? b=some o->H b=none->H' b=none)(there:∀ b o,b ∉ ch->s.heap.get? b=some o->∃ o',h'.get? b=some o')(oW:∀ b xs,H b=some (.tup xs)->H' b=some (.tup xs))(nG:∀ b o u,H b=some (.jJ o u)->H' b=some (.jJ o u))(oX:∀ b ps,H b=some (.FR ps)->∃ more,H' b=some (.FR (ps++more)))(ns:∀ m,s.heap.Ns X.env.locals m->h'.Ns X.env.locals m)(bN:dZ X.prog X.w H' h')(hg:AllBare g') :
  Inv X pins σ H' { s with heap:=h',gens:=g',drawn:=d',toks:=t' }:=by
 have TH:∀ b o,X.aT.heap.get? b=some o->b≠X.env.locals:=fun b o e=>aaD (aat (aah e) I.ok.above);have OY:∀ b o,X.aT.heap.get? b=some o->b ∉ X.ex->b ∉ ch:=fun b o e hx hb=>by
  rcases (CY b hb).1 with z | z
  ·exact hx z
  ·exact absurd (aat (aah e) z) (aaP _)
 have cellK:∀ x c,X.env.cells.lookup x=some c->∀ v,s.heap.IsCell c v->h'.IsCell c v:=fun x c e v ⟨o,ho,hd⟩=>by
  have Lr:c ∉ ch:=fun z=>(CY c z).2.2.1 x c e rfl
  by_cases hc:c∈X.fs
  ·obtain⟨sl,q⟩:=slot c o (I.Ht x c e) hc Lr ho (I.gp x c e);exact⟨_,q,hd⟩
  ·exact⟨o,keep c o (I.Ht x c e) hc Lr ho (I.gp x c e),hd⟩
 refine⟨I.ok,I.os,hg,⟨fun b o e n hb hx=>?_,fun b o e n hb hx=>?_,fun b o e n hx=>?_,fun b o e hx=>?_,fun b xs e=>oW b xs (I.base.oW b xs e),fun b o xs e=>nG b o xs (I.base.nG b o xs e),fun b ps e=>?_⟩,?_,fun x c e=>?_,?_,fun x c e=>?_,fun p hp=>?_,bN,I.len⟩
 ·exact keep b o (TH b o e) hb (OY b o e hx) (I.base.keep b o e n hb hx) (I.base.free b o e n hx)
 ·obtain⟨sl,e1⟩:=I.base.slot b o e n hb hx;obtain⟨P9,e2⟩:=slot b _ (TH b o e) hb (OY b o e hx) e1 (I.base.free b o e n hx);exact⟨P9,e2⟩
 ·obtain⟨o',e1⟩:=I.base.there b o e hx;exact free b o' (OY b o e hx) e1 (I.base.free b o e n hx)
 ·obtain⟨o',e1⟩:=I.base.there b o e hx;exact there b o' (OY b o e hx) e1
 ·obtain⟨m1,e1⟩:=I.base.oX b ps e;obtain⟨m2,e2⟩:=oX b _ e1;exact⟨m1++m2,by rw[e2,Array.append_assoc]⟩
 ·obtain⟨m,hn,hl⟩:=I.loc;refine⟨m,ns m hn,fun i x v e1 e2 e3=>?_⟩;obtain⟨u,r,l⟩:=hl i x v e1 e2 e3;refine⟨u,r,?_⟩;rcases l with l | ⟨k,c,e,z⟩
  ·exact .inl l
  ·exact .inr ⟨k,c,e,cellK x c e _ z⟩
 ·obtain⟨v,z⟩:=I.cell x c e;exact⟨v,cellK x c e v z⟩
 ·obtain⟨m,⟨o,_,_,ho,_⟩,_⟩:=I.loc;exact free _ o (fun z=>(CY _ z).2.1 rfl) ho I.free
 ·obtain⟨v,o,ho,hd⟩:=I.cell x c e;exact free c o (fun z=>(CY c z).2.2.1 x c e rfl) ho (I.gp x c e)
 ·obtain⟨e,n,ne,nf,d⟩:=I.pin p hp;have Lr:p.1 ∉ ch:=fun z=>(CY p.1 z).2.2.2 p hp rfl;exact⟨keep p.1 p.2 ne nf Lr e n,free p.1 p.2 Lr e n,ne,nf,d⟩
theorem Inv.un(I:Inv X pins σ H s)(u:Un X.fs [] H H' s.heap h')(bN:dZ X.prog X.w H' h'):Inv X pins σ H' { s with heap:=h',toks:=t' }:=by
 obtain⟨m,⟨o,es,ep,ho,r⟩,_⟩:=id I.loc;obtain⟨sl,hL⟩:=u.any ho I.free (by simp);exact I.step (g':=s.gens) (d':=s.drawn) (ch:=[]) (fun _ z=>nomatch z) (fun b o _ hb _ e n=>u.keep b o e n hb (by simp)) (fun b o _ hb _ e n=>u.slot b o e n hb (by simp)) (fun b o _ e n=>u.free b o e n (by simp)) (fun b o _ e=>u.there b o e (by simp)) u.oW u.nG u.oX (fun m' hm=>by
  obtain⟨o',CZ,Qa,zE,r'⟩:=hm;rw[ho]at zE;cases zE;exact⟨_,CZ,Qa,hL,r'⟩) bN I.bare
theorem Inv.call{g':Array GenState}{d':Drawn}(I:Inv X pins σ H s)(u:Un (gm X.stack) ch H H' s.heap h')(bN:dZ X.prog X.w H' h')(hg:AllBare g')(CY:∀ b∈ch,(b∈X.ex\/X.aT.heap.objs.size<=b)/\b≠X.env.locals/\(∀ x c,X.env.cells.lookup x=some c->c≠b)/\∀ p∈X.pn++pins,p.1≠b) :
  Inv X pins σ H' { s with heap:=h',gens:=g',drawn:=d',toks:=t' }:=by
 obtain⟨m,⟨o,es,ep,ho,r⟩,_⟩:=id I.loc;obtain⟨sl,hL⟩:=u.any ho I.free fun z=>(CY _ z).2.1 rfl;exact I.step (ch:=ch) CY (fun b o hL hb hc e n=>u.keep b o e n (fun z=>(aaf.mp (I.uf b z)).elim hL hb) hc) (fun b o _ _ hc e n=>u.any e n hc) (fun b o hc e n=>u.free b o e n hc) (fun b o hc e=>u.there b o e hc) u.oW u.nG u.oX (fun m' hm=>by
  obtain⟨o',CZ,Qa,zE,r'⟩:=hm;rw[ho]at zE;cases zE;exact⟨_,CZ,Qa,hL,r'⟩) bN hg
theorem Inv.turned{it:Addr}(I:Inv X pins σ H s)(k:∀ b o,b≠it->s.heap.get? b=some o->h'.get? b=some o)(hn:H it=none)(hL:it≠X.env.locals)(h1:it∈X.ex\/X.aT.heap.objs.size<=it)(h2:∀ x c,X.env.cells.lookup x=some c->c≠it)(h3:∀ p∈X.pn++pins,p.1≠it):Inv X pins σ H { s with heap:=h',toks:=t' }:=by
 have Ls:∀ b u,H b=some u->b≠it:=fun b u e z=>by rw[z,hn]at e;cases e
 refine I.step (g':=s.gens) (d':=s.drawn) (ch:=[it]) (fun b hb=>?_) (fun b o _ _ hc e _=>k b o (fun z=>hc (by simp[z])) e) (fun b o _ _ hc e _=>⟨o.slots,k b o (fun z=>hc (by simp[z])) e⟩) (fun _ _ _ _ n=>n)
  (fun b o hc e=>⟨o,k b o (fun z=>hc (by simp[z])) e⟩) (fun _ _ e=>e) (fun _ _ _ e=>e) (fun b ps e=>⟨#[],by rw[e];simp⟩) (fun m hm=>?_) (fun b u e=>?_) I.bare
 ·have e:b=it:=by simpa using hb
  subst e;exact⟨h1,hL,h2,h3⟩
 ·obtain⟨o,es,ep,ho,r⟩:=hm;exact⟨o,es,ep,k _ o (acj hL) ho,r⟩
 ·refine(I.bN b u e).rq (fun c v hc q=>k c v ?_ q) (fun _ q=>q) fun _ _ q=>q;rcases hc with z | z
  ·rw[z];exact Ls b u e
  ·exact Ls c _ z
theorem Inv.tok(I:Inv X pins σ H s)(t:Nat):Inv X pins σ H { s with toks:=t }:=I.un (h':=s.heap) (t':=t) Un.refl I.bN
theorem Inv.kept{t':Nat}(I:Inv X pins σ H s)(k:∀ b u,s.heap.get? b=some u->h'.get? b=some u):Inv X pins σ H { s with heap:=h',toks:=t' }:=I.un (Un.kept k) (I.bN.kept k)
theorem Inv.laid{a:Addr}{o:HO}{t':Nat}(I:Inv X pins σ H s)(k:∀ b u,s.heap.get? b=some u->h'.get? b=some u)(hp:s.heap.objs.size<=a)(new:cn X.prog X.w (upd H a o) h' a o) :
  Inv X pins σ (upd H a o) { s with heap:=h',toks:=t' }:=I.un (Un.laid k hp (I.bN.fresh hp)) (I.bN.laid k hp new)
theorem Inv.write{x e:Addr}{o:HO}{t':Nat}(I:Inv X pins σ H s)(mu:OU (H x))(he:e=x\/H e=some (.own x))(k:∀ b u,b≠e->s.heap.get? b=some u->h'.get? b=some u)(zA:∃ u,h'.get? e=some u)
  (new:cn X.prog X.w (upd H x o) h' x o):Inv X pins σ (upd H x o) { s with heap:=h',toks:=t' }:=I.un (Un.write mu he k zA) (I.bN.write mu he k zA new)
theorem Inv.vZ{FV:yp}(I:Inv X pins σ H s)(h:∀ p∈FV,s.heap.get? p.1=some p.2/\H p.1=none/\p.1≠X.env.locals/\p.1 ∉ X.fs/\∀ v,p.2.data≠.cell v):Inv X FV σ H s :=
 ⟨I.ok,I.os,I.bare,I.base,I.loc,I.cell,I.free,I.gp,fun p hp=>(aaZ.mp hp).elim (fun z=>I.pin p (ab8 _ z)) (h p),I.bN,I.len⟩
theorem rA(hN:N.Nodup){i j:Nat}(a:N[i]?=some x)(b:N[j]?=some x):i=j:=by
 obtain⟨h1,e1⟩:=aal.mp a;obtain⟨h2,e2⟩:=aal.mp b;exact(List.getElem_inj hN).mp (e1.trans e2.symm)
theorem xT{i:Nat}{Q:Unit->Shared->Prop}(I:Inv X pins σ H s)(hN:X.N.Nodup)(hi:X.N[i]?=some x)(hx:Loc X.env.scope x)(r:RelV v u)(h:∀ s',Inv X pins (σ.set i (some v)) H s'->(∃ a,Heap.SameBut a s.heap s'.heap/\(a=X.env.locals\/X.env.cells.lookup x=some a))->Q () s')(hf:X.fn x=true\/X.env.scope.names.lookup x=some .local:=by first | exact .inl rfl | exact .inr rfl | assumption):wpAny M A (storeName X.env x u) Q E s:=by
 obtain⟨m,hn,hl⟩:=id I.loc;have Qb:(X.env.scope.kind == .class||(X.env.scope.kind == .module&&X.env.locals != X.env.globals))=false:=by rw[I.ok.kind];rfl
 have Lu:i < σ.length:=by rw[I.len];exact(aal.mp hi).1
 have Ht:=I.Ht;have tracked:∀{a:Addr} {h':Heap},(∃ o,s.heap.get? a=some o/\H a=none)->Heap.SameBut a s.heap h'->dZ X.prog X.w H h':=fun{a h'} ha hs b ob e=>by
  obtain⟨_,_,FW⟩:=ha;refine(I.bN b ob e).rq (fun c w' hc q=>(hs.2 c ?_).trans q) (fun _ q=>q) fun _ _ q=>q;rintro rfl;rcases hc with rfl | hc
  ·rw[FW]at e;cases e
  ·rw[FW]at hc;cases hc
 rcases hx with hk | hk
 ·refine wpAny_storeName_local hk hn (fun h' C1 hs=>?_) Qb;obtain⟨oL,_,_,VI,_⟩:=id hn;refine h _ ⟨I.ok,I.os,I.bare,⟨fun b o e n hb hx=>?_,fun b o e n hb hx=>?_,I.base.free,fun b o e hx=>?_,I.base.oW,I.base.nG,I.base.oX⟩,⟨_,C1,fun j y v' e1 e2 e3=>?_⟩,fun y c e=>?_,I.free,I.gp,fun p hp=>?_,tracked ⟨oL,VI,I.free⟩ hs,by simpa using I.len⟩ ⟨_,hs,.inl rfl⟩
  ·exact(hs.2 b (aaD (aat (aah e) I.ok.above))).trans (I.base.keep b o e n hb hx)
  ·obtain⟨sl,e1⟩:=I.base.slot b o e n hb hx;exact⟨sl,(hs.2 b (aaD (aat (aah e) I.ok.above))).trans e1⟩
  ·obtain⟨o',e1⟩:=I.base.there b o e hx;exact⟨o',(hs.2 b (aaD (aat (aah e) I.ok.above))).trans e1⟩
  ·by_cases hj:j=i
   ·subst hj;rw[hi]at e1;cases e1;rw[abU Lu]at e2;cases e2;exact⟨u,r,.inl ⟨hk,by simp⟩⟩
   ·rw[List.getElem?_set_ne (acj hj)]at e2;obtain⟨u',r',q⟩:=hl j y v' e1 e2 e3;refine⟨u',r',?_⟩;rcases q with⟨k,e⟩ | ⟨k,c,e,z⟩
    ·refine .inl ⟨k,?_⟩;have:y≠x:=fun e=>hj (rA hN e1 (e▸hi));simp[this,e]
    ·exact .inr ⟨k,c,e,z.sameBut hs (Ht y c e)⟩
  ·obtain⟨w',z⟩:=I.cell y c e;exact⟨w',z.sameBut hs (Ht y c e)⟩
  ·obtain⟨e,n,ne,nf,d⟩:=I.pin p hp;exact⟨(hs.2 p.1 ne).trans e,n,ne,nf,d⟩
 ·have Qc:X.fn x=true:=by
   rcases hf with z | z
   ·exact z
   ·rw[z]at hk;cases hk
  obtain⟨c,hc⟩:=I.ok.has x (.inl hk);obtain⟨w',z⟩:=I.cell x c hc;refine wpAny_storeName_cell I.ok.kind hk hc z (fun h' zF hs=>?_);obtain⟨oc,TJ,Qe⟩:=id z;refine h { s with heap:=h' } ⟨I.ok,I.os,I.bare,⟨fun b o e n hb hx=>?_,fun b o e n hb hx=>?_,I.base.free,fun b o e hx=>?_,I.base.oW,I.base.nG,I.base.oX⟩,⟨m,hn.sameBut hs (acj (Ht x c hc)),fun j y v' e1 e2 e3=>?_⟩,fun y c' e=>?_,I.free,I.gp,fun p hp=>?_,tracked ⟨oc,TJ,I.gp x c hc⟩ hs,by simpa using I.len⟩ ⟨c,hs,.inr hc⟩
  ·exact(hs.2 b (aaD (aat (aah e) (I.ok.Lq x c Qc hc)))).trans (I.base.keep b o e n hb hx)
  ·obtain⟨sl,e1⟩:=I.base.slot b o e n hb hx;exact⟨sl,(hs.2 b (aaD (aat (aah e) (I.ok.Lq x c Qc hc)))).trans e1⟩
  ·obtain⟨o',e1⟩:=I.base.there b o e hx;exact⟨o',(hs.2 b (aaD (aat (aah e) (I.ok.Lq x c Qc hc)))).trans e1⟩
  ·by_cases hj:j=i
   ·subst hj;rw[hi]at e1;cases e1;rw[abU Lu]at e2;cases e2;exact⟨u,r,.inr ⟨.inl hk,c,hc,zF⟩⟩
   ·rw[List.getElem?_set_ne (acj hj)]at e2;obtain⟨u',r',q⟩:=hl j y v' e1 e2 e3;refine⟨u',r',?_⟩;rcases q with q | ⟨k,c',e,z'⟩
    ·exact .inl q
    ·refine .inr ⟨k,c',e,z'.sameBut hs ?_⟩;rintro rfl;exact hj (rA hN e1 (I.ok.inj _ _ _ e hc▸hi))
  ·by_cases TK:c'=c
   ·subst TK;exact⟨_,zF⟩
   ·obtain⟨w2,z2⟩:=I.cell y c' e;exact⟨w2,z2.sameBut hs TK⟩
  ·obtain⟨e,n,ne,nf,d⟩:=I.pin p hp;refine⟨(hs.2 p.1 ?_).trans e,n,ne,nf,d⟩;intro q;rw[q,TJ]at e;have q':oc=p.2:=aaF e;exact d w' (by rw[<- q'];exact Qe)
theorem lD{i:Nat}{Q:Unit->Shared->Prop}(I:Inv X pins σ H s)(hN:X.N.Nodup)(hi:X.N[i]?=some x)(hx:Loc X.env.scope x)(r:RelV v u)(h:∀ s',Inv X pins (σ.set i (some v)) H s'->Q () s')(hf:X.fn x=true\/X.env.scope.names.lookup x=some .local:=by first | exact .inl rfl | exact .inr rfl | assumption):wpAny M A (storeName X.env x u) Q E s :=
 xT I hN hi hx r (fun s' I' _=>h s' I') hf
theorem Inv.Lv(I:Inv X pins σ H s)(ho:s'.os=s.os)(u:Un (gm X.stack) ch H H' s.heap s'.heap)(bN:dZ X.prog X.w H' s'.heap)(hg:AllBare s'.gens)(CY:∀ b∈ch,(b∈X.ex\/X.aT.heap.objs.size<=b)/\b≠X.env.locals/\(∀ x c,X.env.cells.lookup x=some c->c≠b)/\∀ p∈X.pn++pins,p.1≠b):Inv X pins σ H' s':=by
 obtain⟨h',g',d',t',o'⟩:=s';have e:o'=s.os:=ho;subst e;exact I.call (g':=g') (t':=t') (d':=d') u bN hg CY
end
abbrev XK:=Value->wT->Hp->Prop
abbrev St:=List (Option V)
variable {σ:St}
abbrev VK:=V->Hp->Prop
abbrev TE:=St->Hp->VK->Prop
variable {ta te:TE}
abbrev TT:=St->Hp->(Bool->Hp->Prop)->Prop
abbrev TA:=St->Hp->(List V->Hp->Prop)->Prop
structure Ends where
 nx:St->Hp->Prop
 rt:VK
 bk:St->Hp->Prop:=fun _ _=>False
 ct:St->Hp->Prop:=fun _ _=>False
abbrev TS:=Ends->St->Hp->Prop
def EP(X:Cx)(pins:yp)(σ:St)(Q:VK)(u:Value)(s':Shared):Prop:=∃ v H',Inv X pins σ H' s'/\RelV v u/\Q v H'
def TP(X:Cx)(pins:yp)(σ:St)(Q:Bool->Hp->Prop)(b:Bool)(s':Shared):Prop:=∃ H',Inv X pins σ H' s'/\Q b H'
def AP(X:Cx)(pins:yp)(σ:St)(Q:List V->Hp->Prop)(us:wf)(s':Shared):Prop:=∃ vs H',Inv X pins σ H' s'/\Vals vs us/\Q vs H'
def SP(X:Cx)(pins:yp)(D:Ends)(f:Flow)(s':Shared):Prop :=
 match f with
 | .next=>∃ bp H',Inv X pins bp H' s'/\D.nx bp H'
 | .brk=>∃ bp H',Inv X pins bp H' s'/\D.bk bp H'
 | .cont=>∃ bp H',Inv X pins bp H' s'/\D.ct bp H'
 | .ret u=>∃ v bp H',Inv X pins bp H' s'/\RelV v u/\D.rt v H'
def PE(X:Cx)(e:Expr)(t:TE):Prop :=
 ∀(pins:yp) (s:Shared) (σ:St) (H:Hp) (Q:VK),Inv X pins σ H s->t σ H Q->wpAny (model X.prog X.w) X.A (eval e X.env) (EP X pins σ Q) X.xe s
def PT(X:Cx)(e:Expr)(t:TT):Prop :=
 ∀(pins:yp) (s:Shared) (σ:St) (H:Hp) (Q:Bool->Hp->Prop),Inv X pins σ H s->t σ H Q->wpAny (model X.prog X.w) X.A (isTrue e X.env (eval e X.env)) (TP X pins σ Q) X.xe s
def PW(X:Cx)(e:Expr)(t:TT):Prop :=
 ∀(whole:Sem Value) (pins:yp) (s:Shared) (σ:St) (H:Hp) (Q:Bool->Hp->Prop),Inv X pins σ H s->t σ H Q->wpAny (model X.prog X.w) X.A (isTrue e X.env whole) (TP X pins σ Q) X.xe s
theorem PW.pt{e:Expr}{t:TT}(h:PW X e t):PT X e t:=h _
def PA(X:Cx)(es:ut)(t:TA):Prop :=
 ∀(pos:Pos) (pins:yp) (s:Shared) (σ:St) (H:Hp) (Q:List V->Hp->Prop),Inv X pins σ H s->t σ H Q->wpAny (model X.prog X.w) X.A (spliced (backTo pos (starEach es X.env))) (AP X pins σ Q) X.xe s
def PS(X:Cx)(st:Stmt)(t:TS):Prop :=
 ∀(pins:yp) (s:Shared) (σ:St) (H:Hp) (D:Ends),Inv X pins σ H s->t D σ H->wpAny (model X.prog X.w) X.A (exec st X.env) (SP X pins D) X.xe s
def v7(X:Cx)(st:u8)(t:TS):Prop :=
 ∀(pins:yp) (s:Shared) (σ:St) (H:Hp) (D:Ends),Inv X pins σ H s->t D σ H->wpAny (model X.prog X.w) X.A (execs st X.env) (SP X pins D) X.xe s
theorem ck{α:Type}{t:Sem α}{Q Q':α->Shared->Prop}(h:wpAny M A t Q E s)(hQ:∀ a s,Q a s->Q' a s):wpAny M A t Q' E s:=abd h hQ fun _ _ x=>x
section
def Hu(i:Nat):TE:=fun σ H Q=>∃ v,σ[i]?=some (some v)/\Q v H
def tC(v:V):TE:=fun _ H Q=>Q v H
theorem Hv{i:Nat}(hN:X.N[i]?=some x)(hv:OW X.env.scope x)(hd:(x == ("__debug__":Str))=false:=by decide)(xU:(x == ("__classdict__":Str))=false:=by decide):PE X (.Name x pos) (Hu i):=by
 intro pins s σ H Q I h;obtain⟨v,e,h⟩:=h;obtain⟨m,hn,hl⟩:=I.loc;obtain⟨u,r,l⟩:=hl i x v hN e hv;have fin:EP X pins σ Q u s:=⟨v,H,I,r,h⟩;rcases l with⟨hk,hm⟩ | ⟨hk,c,hc,FX⟩
 ·exact wpAny_Name (wpAny_loadName_local I.ok.kind hk hn hm fin) hd
 ·rcases hk with hk | hk
  ·exact wpAny_Name (wpAny_loadName_cell I.ok.kind hk hc FX fin) hd
  ·exact wpAny_Name (wpAny_loadName_free I.ok.kind hk hc FX fin xU) hd
theorem zG{i j pos}:PE X (.Constant (.int i) j pos) (tC (.int i)):=fun _ _ _ H _ I h=>wpAny_Constant_int ⟨.int i,H,I.tok _,⟨_,rfl⟩,h⟩
theorem FY{b j pos}:PE X (.Constant (.bool b) j pos) (tC (.bl b)):=fun _ _ _ H _ I h=>Constant_bool ⟨.bl b,H,I,rfl,h⟩
theorem zH{j pos}:PE X (.Constant .none j pos) (tC .cD):=fun _ _ _ H _ I h=>Constant_none ⟨.cD,H,I,rfl,h⟩
theorem zI{x j pos}:PE X (.Constant (.str x) j pos) (tC (.str x)):=fun _ _ _ H _ I h=>Calls.Constant_str ⟨.str x,H,I.tok _,⟨_,rfl⟩,h⟩
def Gl(X:Cx)(x:Str):Prop:=X.env.kindOf x=some .globalImplicit
theorem kZ(I:Inv X pins σ H s)(hg:Gl X x)(hm:X.mg x=some u)(h:Q u s)(hd:(x == ("__debug__":Str))=false:=by decide):wpAny (model X.prog X.w) X.A (eval (.Name x pos) X.env) Q E s :=
 Calls.Name_function_global I.ok.kind hg (Calls.loadGlobal_global (by rw[I.ok.glob];exact I.mod.glob.keeps I.bk) hm h) hd
theorem iY(I:Inv X pins σ H s)(hg:Gl X x)(hm:X.mg x=none)(hv:bootBuiltins x=some u)(h:Q u s)(hn:x ≠ "__name__":=by decide)(hd:(x == ("__debug__":Str))=false:=by decide):wpAny (model X.prog X.w) X.A (eval (.Name x pos) X.env) Q E s:=by
 obtain⟨mb,h1,h2⟩:=I.mod.blt;exact Calls.Name_function_global I.ok.kind hg (Calls.loadGlobal_builtin (by rw[I.ok.glob];exact I.mod.glob.keeps I.bk) hm (by rw[I.ok.blt];exact h1.keeps I.bk) ((h2 x hn).trans hv) h) hd
theorem v8(hg:Gl X x)(hm:X.mg x=some u)(r:RelV v u)(hd:(x == ("__debug__":Str))=false:=by decide):PE X (.Name x pos) (tC v) :=
 fun _ _ _ H _ I h=>kZ I hg hm ⟨v,H,I,r,h⟩ hd
theorem Dp(hg:Gl X x)(hm:X.mg x=none)(hv:bootBuiltins x=some u)(r:RelV v u)(hn:x ≠ "__name__":=by decide)(hd:(x == ("__debug__":Str))=false:=by decide):PE X (.Name x pos) (tC v) :=
 fun _ _ _ H _ I h=>iY I hg hm hv ⟨v,H,I,r,h⟩ hn hd
variable {a b:Expr}{tb:TE}
def PC(X:Cx)(op:CmpOp)(a b:Expr)(t:TE):Prop :=
 ∀(pins:yp) (s:Shared) (σ:St) (H:Hp) (Q:VK),Inv X pins σ H s->t σ H Q ->
  wpAny (model X.prog X.w) X.A (eval a X.env) (fun v bo=>wpAny (model X.prog X.w) X.A (eval b X.env) (fun u bb=>wpAny (model X.prog X.w) X.A (compareOp op v u) (EP X pins σ Q) X.xe bb) X.xe bo) X.xe s
theorem rB(b:Expr)(h:op≠.In)(h2:op≠.NotIn):behindInMarks op b=false:=by
 have e1:(op == CmpOp.In)=false:=by cases op<;>first | rfl | exact absurd rfl h
 have e2:(op == CmpOp.NotIn)=false:=by cases op<;>first | rfl | exact absurd rfl h2
 cases b<;>simp[behindInMarks,e1,e2]
def Dq(ta:TE):TE:=fun σ H Q=>ta σ H fun x H1=>Q (.bl (decide (x=.cD))) H1
def zJ(ta:TE):TE:=fun σ H Q=>ta σ H fun x H1=>Q (.bl (!decide (x=.cD))) H1
theorem RelV.rC{x:V}{v:Value}(r:RelV x v):(v == Value.none)=decide (x=.cD):=by
 cases x with
 | cD=>cases r;rfl
 | bl _=>cases r;rfl
 | int _=>obtain⟨t,rfl⟩:=r;rfl
 | str _=>obtain⟨t,rfl⟩:=r;rfl
 | vY _=>obtain⟨t,rfl⟩:=r;rfl
 | Dk _=>obtain⟨t,rfl⟩:=r;rfl
 | ref _=>cases r;rfl
 | ty _=>cases r;rfl
theorem zK{j pos'}(ha:PE X a ta):PC X .Is a (.Constant .none j pos') (Dq ta):=by
 intro pins s σ H Q I h;refine ck (ha pins s σ H _ I h) fun v s1 ⟨x,H1,I1,r1,q1⟩=>?_;exact Constant_none (is_none_gen ⟨.bl _,H1,I1,by rw[r1.rC];rfl,q1⟩)
theorem Dr{j pos'}(ha:PE X a ta):PC X .IsNot a (.Constant .none j pos') (zJ ta):=by
 intro pins s σ H Q I h;refine ck (ha pins s σ H _ I h) fun v s1 ⟨x,H1,I1,r1,q1⟩=>?_;exact Constant_none (isnot_none_gen ⟨.bl _,H1,I1,by rw[r1.rC];rfl,q1⟩)
def tB(t:TE):TT:=fun σ H Q=>t σ H fun x H1=>∃ c,x=.bl c/\Q c H1
theorem Hw{t:TE}(h:PC X op a b t)(h1:behindInMarks op b=false:=by first | exact rB _ (by decide) (by decide) | rfl):PE X (.Compare a [op] [b] pos) t:=fun pins s σ H Q I hw=>wpAny_Compare1 (h pins s σ H Q I hw) h1
theorem zL{t:TE}(h:PC X op a b t)(h1:behindInMarks op b=false:=by first | exact rB _ (by decide) (by decide) | rfl):PT X (.Compare a [op] [b] pos) (tB t):=by
 intro pins s σ H Q I hw;refine wpAny_isTrue_Compare1 (ck (h pins s σ H _ I hw) fun v s1 h1=>ck h1 fun u s2 h2=>ck h2 fun c s3 ⟨x,H1,I1,r1,q1⟩=>?_) h1;obtain⟨d,rfl,q⟩:=q1;cases r1;exact abi ⟨H1,I1,q⟩
theorem Hx{e:Expr}{t:TE}(h:PE X e t)(he:∀ whole,isTrue e X.env whole=(do let v <- whole;standAt e.pos;holding [v] (truthy v)):=by intro _;rfl):PT X e (tB t):=by
 intro pins s σ H Q I hw;refine isTrue_plain (ck (h pins s σ H _ I hw) fun v s1 ⟨x,H1,I1,r1,q1⟩=>?_) (he _);obtain⟨d,rfl,q⟩:=q1;cases r1;exact abi ⟨H1,I1,q⟩
variable {tA OZ:TT}{rest:ut}
def Hy(t u:TT):TT:=fun σ H Q=>t σ H fun c H1=>if c=true then u σ H1 Q else Q false H1
def Qf(t u:TT):TT:=fun σ H Q=>t σ H fun c H1=>if c=true then Q true H1 else u σ H1 Q
def Hz(t:TT):TT:=fun σ H Q=>t σ H fun c H1=>Q (!c) H1
theorem Ds(ha:PT X a tA):PW X (.BoolOp .And [a] pos) tA:=by
 intro wh pins s σ H Q I h;refine isTrue_and (ck (ha pins s σ H Q I h) fun c s1 e=>?_);cases c with
 | true=>exact isTrue_and_nil e
 | false=>exact e
theorem HA(ha:PT X a tA):PW X (.BoolOp .Or [a] pos) tA:=by
 intro wh pins s σ H Q I h;refine isTrue_or (ck (ha pins s σ H Q I h) fun c s1 e=>?_);cases c with
 | false=>exact isTrue_or_nil e
 | true=>exact e
theorem HB(ha:PT X a tA)(hb:PW X (.BoolOp .And (b::rest) pos) OZ):PW X (.BoolOp .And (a::b::rest) pos) (Hy tA OZ):=by
 intro wh pins s σ H Q I h;refine isTrue_and (ck (ha pins s σ H _ I h) fun c s1 ⟨H1,I1,q1⟩=>?_);cases c with
 | true=>exact hb wh pins s1 σ H1 Q I1 q1
 | false=>exact⟨H1,I1,q1⟩
theorem Lw(ha:PT X a tA)(hb:PW X (.BoolOp .Or (b::rest) pos) OZ):PW X (.BoolOp .Or (a::b::rest) pos) (Qf tA OZ):=by
 intro wh pins s σ H Q I h;refine isTrue_or (ck (ha pins s σ H _ I h) fun c s1 ⟨H1,I1,q1⟩=>?_);cases c with
 | true=>exact⟨H1,I1,q1⟩
 | false=>exact hb wh pins s1 σ H1 Q I1 q1
theorem HC(ha:PT X a tA):PT X (.UnaryOp .Not a pos) (Hz tA):=by
 intro pins s σ H Q I h;exact isTrue_not (ha pins s σ H (fun c H1=>Q (!c) H1) I h)
def zM(ta tb:TE):TE:=fun σ H Q=>ta σ H fun x H1=>∃ c,x=.bl c/\if c=true then tb σ H1 Q else Q (.bl false) H1
def HE(ta tb:TE):TE:=fun σ H Q=>ta σ H fun x H1=>∃ c,x=.bl c/\if c=true then Q (.bl true) H1 else tb σ H1 Q
def zN(ta:TE):TE:=fun σ H Q=>ta σ H fun x H1=>∃ c,x=.bl c/\Q (.bl (!c)) H1
theorem HF{op}{t:TE}(h:PE X a t):PE X (.BoolOp op [a] pos) t:=fun pins s σ H Q I hw=>BoolOp_one (h pins s σ H Q I hw)
theorem HG(ha:PE X a ta)(hb:PE X (.BoolOp .And (b::rest) pos) tb):PE X (.BoolOp .And (a::b::rest) pos) (zM ta tb):=by
 intro pins s σ H Q I h;refine BoolOp_and (ck (ha pins s σ H _ I h) fun v s1 ⟨x,H1,I1,r1,q1⟩=>?_);obtain⟨c,rfl,q1⟩:=q1;cases r1;refine abi ?_;cases c with
 | true=>exact hb pins s1 σ H1 Q I1 q1
 | false=>exact⟨.bl false,H1,I1,rfl,q1⟩
theorem Lx(ha:PE X a ta)(hb:PE X (.BoolOp .Or (b::rest) pos) tb):PE X (.BoolOp .Or (a::b::rest) pos) (HE ta tb):=by
 intro pins s σ H Q I h;refine BoolOp_or (ck (ha pins s σ H _ I h) fun v s1 ⟨x,H1,I1,r1,q1⟩=>?_);obtain⟨c,rfl,q1⟩:=q1;cases r1;refine abi ?_;cases c with
 | false=>exact hb pins s1 σ H1 Q I1 q1
 | true=>exact⟨.bl true,H1,I1,rfl,q1⟩
theorem HH(ha:PE X a ta):PE X (.UnaryOp .Not a pos) (zN ta):=by
 intro pins s σ H Q I h;refine UnaryOp_ (ck (ha pins s σ H _ I h) fun v s1 ⟨x,H1,I1,r1,q1⟩=>?_);obtain⟨c,rfl,q1⟩:=q1;cases r1;exact not_of (abi ⟨.bl (!c),H1,I1,rfl,q1⟩)
def Qg(t:TT)(ta tb:TE):TE:=fun σ H Q=>t σ H fun c H1=>if c=true then ta σ H1 Q else tb σ H1 Q
theorem zO(hc:PT X c tA)(ha:PE X a ta)(hb:PE X b tb):PE X (.IfExp c a b pos) (Qg tA ta tb):=by
 intro pins s σ H Q I h;refine wpAny_IfExp (ck (hc pins s σ H _ I h) fun d s1 ⟨H1,I1,q1⟩=>?_);cases d with
 | true=>exact ha pins s1 σ H1 Q I1 q1
 | false=>exact hb pins s1 σ H1 Q I1 q1
end
def eQ(K:zn)(H:Hp)(a:Addr)(xs:List V):Prop :=
 Rd H a (.lst xs) \/
  ∃(o:Obj) (aL:Array Value) (n:Nat),K.lookup a=some o/\o.cls=.type "list"/\o.dict=none/\o.data=.seq aL n/\aL.size<=sizeLine/\Vals xs aL.toList
def eY(K:zn)(H:Hp)(a:Addr)(xs:List V):Prop :=
 Rd H a (.tup xs) \/
  ∃(o:Obj) (aL:Array Value) (n:Nat),K.lookup a=some o/\o.cls=.type "tuple"/\o.data=.seq aL n/\aL.size<=sizeLine/\Vals xs aL.toList
def Ly:Value->Option V
 | .none=>some .cD
 | .bool b=>some (.bl b)
 | .int i _=>some (.int i)
 | .str x _=>some (.str x)
 | .bytes b _=>some (.vY b)
 | .float b _=>some (.Dk b)
 | .ref a=>some (.ref a)
 | .type n=>some (.ty n)
 | _=>none
theorem RelV.abs{x:V}(r:RelV x u):Ly u=some x:=by
 cases x with
 | cD=>cases r;rfl
 | bl _=>cases r;rfl
 | int _=>obtain⟨t,rfl⟩:=r;rfl
 | str _=>obtain⟨t,rfl⟩:=r;rfl
 | vY _=>obtain⟨t,rfl⟩:=r;rfl
 | Dk _=>obtain⟨t,rfl⟩:=r;rfl
 | ref _=>cases r;rfl
 | ty _=>cases r;rfl
theorem RelV.inj{x y:V}{u:Value}(r:RelV x u)(q:RelV y u):x=y:=aaF (r.abs.symm.trans q.abs)
theorem Vals.inj:∀{xs ys:List V} {us:wf},Vals xs us->Vals ys us->xs=ys
 | _,_,_,.nil,.nil=>rfl
 | _,_,_,.cons r t,.cons r' t'=>by rw[r.inj r',Vals.inj t t']
section
variable {xs ys:List V}
theorem eQ.of{K:zn}(h:H a=some (.lst xs)):eQ K H a xs:=.inl (.inl h)
theorem eY.of{K:zn}(h:H a=some (.tup xs)):eY K H a xs:=.inl (.inl h)
theorem Inv.list(I:Inv X pins σ H s)(h:eQ X.K H a xs):∃ aL:List Value,Vals xs aL/\PlainL s.heap a aL.toArray/\xs.length<=sizeLine:=by
 rcases h with h | ⟨o,aL,n,hk,hc,hd,hs,hz,r⟩
 ·obtain⟨z,aL,n,r,e⟩:=h.ok I.bN;exact⟨aL,r,⟨_,n,e,rfl,rfl,rfl⟩,z⟩
 ·refine⟨aL.toList,r,⟨o,n,I.kh a o hk,hc,hd,by simpa using hs⟩,?_⟩;have e:=r.length;simp only[aaA]at e;omega
theorem Inv.tuple(I:Inv X pins σ H s)(h:eY X.K H a xs):∃ aL:List Value,Vals xs aL/\IsTup s.heap a aL.toArray/\xs.length<=sizeLine:=by
 rcases h with h | ⟨o,aL,n,hk,hc,hs,hz,r⟩
 ·obtain⟨z,aL,r,p⟩:=h.ok I.bN;exact⟨aL,r,p,z⟩
 ·refine⟨aL.toList,r,⟨o,I.kh a o hk,hc,n,by simpa using hs⟩,?_⟩;have e:=r.length;simp only[aaA]at e;omega
theorem Inv.rD(I:Inv X pins σ H s)(h:eQ X.K H a xs)(h':eQ X.K H a ys):xs=ys:=by
 obtain⟨aL,r,⟨o,n,e,_,_,d⟩,_⟩:=I.list h;obtain⟨its',r',⟨o',n',e',_,_,d'⟩,_⟩:=I.list h';rw[e]at e';cases e';rw[d]at d';injection d' with d1 _
 have:aL=its':=by simpa using abz Array.toList d1
 subst this;exact r.inj r'
theorem Inv.xV(I:Inv X pins σ H s)(h:eY X.K H a xs)(h':eY X.K H a ys):xs=ys:=by
 obtain⟨aL,r,⟨o,e,_,n,d⟩,_⟩:=I.tuple h;obtain⟨its',r',⟨o',e',_,n',d'⟩,_⟩:=I.tuple h';rw[e]at e';cases e';rw[d]at d';injection d' with d1 _
 have:aL=its':=by simpa using abz Array.toList d1
 subst this;exact r.inj r'
end
abbrev Cx.lE(X:Cx)(E:xz):Cx:={ X with xe:=E }
abbrev Cx.zq(X:Cx):Cx:=X.lE fun _ _=>False
theorem Cx.Ok.lE(ok:X.Ok)(E:xz):(X.lE E).Ok :=
 ⟨ok.mod,ok.kind,ok.glob,ok.blt,ok.above,ok.inj,ok.has,ok.Lq,ok.hd,ok.frames,ok.Hs,ok.OX,ok.bs,ok.FT,ok.zC,ok.zD,ok.kK,ok.CW⟩
theorem Cx.Ok.gY(ok:(X.lE E).Ok):X.Ok :=
 ⟨ok.mod,ok.kind,ok.glob,ok.blt,ok.above,ok.inj,ok.has,ok.Lq,ok.hd,ok.frames,ok.Hs,ok.OX,ok.bs,ok.FT,ok.zC,ok.zD,ok.kK,ok.CW⟩
theorem Inv.lE(I:Inv X pins σ H s)(E:xz):Inv (X.lE E) pins σ H s:=⟨I.ok.lE E,I.os,I.bare,I.base,I.loc,I.cell,I.free,I.gp,I.pin,I.bN,I.len⟩
theorem Inv.gY(I:Inv (X.lE E) pins σ H s):Inv X pins σ H s:=⟨I.ok.gY,I.os,I.bare,I.base,I.loc,I.cell,I.free,I.gp,I.pin,I.bN,I.len⟩
theorem SP.gY{D:Ends}{f:Flow}{s':Shared}(h:SP (X.lE E) pins D f s'):SP X pins D f s':=by
 cases f with
 | next=>obtain⟨bp,H',I,q⟩:=h;exact⟨bp,H',I.gY,q⟩
 | brk=>obtain⟨bp,H',I,q⟩:=h;exact⟨bp,H',I.gY,q⟩
 | cont=>obtain⟨bp,H',I,q⟩:=h;exact⟨bp,H',I.gY,q⟩
 | ret u=>obtain⟨v,bp,H',I,r,q⟩:=h;exact⟨v,bp,H',I.gY,r,q⟩
theorem v7.zq{st:u8}{t:TS}(h:v7 X.zq st t):v7 X st t:=fun pins s σ H D I hw =>
 abd (h pins s σ H D (I.lE _) hw) (fun _ _ q=>q.gY) fun _ _ z=>False.elim z
section
variable {st:Stmt}{rest:u8}{t u:TS}{e:Expr}
def zP:TS:=fun D σ H=>D.nx σ H
def HI(t u:TS):TS:=fun D σ H=>t { D with nx:=u D } σ H
theorem Dt:v7 X [] zP:=fun _ _ σ H _ I h=>acF ⟨σ,H,I,h⟩
theorem zQ(h1:PS X st t)(h2:v7 X rest u):v7 X (st::rest) (HI t u):=by
 intro pins s σ H D I h;refine wpAny_execs_cons (ck (h1 pins s σ H { D with nx:=u D } I h) fun f s1 q=>?_);cases f with
 | next =>
  obtain⟨bp,H',I',q⟩:=q;exact h2 pins s1 bp H' D I' q
 | ret v=>exact q
 | brk=>exact q
 | cont=>exact q
theorem Du(h1:PS X st t):v7 X [st] t:=by
 intro pins s σ H D I h;refine wpAny_execs_cons (ck (h1 pins s σ H D I h) fun f s1 q=>?_);cases f with
 | next=>exact acF q
 | ret v=>exact q
 | brk=>exact q
 | cont=>exact q
theorem Inv.quiet(I:Inv X pins σ H s):interactive X.env=false:=by simp[interactive,I.ok.kind]
def zR(te:TE):TS:=fun D σ H=>te σ H fun _ H1=>D.nx σ H1
theorem Dv(he:PE X e te)(hs:swapsWith e none pos.line X.env=pure false:=by rfl):PS X (.Expr e pos) (zR te):=by
 intro pins s σ H D I h;exact wpAny_Expr_any (ck (he pins s σ H _ I h) fun v s1 ⟨x,H1,I1,r1,q1⟩=>⟨σ,H1,I1,q1⟩) I.quiet hs
def HJ(te:TE):TS:=fun D σ H=>te σ H D.rt
theorem HK(he:PE X e te):PS X (.Return (some e) pos) (HJ te):=by
 intro pins s σ H D I h;exact wpAny_Return_some (ck (he pins s σ H _ I h) fun v s1 ⟨x,H1,I1,r1,q1⟩=>⟨x,σ,H1,I1,r1,q1⟩)
def HL(c:TT)(t u:TS):TS:=fun D σ H=>c σ H fun b H1=>if b=true then t D σ H1 else u D σ H1
theorem Lz{a b:u8}{tc:TT}(hc:PT X c tc)(ha:v7 X a t)(hb:v7 X b u):PS X (.If c a b pos) (HL tc t u):=by
 intro pins s σ H D I h;refine wpAny_If (ck (hc pins s σ H _ I h) fun d s1 ⟨H1,I1,q1⟩=>?_);cases d with
 | true=>exact ha pins s1 σ H1 D I1 q1
 | false=>exact hb pins s1 σ H1 D I1 q1
end
abbrev TG:=V->St->Hp->(St->Hp->Prop)->Prop
abbrev tV:=List V->St->Hp->(St->Hp->Prop)->Prop
def PG(X:Cx)(target:Expr)(t:TG):Prop :=
 ∀(pins:yp) (s:Shared) (σ:St) (H:Hp) (v:V) (u:Value) (Q:St->Hp->Prop),Inv X pins σ H s->RelV v u->t v σ H Q ->
  wpAny (model X.prog X.w) X.A (assign target X.env u) (fun _ s'=>∃ bp H',Inv X pins bp H' s'/\Q bp H') X.xe s
def K2(X:Cx)(ts:ut)(t:tV):Prop :=
 ∀(pins:yp) (s:Shared) (σ:St) (H:Hp) (vs:List V) (us:wf) (Q:St->Hp->Prop),Inv X pins σ H s->Vals vs us->t vs σ H Q ->
  wpAny (model X.prog X.w) X.A (assignInOrder ((assignEach ts X.env).map (·.2)) us) (fun _ s'=>∃ bp H',Inv X pins bp H' s'/\Q bp H') X.xe s
abbrev Dw:=V->V->V->Hp->(Hp->Prop)->Prop
def HN(X:Cx)(t:Dw):Prop :=
 ∀(pins:yp) (s:Shared) (σ:St) (H:Hp) (o i v:V) (ov iv u:Value) (Q:Hp->Prop),Inv X pins σ H s->RelV o ov->RelV i iv->RelV v u->t o i v H Q ->
  wpAny (model X.prog X.w) X.A (setItem ov iv u) (fun _ s'=>∃ H',Inv X pins σ H' s'/\Q H') X.xe s
def lF(i:Nat):TG:=fun v σ H Q=>Q (σ.set i (some v)) H
theorem Dx{i:Nat}(hN:X.N.Nodup)(hi:X.N[i]?=some x)(hx:Loc X.env.scope x)(hf:X.fn x=true\/X.env.scope.names.lookup x=some .local:=by first | exact .inl rfl | exact .inr rfl | assumption):PG X (.Name x pos) (lF i):=by
 intro pins s σ H v u Q I r h;exact wpAny_assign_Name (lD I hN hi hx r (fun s' I'=>⟨_,H,I',h⟩) hf)
def HP:tV:=fun vs σ H Q=>vs=[]/\Q σ H
def zS(t:TG)(u:tV):tV:=fun vs σ H Q=>∃ v r,vs=v::r/\t v σ H fun bp H'=>u r bp H' Q
theorem Dy:K2 X [] HP:=by
 intro pins s σ H vs us Q I r h;obtain⟨e,h⟩:=h;subst e;cases r;exact assignInOrder_nil ⟨σ,H,I,h⟩
theorem zT{e:Expr}{t:TG}{u:tV}(h1:PG X e t)(h2:K2 X es u)(hs:(assignEach (e::es) X.env).map (·.2)=assign e X.env::(assignEach es X.env).map (·.2):=by rfl):K2 X (e::es) (zS t u):=by
 intro pins s σ H vs us Q I r h;obtain⟨v,vr,e1,h⟩:=h;subst e1;cases r with
 | cons r rr =>
  rw[hs];refine assignInOrder_cons (ck (h1 pins s σ H _ _ _ I r h) fun _ s1 ⟨K3,H1,I1,q1⟩=>?_);exact h2 pins s1 K3 H1 _ _ Q I1 rr q1
def LB(K:zn)(n:Nat)(t:tV):TG:=fun v σ H Q=>∃ a xs,v=.ref a/\eY K H a xs/\xs.length=n/\t xs σ H Q
theorem HQ{t:tV}{n:Nat}(hc:X.calm=true)(h:K2 X es t)(hn:(assignEach es X.env).length=n:=by rfl)(nH:(assignEach es X.env).findIdx? (·.1)=none:=by rfl):PG X (.Tuple es k pos) (LB X.K n t):=by
 intro pins s σ H v u Q I r hw;obtain⟨a,xs,e1,hq,hl,hw⟩:=hw;subst e1;cases r;obtain⟨aL,rv,ht,hz⟩:=I.tuple hq;refine assign_Tuple_tuple (I.ok.hd hc) ht (by simp[hn,<- hl,rv.length]) nH fun h' hx=>?_;have I1:Inv X pins σ H { s with heap:=h' }:=I.kept (t':=s.toks) fun b o e=>hx b o (aaD (aah e)) e;exact h pins _ σ H xs _ Q I1 (by simpa using rv) hw
def HR(to ti:TE)(t:Dw):TG:=fun v σ H Q=>to σ H fun o H1=>ti σ H1 fun i H2=>t o i v H2 fun H3=>Q σ H3
theorem HU{i:Expr}{to ti:TE}{t:Dw}(ho:PE X o to)(hi:PE X i ti)(hs:HN X t)(ha:∀ v,assign (.Subscript o i pos) X.env v=(do
   let ov <- holding [v] (eval o X.env)
   let iv <- holding [v,ov] (eval i X.env)
   standAt pos
   holding [v,ov,iv] (setItem ov iv v)
   release [v,ov,iv] []):=by intro _;rfl):PG X (.Subscript o i pos) (HR to ti t):=by
 intro pins s σ H v u Q I r h;rw[ha];refine aaa (aa0 (ck (ho pins s σ H _ I h) fun ov s1 ⟨x,H1,I1,r1,q1⟩=>?_));refine aaa (aa0 (ck (hi pins s1 σ H1 _ I1 q1) fun iv s2 ⟨y,H2,I2,r2,q2⟩=>?_));refine aaa (ac0 (aaa (aa0 (ck (hs pins s2 σ H2 x y v ov iv u _ I2 r1 r2 r q2) fun _ s3 ⟨H3,I3,q3⟩=>?_))));exact wpAny_release ⟨σ,H3,I3,q3⟩
def ug(te:TE)(g:TG):TS:=fun D σ H=>te σ H fun x H1=>g x σ H1 D.nx
theorem HV{e:Expr}{g:TG}(he:PE X e te)(hg:PG X tg g)(hs:swapsWithSole [tg] e pos.line X.env=pure false:=by rfl)(hw:swappedStores [tg] e X.env=pure none:=by rfl)(h1:(assignEach [tg] X.env).map (·.2)=[assign tg X.env]:=by rfl):PS X (.Assign [tg] e pos) (ug te g):=by
 intro pins s σ H D I h;refine wpAny_Assign_stores (ck (he pins s σ H _ I h) fun v s1 ⟨x,H1,I1,r1,q1⟩=>?_) hs hw;rw[h1];exact ck (hg pins s1 σ H1 x v _ I1 r1 q1) fun _ s2 q=>q
theorem HW{i:Nat}{e:Expr}{pos':Pos}(hN:X.N.Nodup)(hi:X.N[i]?=some x)(hx:Loc X.env.scope x)(he:PE X e te)(hs:swapsWith e (some (.Name x pos')) pos.line X.env=pure false:=by rfl)(hf:X.fn x=true\/X.env.scope.names.lookup x=some .local:=by first | exact .inl rfl | exact .inr rfl | assumption) :
  PS X (.Assign [.Name x pos'] e pos) (ug te (lF i)):=by
 intro pins s σ H D I h;refine wpAny_Assign_Name (ck (he pins s σ H _ I h) fun v s1 ⟨y,H1,I1,r1,q1⟩=>?_) hs;exact lD I1 hN hi hx r1 (fun s2 I2=>⟨_,H1,I2,q1⟩) hf
def uh(c:TT)(tb:TS):TS:=fun D σ H=>∃ W:Nat->St->Hp->Prop,(∃ m,W m σ H)/\∀ m σ H,W m σ H ->
 c σ H fun b H1=>if b=true then ∃ N:St->Hp->Prop,(∀ bp H',N bp H'->∃ m',m' < m/\W m' bp H')/\tb { D with nx:=N,ct:=N,bk:=D.nx } σ H1 else D.nx σ H1
theorem zU{tc:TT}{tb:TS}(hp:PassesOwn (model X.prog X.w) X.A X.env X.xe)(hc:PT X c tc)(hb:v7 X body tb):PS X (.While c body [] pos) (uh tc tb):=by
 intro pins s σ H D I h;obtain⟨W,⟨m0,w0⟩,turn⟩:=h;refine wpAny_While (codeAny_whileLoop (fun n s'=>∃ bp H',Inv X pins bp H' s'/\W n bp H') ?_ m0 ⟨σ,H,I,w0⟩);rintro n s1 ⟨K3,H1,I1,w1⟩;refine abL hp (ck (hc pins s1 K3 H1 _ I1 (turn n K3 H1 w1)) fun b s2 ⟨H2,I2,q2⟩=>?_);cases b with
 | true =>
  obtain⟨N,hN,q2⟩:=q2;rw[aau rfl];refine abL hp (ck (hb pins s2 K3 H2 _ I2 q2) fun f s3 q3=>?_);cases f with
  | next =>
   obtain⟨v9,H3,I3,n3⟩:=q3;obtain⟨m',hm,w3⟩:=hN v9 H3 n3;exact⟨m',hm,v9,H3,I3,w3⟩
  | cont =>
   obtain⟨v9,H3,I3,n3⟩:=q3;obtain⟨m',hm,w3⟩:=hN v9 H3 n3;exact⟨m',hm,v9,H3,I3,w3⟩
  | brk=>exact q3
  | ret v=>exact q3
 | false =>
  rw[aao aaj];exact acF ⟨K3,H2,I2,q2⟩
structure It where
 go:Nat->Hp->Prop
 C3:Nat->Hp->V->Hp->Prop
 stop:Nat->Hp->Prop
def jd(X:Cx)(pins:yp)(H:Hp)(b:Addr):Prop :=
 H b=none/\b≠X.env.locals/\b ∉ X.fs/\(b∈X.ex\/X.aT.heap.objs.size<=b)/\(∀ x c,X.env.cells.lookup x=some c->c≠b)/\∀ p∈X.pn++pins,p.1≠b
theorem Inv.xW{H':Hp}(I:Inv X pins σ H s)(hb:s.heap.objs.size<=b)(hn:H' b=none):jd X pins H' b:=by
 refine⟨hn,abA (aat I.lt hb),I.P8 hb,.inr (aam I.sz hb),fun x c e z=>?_,fun p hp z=>?_⟩
 ·obtain⟨v,q⟩:=I.cell x c e;exact absurd (aat q.lt (by rw[z];exact hb)) (aaP _)
 ·exact absurd (aat (aah (I.pin p hp).1) (by rw[z];exact hb)) (aaP _)
structure Turn(P:tz)(w:World)(K:zn)(tg:Expr)(J:It)(fp:wE)(it:Addr)(tn:Nat->Heap->Prop):Prop where
 mem:it∈fp
 obj:∀ i h,tn i h->∀ b∈fp,∃ o,h.get? b=some o/\∀ v,o.data≠.cell v
 keep:∀ i h h',tn i h->(∀ b∈fp,∀ o,h.get? b=some o->h'.get? b=some o)->tn i h'
 item:∀(X:Cx),X.prog=P->X.w=w->X.K=K->X.calm=true->∀(i:Nat) (pins:yp) (s:Shared) (σ:St) (H:Hp) (E:xz),Inv X pins σ H s->(∀ b∈fp,jd X pins H b)->tn i s.heap->J.go i H ->
  wpAny (model P w) X.A (pyNext (.ref it)) (fun r s1=>∃ u,r=some u /\
   wpAny (model P w) X.A (letOwnedTupleGo tg (.ref it) u) (fun _ s2=>∃ x H',Inv X pins σ H' s2/\RelV x u/\J.C3 i H x H'/\tn (i+1) s2.heap/\∀ b∈fp,H' b=none) E s1) E s
 done:∀(X:Cx),X.prog=P->X.w=w->X.K=K->X.calm=true->∀(i:Nat) (pins:yp) (s:Shared) (σ:St) (H:Hp) (E:xz),Inv X pins σ H s->(∀ b∈fp,jd X pins H b)->tn i s.heap->J.stop i H ->
  wpAny (model P w) X.A (pyNext (.ref it)) (fun r s1=>r=none/\Inv X pins σ H s1) E s
 self:∀(A:t0) (i:Nat) (s:Shared) (Q:xz) (E:xz),tn i s.heap->Q (.ref it) s->wpAny (model P w) A (pyIter (.ref it)) Q E s
abbrev TI:=St->Hp->(It->Hp->Prop)->Prop
def TL(X:Cx)(pins:yp)(σ:St)(tg:Expr)(R:It->Hp->Prop)(O0:Value)(s2:Shared):Prop :=
 ∃(it:Addr) (fp:wE) (tn:Nat->Heap->Prop) (J:It) (H':Hp),O0=.ref it/\Inv X pins σ H' s2/\Turn X.prog X.w X.K tg J fp it tn/\tn 0 s2.heap/\(∀ b∈fp,jd X pins H' b)/\R J H'
def PI(X:Cx)(tg iter:Expr)(wi:TI):Prop :=
 ∀(pins:yp) (s:Shared) (σ:St) (H:Hp) (R:It->Hp->Prop),Inv X pins σ H s->wi σ H R ->
  wpAny (model X.prog X.w) X.A (eval iter X.env) (fun v s1=>wpAny (model X.prog X.w) X.A (pyIter v) (TL X pins σ tg R) X.xe s1) X.xe s
theorem FZ{it:Addr}{o:Obj}{n:String}{vs:Array Value}{Q:Unit->Shared->Prop}(ho:s.heap.get? it=some o)(hc:o.cls=.type n)(hd:o.data=.fields vs)(hn:["enumerate", "zip", "dict_itemiterator", "dict_reverseitemiterator", "odict_iterator", "itertools.zip_longest", "itertools.pairwise"].contains n=false)(hQ:Q () s):wpAny M A (letOwnedTupleGo tg (.ref it) u) Q E s:=by
 unfold letOwnedTupleGo;cases tg<;>first
  | exact aad hQ
  | (cases u<;>first
    | exact aad hQ
    |(refine aaa (wpAny_load ho ?_)
      rw[hc,hd]
      show wpAny M A (if(["enumerate", "zip", "dict_itemiterator", "dict_reverseitemiterator", "odict_iterator", "itertools.zip_longest", "itertools.pairwise"].contains n&&vs[0]? == some (rawInt _))=true then _ else _) Q E s
      rw[aao (by intro h;rw[hn,Bool.false_and]at h;cases h)]
      exact aad hQ))
def Qh(K:zn)(a:Addr):It :=
 ⟨fun i H=>∃ xs x,eQ K H a xs/\xs[i]?=some x,fun i H x H'=>H'=H/\∀ xs,eQ K H a xs->xs[i]?=some x,fun i H=>∃ xs,eQ K H a xs/\xs.length<=i⟩
def O1(lo:Int)(n:Nat):It:=⟨fun i _=>i < n,fun i H x H'=>H'=H/\x=.int (lo+i),fun i _=>n<=i⟩
theorem xX{K:zn}(a it:Addr):Turn P w K tg (Qh K a) [it] it (fun i h=>h.IsListIter it a i) where
 mem:=by simp
 obj:=fun i h st b hb=>by
  have e:b=it:=by simpa using hb
  subst e;obtain⟨o,e,c,d⟩:=st;exact⟨o,e,fun v z=>by rw[d]at z;cases z⟩
 keep:=fun i h h' st k=>st.at fun o e=>k it (by simp) o e
 item:=by
  intro X hP hw hK hc i pins s σ H E I hf st hg;subst hP hw hK;obtain⟨xs,x,hq,hx⟩:=hg;obtain⟨aL,rv,p,hz⟩:=I.list hq;obtain⟨u,hu,ru⟩:=rv.get hx;obtain⟨f0,f1,f2,f3,f4,f5⟩:=hf it (by simp);refine wpAny_pyNext_list_item st p.isList (x:=u) (by simpa using hu) fun h' LC sb=>?_;have I1:Inv X pins σ H { s with heap:=h' }:=I.turned (t':=s.toks) (fun b o hb e=>(sb.2 b hb).trans e) f0 f1 f3 f4 f5;obtain⟨o,e,c,d⟩:=id LC;exact⟨u,rfl,FZ (s:={ s with heap:=h' }) e c d (by decide) ⟨x,H,I1,ru,⟨rfl,fun ys hy=>by rw[I.rD hy hq];exact hx⟩,LC,fun b hb=>(hf b hb).1⟩⟩
 done:=by
  intro X hP hw hK hc i pins s σ H E I hf st hg;subst hP hw hK;obtain⟨xs,hq,hx⟩:=hg;obtain⟨aL,rv,p,hz⟩:=I.list hq;obtain⟨f0,f1,f2,f3,f4,f5⟩:=hf it (by simp);have hl:=rv.length;exact wpAny_pyNext_list_end (I.ok.hd hc) st p.isList (by simp;omega) fun h' eb=>⟨rfl,I.turned (t':=s.toks) (fun b o hb e=>eb b o hb e) f0 f1 f3 f4 f5⟩
 self:=fun _ _ _ _ _ st h=>wpAny_pyIter_listiter st h
theorem ui{K:zn}(it:Addr)(lo:Int)(n:Nat):Turn P w K tg (O1 lo n) [it] it (fun i h=>IsRangeIter h it (lo+(i:Nat) * 1) ((n:Int) - (i:Nat)) 1) where
 mem:=by simp
 obj:=fun i h st b hb=>by
  have e:b=it:=by simpa using hb
  subst e;exact⟨_,st,fun v z=>by
   have z':Data.fields _=Data.cell v:=z;cases z'⟩
 keep:=fun i h h' st k=>k it (by simp) _ st
 item:=by
  intro X hP hw hK hc i pins s σ H E I hf st hg;subst hP hw hK;obtain⟨f0,f1,f2,f3,f4,f5⟩:=hf it (by simp);have W:=Walks.range (prog:=X.prog) (w:=X.w) (I.ok.hd hc) it lo 1 n;refine W.item i s _ _ hg st fun v h' tk hv LC kk=>?_;obtain⟨t,rfl⟩:=hv;have I1:Inv X pins σ H { s with heap:=h',toks:=tk }:=I.turned (fun b o hb e=>kk b o (by simpa using hb) e) f0 f1 f3 f4 f5;refine⟨_,rfl,FZ (s:={ s with heap:=h',toks:=tk }) (n := "range_iterator") LC rfl rfl (by decide) ⟨.int (lo+i),H,I1,⟨t,?_⟩,⟨rfl,rfl⟩,LC,fun b hb=>(hf b hb).1⟩⟩;rw[Int.mul_one]
 done:=by
  intro X hP hw hK hc i pins s σ H E I hf st hg;subst hP hw hK;obtain⟨f0,f1,f2,f3,f4,f5⟩:=hf it (by simp);exact wpAny_pyNext_range_end (I.ok.hd hc) st (by have:n<=i:=hg;omega) fun h' eb=>⟨rfl,I.turned (t':=s.toks) (fun b o hb e=>eb b o hb e) f0 f1 f3 f4 f5⟩
 self:=fun _ _ _ _ _ st h=>wpAny_pyIter_rangeiter st h
def zV(K:zn)(tl:TE):TI:=fun σ H R=>tl σ H fun x H1=>∃ a,x=.ref a/\(∃ xs,eQ K H1 a xs)/\R (Qh K a) H1
theorem Dz{l:Expr}{tl:TE}(hl:PE X l tl):PI X tg l (zV X.K tl):=by
 intro pins s σ H R I h;refine ck (hl pins s σ H _ I h) fun v s1 ⟨x,H1,I1,r1,q1⟩=>?_;obtain⟨a,e,⟨xs,hq⟩,q⟩:=q1;subst e;cases r1;obtain⟨aL,rv,p,hz⟩:=I1.list hq;refine abj p.isList ?_;refine⟨s1.heap.objs.size,[s1.heap.objs.size],_,_,H1,rfl,I1.kept (t':=s1.toks) fun b o e=>aac _ e,xX a _,⟨_,aai _ rfl,rfl,rfl⟩,fun b hb=>?_,q⟩;have e:b=s1.heap.objs.size:=by simpa using hb
 subst e;exact I1.xW (aae _) (I1.bN.fresh (aae _))
theorem zW{R:It->Hp->Prop}{lo hi:Int}{t u v:Tok}{tk:Nat}(I:Inv X pins σ H s)(h1:-(2 ^ 62)<=lo)(h2:lo < 2 ^ 62)(h3:-(2 ^ 62)<=hi)(h4:hi < 2 ^ 62)(q:R (O1 lo (hi - lo).toNat) H):wpAny (model X.prog X.w) X.A (pyIter (.ref s.heap.objs.size)) (TL X pins σ tg R) E { s with heap:=s.heap.push { cls:=.type "range",data:=.fields #[.int lo t,.int hi u,.int 1 v] },toks:=tk }:=by
 refine wpAny_pyIter_range (IsRange.new ..) (small_one h1 h2 h3 h4) ?_;have I1:Inv X pins σ H { s with heap:=s.heap.push { cls:=.type "range",data:=.fields #[.int lo t,.int hi u,.int 1 v] },toks:=tk }:=I.kept fun b o e=>aac _ e;refine⟨(s.heap.push { cls:=.type "range",data:=.fields #[.int lo t,.int hi u,.int 1 v] }).objs.size,[(s.heap.push { cls:=.type "range",data:=.fields #[.int lo t,.int hi u,.int 1 v] }).objs.size],_,_,H,rfl,
  I1.kept (t':=tk) fun b o e=>aac _ e,ui _ lo (hi - lo).toNat,?_,fun b hb=>?_,q⟩
 ·have e1:lo+((0:Nat):Int) * 1=lo:=by simp
  have e2:(((hi - lo).toNat:Nat):Int) - ((0:Nat):Int)=Builtin.Range.rangeSize lo hi 1:=by rw[rangeSize_one];split<;>omega
  show IsRangeIter _ _ (lo+((0:Nat):Int) * 1) ((((hi - lo).toNat:Nat):Int) - ((0:Nat):Int)) 1;rw[e1,e2];exact aai _ rfl
 ·have e:b=(s.heap.push { cls:=.type "range",data:=.fields #[.int lo t,.int hi u,.int 1 v] }).objs.size:=by simpa using hb
  subst e;exact I1.xW (aae _) (I1.bN.fresh (aae _))
def zX(ta:TA):TI:=fun σ H R=>ta σ H fun vs H1=>∃ j:Int,vs=[.int j]/\-(2 ^ 62)<=j/\j < 2 ^ 62/\R (O1 0 j.toNat) H1
theorem xY{a:Expr}{ta:TA}(hg:Gl X "range")(hm:X.mg "range"=none)(ha:PA X [a] ta)(hs:starEach [a] X.env=[(false,eval a X.env)]:=by rfl):PI X tg (.Call (.Name "range" p) [a] [] pos) (zX ta):=by
 intro pins s σ H R I h;refine Call_ (iY I hg hm boot_range (abt (ck (ha pos pins s σ H _ I h) fun us s1 ⟨vs,H1,I1,r1,q1⟩=>?_) hs rfl));obtain⟨j,e,q1,q2,q⟩:=q1;subst e;cases r1 with
 | cons r rr =>
  cases rr;obtain⟨t,rfl⟩:=r;exact call_range_1 (zW I1 (by omega) (by omega) q1 q2 (by simpa using q))
def HX(wi:TI)(g:TG)(tb:TS):TS:=fun D σ H=>wi σ H fun J H1=>∃ W:Nat->Nat->St->Hp->Prop,(∃ m,W 0 m σ H1)/\∀ i m σ H,W i m σ H ->
 (J.stop i H/\D.nx σ H)\/(J.go i H/\∃ N:St->Hp->Prop,(∀ bp H',N bp H'->∃ m',m' < m/\W (i+1) m' bp H')/\∀ x H',J.C3 i H x H'->g x σ H' fun zr H2=>tb { D with nx:=N,ct:=N,bk:=D.nx } zr H2)
def eR(fp:wE)(h:Heap):List (Addr×Obj):=fp.filterMap fun b=>(h.get? b).map fun o=>(b,o)
theorem dN{o:Obj}(hb:b∈fp)(e:h.get? b=some o):(b,o)∈eR fp h:=acM.mpr ⟨b,hb,by rw[e];rfl⟩
theorem nU{p:Addr×Obj}(hp:p∈eR fp h):p.1∈fp/\h.get? p.1=some p.2:=by
 obtain⟨b,hb,e⟩:=acM.mp hp;cases q:h.get? b with
 | none=>rw[q]at e;cases e
 | some o =>
  rw[q]at e;have e':(b,o)=p:=aaF e;subst e';exact⟨hb,q⟩
theorem Inv.pinned(I:Inv X pins σ H s)(hf:∀ b∈fp,jd X pins H b)(ho:∀ b∈fp,∃ o,s.heap.get? b=some o/\∀ v,o.data≠.cell v):Inv X (pins++eR fp s.heap) σ H s :=
 I.vZ fun p hp=>(aaZ.mp hp).elim (fun z=>I.pin p (aav _ z)) fun z=>by
  obtain⟨hb,e⟩:=nU z;obtain⟨f0,f1,f2,_⟩:=hf p.1 hb;obtain⟨o,e',d⟩:=ho p.1 hb;rw[e]at e';cases e';exact⟨e,f0,f1,f2,d⟩
theorem Inv.je{pl:yp}(I:Inv X (pins++pl) σ H s):Inv X pins σ H s:=I.vZ fun p hp=>I.pin p (aav _ (ab8 _ hp))
theorem HY{iter:Expr}{wi:TI}{g:TG}{tb:TS}(hp:PassesOwn (model X.prog X.w) X.A X.env X.xe)(hc:X.calm=true)(hi:PI X tg iter wi)(hg:PG X tg g)(hb:v7 X body tb)(hs:∀ x,foldedSetIterable iter X.env x=pure x:=by intro _;rfl):PS X (.For tg iter body [] pos) (HX wi g tb):=by
 intro pins s σ H D I h;refine wpAny_For (ck (hi pins s σ H _ I h) fun v s1 h1=>ck h1 fun O0 s2 h2=>?_) hs;obtain⟨it,fp,tn,J,H2,e,I2,T,nV,f2,W,⟨m0,w0⟩,turn⟩:=h2;subst e
 -- LD stays true of K4 HZ objects through K4 loop
 have uj:∀{H':Hp},(∀ b∈fp,H' b=none)->∀ b∈fp,jd X pins H' b:=fun hn b hb=>⟨hn b hb,(f2 b hb).2⟩;refine codeAny_forLoop_any (fun n s'=>∃ i bp H',Inv X pins bp H' s'/\tn i s'.heap/\(∀ b∈fp,H' b=none)/\W i n bp H') ?_ m0 ⟨0,σ,H2,I2,nV,fun b hb=>(f2 b hb).1,w0⟩;rintro n s3 ⟨i,v9,H3,I3,TM,TN,w3⟩;rcases turn i n v9 H3 w3 with⟨stop,qn⟩ | ⟨go,N,hN,step⟩
 ·refine abL hp (ck (T.done X rfl rfl rfl hc i pins s3 v9 H3 X.xe I3 (uj TN) TM stop) fun r s4 ⟨hr,I4⟩=>?_);subst hr;exact acF ⟨v9,H3,I4,qn⟩
 ·refine abL hp (ck (T.item X rfl rfl rfl hc i pins s3 v9 H3 X.xe I3 (uj TN) TM go) fun r s4 ⟨u,hr,h4⟩=>?_);subst hr;refine abL hp (ck h4 fun _ s5 ⟨x,H5,I5,r5,y5,K5,O2⟩=>?_);have LF:=I5.pinned (uj O2) (T.obj _ _ K5);refine abL hp (ck (hg _ s5 v9 H5 x u _ LF r5 (step x H5 y5)) fun _ s6 ⟨VJ,H6,I6,q6⟩=>?_);refine abL hp (ck (hb _ s6 VJ H6 _ I6 q6) fun f s7 q7=>?_);have again:∀{zY:St} {H7:Hp},Inv X (pins++eR fp s5.heap) zY H7 s7->N zY H7->∃ m,m < n/\∃ i bp H',Inv X pins bp H' s7/\tn i s7.heap/\(∀ b∈fp,H' b=none)/\W i m bp H':=fun{zY H7} I7 n7=>by
   obtain⟨m',hm,w7⟩:=hN zY H7 n7;refine⟨m',hm,i+1,zY,H7,I7.je,T.keep _ _ _ K5 fun b hb o e=>(I7.pin (b,o) (aav _ (aav _ (dN hb e)))).1,fun b hb=>?_,w7⟩;obtain⟨o,e,d⟩:=T.obj _ _ K5 b hb;exact(I7.pin (b,o) (aav _ (aav _ (dN hb e)))).2.1
  cases f with
  | next=>obtain⟨zY,H7,I7,n7⟩:=q7;exact again I7 n7
  | cont=>obtain⟨zY,H7,I7,n7⟩:=q7;exact again I7 n7
  | brk=>obtain⟨zY,H7,I7,q7⟩:=q7;exact⟨zY,H7,I7.je,q7⟩
  | ret v=>obtain⟨x7,zY,H7,I7,r7,q7⟩:=q7;exact⟨x7,zY,H7,I7.je,r7,q7⟩
abbrev R2:=V->V->Hp->VK->Prop
def gq(X:Cx)(f:Value->Value->Sem Value)(r:R2):Prop :=
 ∀(pins:yp) (s:Shared) (σ:St) (H:Hp) (x y:V) (v u:Value) (Q:VK),Inv X pins σ H s->RelV x v->RelV y u->r x y H Q ->
  wpAny (model X.prog X.w) X.A (f v u) (EP X pins σ Q) X.xe s
def O3(X:Cx)(f:Value->Sem Value)(r:V->Hp->VK->Prop):Prop :=
 ∀(pins:yp) (s:Shared) (σ:St) (H:Hp) (x:V) (v:Value) (Q:VK),Inv X pins σ H s->RelV x v->r x H Q ->
  wpAny (model X.prog X.w) X.A (f v) (EP X pins σ Q) X.xe s
def eE(X:Cx)(f:Value)(r:List V->Hp->VK->Prop):Prop :=
 ∀(pins:yp) (s:Shared) (σ:St) (H:Hp) (xs:List V) (us:wf) (Q:VK),Inv X pins σ H s->Vals xs us->r xs H Q ->
  wpAny (model X.prog X.w) X.A (call f us) (EP X pins σ Q) X.xe s
def xZ(r:R2)(ta tb:TE):TE:=fun σ H Q=>ta σ H fun x H1=>tb σ H1 fun y H2=>r x y H2 Q
def O4(r:V->Hp->VK->Prop)(ta:TE):TE:=fun σ H Q=>ta σ H fun x H1=>r x H1 Q
def rI(C:Int->Int->Prop)(g:Int->Int->V):R2:=fun x y H Q=>∃ i j,x=.int i/\y=.int j/\C i j/\Q (g i j) H
def C4(g:Int->Int->V):R2:=fun x y H Q=>∃ i j,x=.int i/\y=.int j/\Q (g i j) H
def rU(g:Int->V):V->Hp->VK->Prop:=fun x H Q=>∃ i,x=.int i/\Q (g i) H
section
variable {a b:Expr}{tb tc:TE}
theorem Ia(ha:PE X a ta)(hb:PE X b tb){R:V->V->Hp->Prop}(I:Inv X pins σ H s)(h:ta σ H fun x H1=>tb σ H1 fun y H2=>R x y H2)(hf:∀ v u s2 x y H2,Inv X pins σ H2 s2->RelV x v->RelV y u->R x y H2->wpAny (model X.prog X.w) X.A (f v u) Q X.xe s2) :
  wpAny (model X.prog X.w) X.A (eval a X.env) (fun v bo=>wpAny (model X.prog X.w) X.A (eval b X.env) (fun u bb=>wpAny (model X.prog X.w) X.A (f v u) Q X.xe bb) X.xe bo) X.xe s:=by
 refine ck (ha pins s σ H _ I h) fun v s1 ⟨x,H1,I1,r1,q1⟩=>?_;refine ck (hb pins s1 σ H1 _ I1 q1) fun u s2 ⟨y,H2,I2,r2,q2⟩=>?_;exact hf v u s2 x y H2 I2 r1 r2 q2
theorem LH{op:Operator}{r:R2}(ho:gq X (binaryOp op) r)(ha:PE X a ta)(hb:PE X b tb):PE X (.BinOp a op b pos) (xZ r ta tb):=by
 intro pins s σ H Q I h;exact wpAny_BinOp (Ia ha hb I h fun v u s2 x y H2 I2 rx ry q=>ho pins s2 σ H2 x y v u Q I2 rx ry q)
theorem LJ{op:UnaryOp}{r:V->Hp->VK->Prop}(ho:O3 X (unaryOp op) r)(ha:PE X a ta):PE X (.UnaryOp op a pos) (O4 r ta):=by
 intro pins s σ H Q I h;exact UnaryOp_ (ck (ha pins s σ H _ I h) fun v s1 ⟨x,H1,I1,r1,q1⟩=>ho pins s1 σ H1 x v Q I1 r1 q1)
theorem O5{C:Int->Int->Prop}{g:Int->Int->Int}(rule:∀(i j:Int) (t u:Tok) (s:Shared) (Q:xz) (E:xz),C i j->Q (.int (g i j) s.toks) { s with toks:=s.toks+1 }->wpAny (model X.prog X.w) X.A (f (.int i t) (.int j u)) Q E s) :
  gq X f (rI C fun i j=>.int (g i j)):=by
 intro pins s σ H x y v u Q I rx ry h;obtain⟨i,j,rfl,rfl,hc,q⟩:=h;obtain⟨t,rfl⟩:=rx;obtain⟨t',rfl⟩:=ry;exact rule i j t t' s _ _ hc ⟨.int (g i j),H,I.tok _,⟨_,rfl⟩,q⟩
theorem Ib{g:Int->Int->Int}(rule:∀(i j:Int) (t u:Tok) (s:Shared) (Q:xz) (E:xz),Q (.int (g i j) s.toks) { s with toks:=s.toks+1 }->wpAny (model X.prog X.w) X.A (f (.int i t) (.int j u)) Q E s) :
  gq X f (C4 fun i j=>.int (g i j)):=by
 intro pins s σ H x y v u Q I rx ry h;obtain⟨i,j,rfl,rfl,q⟩:=h;obtain⟨t,rfl⟩:=rx;obtain⟨t',rfl⟩:=ry;exact rule i j t t' s _ _ ⟨.int (g i j),H,I.tok _,⟨_,rfl⟩,q⟩
theorem DA{g:Int->Int->Bool}(rule:∀(i j:Int) (t u:Tok) (s:Shared) (Q:xz) (E:xz),Q (.bool (g i j)) s->wpAny (model X.prog X.w) X.A (f (.int i t) (.int j u)) Q E s) :
  gq X f (C4 fun i j=>.bl (g i j)):=by
 intro pins s σ H x y v u Q I rx ry h;obtain⟨i,j,rfl,rfl,q⟩:=h;obtain⟨t,rfl⟩:=rx;obtain⟨t',rfl⟩:=ry;exact rule i j t t' s _ _ ⟨.bl (g i j),H,I,rfl,q⟩
def Qi(i j:Int):Prop:=0<=j/\j<=1000000/\i.natAbs < 2 ^ 64
def Ic(i j:Int):Prop:=(-(2 ^ 64) < i/\i < 2 ^ 64)\/(-(2 ^ 64) < j/\j < 2 ^ 64)
theorem Ic.ok{i j:Int}(h:Ic i j):IntMulOk i j:=by
 rcases h with⟨h1,h2⟩ | ⟨h1,h2⟩
 ·exact .of_left (intBits_le_64 h1 h2)
 ·exact .of_right (intBits_le_64 h1 h2)
theorem a8:gq X (binaryOp .Add) (C4 fun i j=>.int (i+j)):=Ib fun _ _ _ _ _ _ _ q=>add_int q
theorem cu:gq X (binaryOp .Sub) (C4 fun i j=>.int (i - j)):=Ib fun _ _ _ _ _ _ _ q=>sub_int q
theorem gf:gq X (binaryOp .Mult) (rI Ic fun i j=>.int (i * j)):=O5 fun _ _ _ _ _ _ _ hc q=>mul_int q hc.ok
theorem cW:gq X (binaryOp .Mod) (rI (fun _ j=>0 < j) fun i j=>.int (i % j)):=O5 fun i j _ _ _ _ _ hc q=>by
 have h1:(0:Int) < j:=hc;exact mod_int' (by omega) (by rw[Int.fmod_eq_emod_of_nonneg i (by omega)];exact q)
theorem iZ:gq X (binaryOp .Pow) (rI Qi fun i j=>.int (i ^ j.toNat)):=O5 fun _ _ _ _ _ _ _ hc q=>pow_int_small hc.1 hc.2.1 hc.2.2 q
theorem o4:gq X (inplaceOp .Add) (C4 fun i j=>.int (i+j)):=Ib fun _ _ _ _ _ _ _ q=>iadd_int q
theorem VL{f:Value->Sem Value}{g:Int->Int}(rule:∀(i:Int) (t:Tok) (s:Shared) (Q:xz) (E:xz),Q (.int (g i) s.toks) { s with toks:=s.toks+1 }->wpAny (model X.prog X.w) X.A (f (.int i t)) Q E s) :
  O3 X f (rU fun i=>.int (g i)):=by
 intro pins s σ H x v Q I rx h;obtain⟨i,rfl,q⟩:=h;obtain⟨t,rfl⟩:=rx;exact rule i t s _ _ ⟨.int (g i),H,I.tok _,⟨_,rfl⟩,q⟩
theorem zZ:O3 X (unaryOp .USub) (rU fun i=>.int (-i)):=VL fun _ _ _ _ _ q=>neg_int q
end
def LK:V->V->Bool
 | .cD,.cD=>true | .cD,.int _=>true | .int _,.cD=>true | .cD,.bl _=>true | .bl _,.cD=>true | .cD,.str _=>true | .str _,.cD=>true
 | .int _,.int _=>true | .bl _,.bl _=>true | .str _,.str _=>true | .vY _,.vY _=>true
 | .int _,.str _=>true | .str _,.int _=>true | .bl _,.str _=>true | .str _,.bl _=>true
 | _,_=>false
def TQ:R2:=fun x y H Q=>LK x y=true/\Q (.bl (decide (x=y))) H
def TR:R2:=fun x y H Q=>LK x y=true/\Q (.bl (!decide (x=y))) H
theorem wa{i j:Int}:decide (V.int i=V.int j)=(i == j):=by
 rw[acG];simp
theorem Aa{i j:Bool}:decide (V.bl i=V.bl j)=(i == j):=by
 rw[acG];simp
theorem wb{i j:Str}:decide (V.str i=V.str j)=(i == j):=by
 rw[acG];simp
theorem we{i j:Array UInt8}:decide (V.vY i=V.vY j)=(i.toList == j.toList):=by
 rw[acG];cases i;cases j;simp
section
variable {a b:Expr}{tb tc:TE}
theorem bz{Q:VK}{k k':Bool}(I:Inv X pins σ H s)(q:Q (.bl k) H)(e:k=k'):EP X pins σ Q (.bool k') s:=by
 subst e;exact⟨.bl k,H,I,rfl,q⟩
theorem LL:gq X (compareOp .Eq) TQ:=by
 intro pins s σ H x y v u Q I rx ry h;obtain⟨hs,q⟩:=h;cases x with
 | cD =>
  cases rx;cases y with
  | cD=>cases ry;exact PySem.EqNone.eq_none_none (bz I q (by simp))
  | bl j=>cases ry;exact PySem.EqNone.eq_none_bool (bz I q (by simp))
  | int j=>obtain⟨t',rfl⟩:=ry;exact PySem.EqNone.eq_none_int (bz I q (by simp))
  | str j=>obtain⟨t',rfl⟩:=ry;exact PySem.EqNone.eq_none_str (bz I q (by simp))
  | _=>exact absurd (show false=true from hs) aaj
 | bl i =>
  cases rx;cases y with
  | cD=>cases ry;exact PySem.EqNone.eq_bool_none (bz I q (by simp))
  | bl j=>cases ry;exact eq_bool (bz I q Aa)
  | str j=>obtain⟨t',rfl⟩:=ry;exact PySem.EqMixed.eq_bool_str (bz I q (by simp))
  | _=>exact absurd (show false=true from hs) aaj
 | int i =>
  obtain⟨t,rfl⟩:=rx;cases y with
  | cD=>cases ry;exact PySem.EqNone.eq_int_none (bz I q (by simp))
  | int j=>obtain⟨t',rfl⟩:=ry;exact eq_int (bz I q wa)
  | str j=>obtain⟨t',rfl⟩:=ry;exact PySem.EqMixed.eq_int_str (bz I q (by simp))
  | _=>exact absurd (show false=true from hs) aaj
 | str i =>
  obtain⟨t,rfl⟩:=rx;cases y with
  | cD=>cases ry;exact PySem.EqNone.eq_str_none (bz I q (by simp))
  | bl j=>cases ry;exact PySem.EqMixed.eq_str_bool (bz I q (by simp))
  | int j=>obtain⟨t',rfl⟩:=ry;exact PySem.EqMixed.eq_str_int (bz I q (by simp))
  | str j=>obtain⟨t',rfl⟩:=ry;exact eq_str (bz I q wb)
  | _=>exact absurd (show false=true from hs) aaj
 | vY i =>
  obtain⟨t,rfl⟩:=rx;cases y with
  | vY j=>obtain⟨t',rfl⟩:=ry;exact PySem.W.eq_bytes (bz I q we)
  | _=>exact absurd (show false=true from hs) aaj
 | _=>cases y<;>exact absurd (show false=true from hs) aaj
theorem LM:gq X (compareOp .NotEq) TR:=by
 intro pins s σ H x y v u Q I rx ry h;obtain⟨hs,q⟩:=h;cases x with
 | cD =>
  cases rx;cases y with
  | cD=>cases ry;exact PySem.EqNone.ne_none_none (bz I q (by simp))
  | bl j=>cases ry;exact PySem.EqNone.ne_none_bool (bz I q (by simp))
  | int j=>obtain⟨t',rfl⟩:=ry;exact PySem.EqNone.ne_none_int (bz I q (by simp))
  | str j=>obtain⟨t',rfl⟩:=ry;exact PySem.EqNone.ne_none_str (bz I q (by simp))
  | _=>exact absurd (show false=true from hs) aaj
 | bl i =>
  cases rx;cases y with
  | cD=>cases ry;exact PySem.EqNone.ne_bool_none (bz I q (by simp))
  | bl j=>cases ry;exact ne_bool (bz I q (abz not Aa))
  | str j=>obtain⟨t',rfl⟩:=ry;exact PySem.EqMixed.ne_bool_str (bz I q (by simp))
  | _=>exact absurd (show false=true from hs) aaj
 | int i =>
  obtain⟨t,rfl⟩:=rx;cases y with
  | cD=>cases ry;exact PySem.EqNone.ne_int_none (bz I q (by simp))
  | int j=>obtain⟨t',rfl⟩:=ry;exact ne_int (bz I q (abz not wa))
  | str j=>obtain⟨t',rfl⟩:=ry;exact PySem.EqMixed.ne_int_str (bz I q (by simp))
  | _=>exact absurd (show false=true from hs) aaj
 | str i =>
  obtain⟨t,rfl⟩:=rx;cases y with
  | cD=>cases ry;exact PySem.EqNone.ne_str_none (bz I q (by simp))
  | bl j=>cases ry;exact PySem.EqMixed.ne_str_bool (bz I q (by simp))
  | int j=>obtain⟨t',rfl⟩:=ry;exact PySem.EqMixed.ne_str_int (bz I q (by simp))
  | str j=>obtain⟨t',rfl⟩:=ry;exact ne_str (bz I q (abz not wb))
  | _=>exact absurd (show false=true from hs) aaj
 | vY i =>
  obtain⟨t,rfl⟩:=rx;cases y with
  | vY j=>obtain⟨t',rfl⟩:=ry;exact PySem.W.ne_bytes (bz I q (abz not we))
  | _=>exact absurd (show false=true from hs) aaj
 | _=>cases y<;>exact absurd (show false=true from hs) aaj
theorem jf:gq X (compareOp .Lt) (C4 fun i j=>.bl (decide (i < j))):=DA fun _ _ _ _ _ _ _ q=>lt_int q
theorem Ga:gq X (compareOp .LtE) (C4 fun i j=>.bl (decide (i<=j))):=DA fun _ _ _ _ _ _ _ q=>le_int q
theorem Ab:gq X (compareOp .Gt) (C4 fun i j=>.bl (decide (j < i))):=DA fun _ _ _ _ _ _ _ q=>gt_int q
theorem rE:gq X (compareOp .GtE) (C4 fun i j=>.bl (decide (j<=i))):=DA fun _ _ _ _ _ _ _ q=>ge_int q
theorem Ac(b:Expr)(h:op≠.In:=by decide)(h2:op≠.NotIn:=by decide):behindInMarks op b=false:=by
 have e1:(op == CmpOp.In)=false:=by cases op<;>first | rfl | exact absurd rfl h
 have e2:(op == CmpOp.NotIn)=false:=by cases op<;>first | rfl | exact absurd rfl h2
 cases b<;>simp[behindInMarks,e1,e2]
theorem wj{r:R2}(ho:gq X (compareOp op) r)(ha:PE X a ta)(hb:PE X b tb)(hm:behindInMarks op b=false):PE X (.Compare a [op] [b] pos) (xZ r ta tb):=by
 intro pins s σ H Q I h;exact wpAny_Compare1 (Ia ha hb I h fun v u s2 x y H2 I2 rx ry q=>ho pins s2 σ H2 x y v u Q I2 rx ry q) hm
def wm(t:TE):TT:=fun σ H Q=>t σ H fun x H'=>∃ k,x=.bl k/\Q k H'
theorem wu{r:R2}(ho:gq X (compareOp op) r)(ha:PE X a ta)(hb:PE X b tb)(hm:behindInMarks op b=false):PT X (.Compare a [op] [b] pos) (wm (xZ r ta tb)):=by
 intro pins s σ H Q I h;refine wpAny_isTrue_Compare1 (ck (ha pins s σ H _ I h) fun v s1 ⟨x,H1,I1,r1,q1⟩=>ck (hb pins s1 σ H1 _ I1 q1) fun u s2 ⟨y,H2,I2,r2,q2⟩ =>
  ck (ho pins s2 σ H2 x y v u _ I2 r1 r2 q2) fun c s3 ⟨z,H3,I3,r3,k,e,q3⟩=>?_) hm
 subst e;cases r3;exact abi ⟨H3,I3,q3⟩
def uk(r r':R2)(ta tb tc:TE):TE:=fun σ H Q=>ta σ H fun x H1=>tb σ H1 fun y H2=>r x y H2 fun z H3=>∃ k,z=.bl k /\
 (if k=true then tc σ H3 fun w' H4=>r' y w' H4 Q else Q (.bl false) H3)
theorem Ad{Ie:CmpOp}{r r':R2}(ho:gq X (compareOp op) r)(zE:gq X (compareOp Ie) r')(ha:PE X a ta)(hb:PE X b tb)(hc:PE X c tc)(hm:lastMarks [op,Ie] [b,c]=false:=by with_unfolding_all rfl):PE X (.Compare a [op,Ie] [b,c] pos) (uk r r' ta tb tc):=by
 intro pins s σ H Q I h;refine Compare_chain (ck (ha pins s σ H _ I h) fun v s1 ⟨x,H1,I1,r1,q1⟩=>chain_link (ck (hb pins s1 σ H1 _ I1 q1) fun u s2 ⟨y,H2,I2,r2,q2⟩ =>
  ck (ho pins s2 σ H2 x y v u _ I2 r1 r2 q2) fun d s3 ⟨z,H3,I3,r3,k,e,q3⟩=>?_)) hm
 subst e;cases r3;refine abi ?_;cases k with
 | false=>exact ite_ff ⟨.bl false,H3,I3,rfl,q3⟩
 | true=>exact ite_tt (chain_last (ck (hc pins s3 σ H3 _ I3 q3) fun w' s4 ⟨z',H4,I4,r4,q4⟩=>zE pins s4 σ H4 y z' u w' Q I4 r2 r4 q4))
theorem lG:(sizeLine:Nat) < 2 ^ 63:=by rw[sizeLine_eq];decide
theorem vals1{x:V}(r:Vals [x] us):∃ u,us=[u]/\RelV x u:=by
 cases r with
 | cons r1 r2=>cases r2;exact⟨_,rfl,r1⟩
theorem vals2{x:V}(r:Vals [x,y] us):∃ u w',us=[u,w']/\RelV x u/\RelV y w':=by
 cases r with
 | cons r1 r2 =>
  cases r2 with
  | cons r3 r4=>cases r4;exact⟨_,_,rfl,r1,r3⟩
theorem x4(hc:X.calm=true):eE X (.builtin "min") (fun xs H Q=>∃ i j,xs=[.int i,.int j]/\Q (.int (if j < i then j else i)) H):=by
 intro pins s σ H xs us Q I r h;obtain⟨i,j,rfl,q⟩:=h;obtain⟨u,w',rfl,⟨t,rfl⟩,⟨t',rfl⟩⟩:=vals2 r;refine min_two_ints (I.ok.hd hc) fun h' tk k=>⟨_,H,I.kept k,?_,q⟩
 by_cases hj:j < i
 ·rw[aau hj,aau hj];exact⟨_,rfl⟩
 ·rw[aao hj,aao hj];exact⟨_,rfl⟩
theorem x5:eE X (.type "int") (fun xs H Q=>(∃ i,xs=[.int i]/\Q (.int i) H)\/∃ k,xs=[.bl k]/\Q (.int (if k then 1 else 0)) H):=by
 intro pins s σ H xs us Q I r h;rcases h with⟨i,rfl,q⟩ | ⟨k,rfl,q⟩
 ·obtain⟨u,rfl,t,rfl⟩:=vals1 r;exact call_int_int ⟨.int i,H,I,⟨_,rfl⟩,q⟩
 ·obtain⟨u,rfl,r1⟩:=vals1 r;cases r1;exact call_int_bool ⟨.int (if k then 1 else 0),H,I.tok _,⟨_,rfl⟩,q⟩
end
structure um(h:Heap)(x dx C:Addr)(mA:xL):Prop where
 obj:h.get? x=some (PySem.W.instObj C dx)
 ns:h.Ns1 dx mA
 ne:dx≠x
theorem x6(n:h.Ns1 dx mA):∃ od,h.get? dx=some od/\∀ name,PySem.W.lookIn name od=some (mA name):=by
 obtain⟨o,es,ep,ho,hd,hk,_,hm⟩:=n;refine⟨o,ho,fun name=>?_⟩;have e:=hm name;unfold nsFind findBy at e;rw[<- Array.find?_toList]at e;unfold PySem.W.lookIn;rw[hd];dsimp only;split
 ·rename_i y q;rw[q]at e;exact abz some e
 ·rename_i q;rw[q]at e;have a:es.toList.any (·.refKey)=false:=by
   rw[List.any_eq_false];intro y hy;obtain⟨z,t,Ig⟩:=hk y (Array.mem_toList_iff.mp hy);simp[DictEntry.refKey,Ig]
  have a':¬ es.toList.any (·.refKey)=true:=by rw[a];exact aaj
  rw[aao a'];exact abz some e
theorem um.look{x:Addr}(I:um h x dx C mA):∃ od,PySem.W.InstAt h x (PySem.W.instObj C dx) C (some od)/\∀ name,PySem.W.lookIn name od=some (mA name) :=
 let ⟨od,ho,hl⟩:=x6 I.ns
 ⟨od,⟨I.obj,rfl,rfl,ho⟩,hl⟩
section
variable {K:zn}{x f:Addr}{name:Str}{v:Value}
theorem get_map{expr:Bool}(X:K.In s.heap)(I:um s.heap x dx C mA)(hg:PySem.W.plainGet K C name=true)(hh:PySem.W.hasDictIn K C=true)(ha:PySem.W.findIn K (.ref C) name=some none)(hv:mA name=some v)(VM:PySem.W.handedIn v=true)(h:Q v { s with toks:=s.toks+1 }) :
  wpAny (model prog w) A (getAttr (.ref x) name expr) Q E s:=by
 obtain⟨od,J,hl⟩:=I.look;exact PySem.W.get_value X J (acH hg).1 (PySem.W.findObj_own hh ha rfl (by rw[hl,hv])) VM h
theorem Ae{Q:Value×wf->Shared->Prop}(X:K.In s.heap)(I:um s.heap x dx C mA)(hg:PySem.W.plainGet K C name=true)(hf:PySem.W.findIn K (.ref C) name=some (some (.ref f)))(ht:PySem.W.isFn K (.ref f)=true)(hv:mA name=none)(h:Q (.ref f,[.ref x]) s) :
  wpAny (model prog w) A (getMethod (.ref x) name pl) Q E s:=by
 obtain⟨od,J,hl⟩:=I.look;exact PySem.W.method_fn X J (acH hg).1 (acH hg).2 hf (abT.mp ht) (by show(PySem.W.lookIn name od).map (·.isSome)=some false;rw[hl,hv];rfl) h
theorem DB{ns:ww}{Q:Unit->Shared->Prop}(X:K.In s.heap)(I:um s.heap x dx C mA)(hs:PySem.W.findIn K (.ref C) "__setattr__"=some (some (.builtin "object.__setattr__")))(hp:PySem.W.plainOver K C=true)(ht:PySem.W.takerIn K C name=some none)(hh:PySem.W.hasDictIn K C=true)(hw:PySem.Within mA ns)(wx:ns.length<=sizeLine)(h:∀ h',um h' x dx C (fun y=>if y=name then some v else mA y)->Heap.SameBut dx s.heap h'->Q () { s with heap:=h',toks:=s.toks+2 }) :
  wpAny (model prog w) A (setAttr (.ref x) name v) Q E s:=by
 obtain⟨od,J,hl⟩:=I.look;refine PySem.W.set_plain X J hs (PySem.W.osa_open (s:={ s with toks:=s.toks+1 }) (r:=none) X J hp ht fun b=>?_);obtain⟨cd,hc,FU⟩:=PySem.W.any_some hh;have hx:s.heap.get? x=some ⟨.ref C,some dx,.plain,#[]⟩:=I.obj;refine aaa (aad (aaa (aaa (wpAny_loadPart hx (aaa (PySem.W.Looks.here (s:={ s with toks:=s.toks+1 }) (PySem.W.looks_clsIn X hc) ?_))))));rw[FU];refine aad (a:=some dx) (aaa (aad (aaa ?_)));refine wpAny_nsSet1 (s:={ s with toks:=s.toks+1 }) I.ns fun h' Gb nI=>?_;obtain⟨oD,esD,epD,VN,VO,VP⟩:=Gb.count (PySem.Within.cons name v hw);refine aaa (wpAny_lookBehind VN (by rw[VO];exact pastItsLine_dict (aam VP (by rw[aaG];omega))) ?_);exact aad (h _ ⟨(nI.2 _ (acj I.ne)).trans I.obj,Gb,I.ne⟩ nI)
theorem Af{R:Result->Shared->Prop}{vs:wf}(X:K.In s.heap)(hm:PySem.W.makesIn K C=true)(hi:PySem.W.findIn K (.ref C) "__init__"=some (some (.ref f)))(hf:PySem.W.typeIn K (.ref f)=some (.type "function"))(h:codeAny (model prog w) (A.under (.builtin "type.__call__" ⟨.ref C::vs,kw⟩)) (.call (.ref f) ⟨.ref (s.heap.objs.size+1)::vs,kw⟩) (PySem.W.InitBack (s.heap.objs.size+1) R)
   { s with heap:=(s.heap.push PySem.W.emptyDict).push (PySem.W.instObj C s.heap.objs.size) }) :
  codeAny (model prog w) A (.call (.ref C) ⟨vs,kw⟩) R s:=by
 obtain⟨hh,g,d,t,os⟩:=s;exact PySem.W.make_core (PySem.W.makes_of X hm) (PySem.W.looks_findIn X hi) (fun self=>PySem.W.bind_fn X self hf) (.inl rfl) h
end
def fM(f:Str)(v:V):List (Str×V)->List (Str×V)
 | []=>[(f,v)]
 | (g,x)::r=>if g=f then(g,v)::r else(g,x)::fM f v r
theorem ki(f g:Str)(v:V):∀ fs:List (Str×V),(fM f v fs).lookup g=if g=f then some v else fs.lookup g
 | []=>by
  show List.lookup g [(f,v)]=_
  by_cases h:g=f
  ·have hb:(g == f)=true:=abT.mpr h;simp only[List.lookup,hb,aau h]
  ·have hb:(g == f)=false:=acf.mpr h;simp only[List.lookup,hb,aao h]
 | (k,x)::r=>by
  have ih:=ki f g v r;rw[show fM f v ((k,x)::r)=(if k=f then(k,v)::r else(k,x)::fM f v r) from rfl]
  by_cases hk:k=f
  ·rw[aau hk]
   by_cases h:g=k
   ·have hb:(g == k)=true:=abT.mpr h;simp only[List.lookup,hb,aau (h.trans hk)]
   ·have hb:(g == k)=false:=acf.mpr h;simp only[List.lookup,hb,aao (fun e:g=f=>h (e.trans hk.symm))]
  ·rw[aao hk]
   by_cases h:g=k
   ·have hb:(g == k)=true:=abT.mpr h;simp only[List.lookup,hb,aao (fun e:g=f=>hk (h.symm.trans e))]
   ·have hb:(g == k)=false:=acf.mpr h;simp only[List.lookup,hb];exact ih
theorem jL(f:Str)(v:V):∀ fs:List (Str×V),f∈(fM f v fs).map (·.1)/\∀ g,g∈fs.map (·.1)->g∈(fM f v fs).map (·.1)
 | []=>⟨by simp[fM],fun g h=>by simp at h⟩
 | (k,x)::r=>by
  obtain⟨i1,i2⟩:=jL f v r;rw[show fM f v ((k,x)::r)=(if k=f then(k,v)::r else(k,x)::fM f v r) from rfl]
  by_cases hk:k=f
  ·rw[aau hk];subst hk;exact⟨by simp,fun g h=>by simpa using h⟩
  ·rw[aao hk];refine⟨?_,fun g h=>?_⟩
   ·rw[aaQ];exact aan _ i1
   ·rw[aaQ]at h ⊢;rcases aaf.mp h with e | e
    ·exact aaf.mpr (.inl e)
    ·exact aan _ (i2 g e)
theorem kj(f:Str)(v:V):∀ fs:List (Str×V),(fM f v fs).length<=fs.length+1
 | []=>by simp[fM]
 | (k,x)::r=>by
  have ih:=kj f v r;rw[show fM f v ((k,x)::r)=(if k=f then(k,v)::r else(k,x)::fM f v r) from rfl]
  by_cases hk:k=f
  ·rw[aau hk,aaG,aaG];omega
  ·rw[aao hk,aaG,aaG];omega
theorem kJ.some_of{o:wS}(r:kJ (some v) o):∃ u,o=some u/\RelV v u:=by
 cases o with
 | none=>exact(show False from r).elim
 | some u=>exact⟨u,rfl,r⟩
theorem kJ.none_of{o:wS}(r:kJ none o):o=none:=by
 cases o with
 | none=>rfl
 | some u=>exact(show False from r).elim
theorem x8(r:RelV v u):PySem.W.handedIn u=true:=by
 cases v with
 | cD=>cases (show u=Value.none from r);rfl
 | bl b=>cases (show u=Value.bool b from r);rfl
 | int i=>obtain⟨t,e⟩:=(show ∃ t,u=Value.int i t from r);cases e;rfl
 | str x=>obtain⟨t,e⟩:=(show ∃ t,u=Value.str x t from r);cases e;rfl
 | vY b=>obtain⟨t,e⟩:=(show ∃ t,u=Value.bytes b t from r);cases e;rfl
 | Dk b=>obtain⟨t,e⟩:=(show ∃ t,u=Value.float b t from r);cases e;rfl
 | ref a=>cases (show u=Value.ref a from r);rfl
 | ty n=>cases (show u=Value.type n from r);rfl
section
variable {H':Hp}{fs eW:List (Str×V)}
theorem lb(bN:dZ P w H h)(e:H a=some (.ins C dx fs)):∃ mA,um h a dx C mA/\(∀ f,kJ (fs.lookup f) (mA f))/\PySem.Within mA (fs.map (·.1))/\fs.length<=1000/\H dx=some (.own a):=by
 obtain⟨d,z,ne,ob,mA,n,r,q⟩:=(show cn P w H h a (.ins C dx fs) from bN a _ e);exact⟨mA,⟨ob,n,ne⟩,r,q,z,d⟩
end
structure kL(K:zn)(C:Addr):Prop where
 pg:PySem.W.plainGet K C Str.empty=true
 hd:PySem.W.hasDictIn K C=true
 po:PySem.W.plainOver K C=true
 sa:PySem.W.findIn K (.ref C) "__setattr__"=some (some (.builtin "object.__setattr__"))
theorem kL.get{K:zn}{C:Addr}(c:kL K C)(f:Str):PySem.W.plainGet K C f=true:=c.pg
def bO(K:zn)(C:Addr)(f:Str):Prop:=PySem.W.findIn K (.ref C) f=some none
theorem bO.LN{K:zn}{f:Str}(n:bO K C f):PySem.W.takerIn K C f=some none:=by
 unfold PySem.W.takerIn;rw[show PySem.W.findIn K (.ref C) f=some none from n]
 rfl
structure Meth(K:zn)(C:Addr)(m:Str)(f:Addr):Prop where
 at_:PySem.W.findIn K (.ref C) m=some (some (.ref f))
 fn:PySem.W.isFn K (.ref f)=true
 kp:PySem.W.keepIn K (.ref f)=true
section
variable {fs:List (Str×V)}{f:Str}
theorem lH{b:Bool}(I:Inv X pins σ H s)(e:H a=some (.ins C dx fs))(c:kL X.K C)(n:bO X.K C f)(l:fs.lookup f=some v)(h:∀ u s',Inv X pins σ H s'->RelV v u->Q u s'):wpAny (model X.prog X.w) A (getAttr (.ref a) f b) Q E s:=by
 obtain⟨mA,O,r,_,_,_⟩:=lb I.bN e;obtain⟨u,hu,ru⟩:=kJ.some_of (v:=v) (o:=mA f) (by rw[<- l];exact r f);exact get_map I.kh O (c.get f) c.hd n hu (x8 ru) (h u _ (I.tok _) ru)
theorem lI{m:Str}{g:Addr}{Q:Value×wf->Shared->Prop}(I:Inv X pins σ H s)(e:H a=some (.ins C dx fs))(c:kL X.K C)(k:Meth X.K C m g)(l:fs.lookup m=none)(h:Q (.ref g,[.ref a]) s):wpAny (model X.prog X.w) A (getMethod (.ref a) m pl) Q E s:=by
 obtain⟨mA,O,r,_,_,_⟩:=lb I.bN e;have hn:mA m=none:=kJ.none_of (by rw[<- l];exact r m);exact Ae I.kh O (c.get m) k.at_ k.fn hn h
theorem lJ{Q:Unit->Shared->Prop}(I:Inv X pins σ H s)(e:H a=some (.ins C dx fs))(c:kL X.K C)(n:bO X.K C f)(hl:fs.length < 1000)(ry:RelV y u)(h:∀ s',Inv X pins σ (upd H a (.ins C dx (fM f y fs))) s'->Q () s'):wpAny (model X.prog X.w) A (setAttr (.ref a) f u) Q E s:=by
 obtain⟨mA,O,r,wi,_,ho⟩:=lb I.bN e;have hz:(fs.map (·.1)).length<=sizeLine:=by rw[aab,sizeLine_eq];omega
 refine DB I.kh O c.sa c.po n.LN c.hd wi hz fun h' O' sb=>h _ ?_;have hd:∃ o,h'.get? dx=some o:=let ⟨o,_,_,e',_⟩:=O'.ns;⟨o,e'⟩;refine I.write (x:=a) (e:=dx) (by rw[e];exact True.intro) (.inr ho) (fun b q hb z=>(sb.2 b hb).trans z) hd ?_;refine⟨by rw[bc O.ne];exact ho,?_,O.ne,O'.obj,_,O'.ns,fun g=>?_,fun g hg=>?_⟩
 ·have:=kj f y fs;omega
 ·show kJ ((fM f y fs).lookup g) (if g=f then some u else mA g);rw[ki]
  by_cases q:g=f
  ·rw[aau q,aau q];exact ry
  ·rw[aao q,aao q];exact r g
 ·by_cases q:g=f
  ·rw[q];exact(jL f y fs).1
  ·refine(jL f y fs).2 g (wi g fun z=>hg ?_);show(if g=f then some u else mA g)=none;rw[aao q];exact z
theorem Inv.made(I:Inv X pins σ H s):Inv X pins σ (upd (upd H s.heap.objs.size (.own (s.heap.objs.size+1))) (s.heap.objs.size+1) (.ins C s.heap.objs.size []))
  { s with heap:=(s.heap.push PySem.W.emptyDict).push (PySem.W.instObj C s.heap.objs.size) }:=by
 have e1:(s.heap.push PySem.W.emptyDict).get? s.heap.objs.size=some PySem.W.emptyDict:=aai s.heap rfl;have e2:((s.heap.push PySem.W.emptyDict).push (PySem.W.instObj C s.heap.objs.size)).get? (s.heap.objs.size+1)=some (PySem.W.instObj C s.heap.objs.size):=by
  have:=aai (s.heap.push PySem.W.emptyDict) (o:=PySem.W.instObj C s.heap.objs.size) rfl
  rwa [aaW]at this
 have e3:(s.heap.push PySem.W.emptyDict).Ns s.heap.objs.size (fun _=>none):=⟨PySem.W.emptyDict,#[],_,e1,rfl,(fun e he=>absurd he (by simp)),fun _=>rfl⟩;have I1:=I.laid (a:=s.heap.objs.size) (o:=.own (s.heap.objs.size+1)) (h':=s.heap.push PySem.W.emptyDict) (t':=s.toks) (fun b u q=>aac _ q) (aae _) ⟨_,e1⟩;refine I1.laid (a:=s.heap.objs.size+1) (o:=.ins C s.heap.objs.size []) (t':=s.toks) (fun b u q=>aac _ q) (abY (aaW _ _)) ?_;have ne:s.heap.objs.size≠s.heap.objs.size+1:=aaD (abv _);refine⟨by rw[bc ne,cK],aaJ _,ne,e2,fun _=>none,(Heap.Ns1.of_empty e3).at fun o q=>aac _ q,fun _=>True.intro,fun y hy=>absurd rfl hy⟩
theorem DD{env:Env}{e:Expr}(hb:attributeBase e f env (eval e env)=eval e env)(h:wpAny (model prog w) A (eval e env) (fun o bo=>wpAny (model prog w) A (getAttr o f true) Q E bo) E s):wpAny (model prog w) A (eval (.Attribute e f pos) env) Q E s :=
 Attribute_any_ h (by rw[arm_eval_Attribute,hb])
end
def Ih(K:zn)(ta:TE)(f:Str):TE:=fun σ H Q=>ta σ H fun x H1=>∃ a C dx fs v,x=.ref a/\H1 a=some (.ins C dx fs)/\kL K C/\bO K C f/\fs.lookup f=some v/\Q v H1
def Ii(K:zn)(ta tv:TE)(f:Str):TS:=fun D σ H=>tv σ H fun y H1=>ta σ H1 fun x H2=>∃ a C dx fs,x=.ref a/\H2 a=some (.ins C dx fs)/\kL K C/\bO K C f/\fs.length < 1000 /\
 D.nx σ (upd H2 a (.ins C dx (fM f y fs)))
def Qj(X:Cx)(op:Operator)(rd:V->V->Hp->VK->Prop):Prop :=
 ∀(pins:yp) (s:Shared) (σ:St) (H:Hp) (x y:V) (u v:Value) (Q:VK),Inv X pins σ H s->RelV x u->RelV y v->rd x y H Q->wpAny (model X.prog X.w) X.A (inplaceOp op u v) (EP X pins σ Q) X.xe s
def o5(K:zn)(ta tv:TE)(rd:V->V->Hp->VK->Prop)(f:Str):TS:=fun D σ H=>ta σ H fun x H1=>∃ a C dx fs v,x=.ref a/\H1 a=some (.ins C dx fs)/\kL K C/\bO K C f/\fs.lookup f=some v /\
 tv σ H1 fun y H2=>rd v y H2 fun z H3=>∃ Qk eW,H3 a=some (.ins C Qk eW)/\eW.length < 1000/\D.nx σ (upd H3 a (.ins C Qk (fM f z eW)))
section
variable {e value:Expr}{f:Str}{pos' Ag:Pos}{tv:TE}
theorem Ij(he:PE X e ta)(hb:attributeBase e f X.env (eval e X.env)=eval e X.env):PE X (.Attribute e f pos) (Ih X.K ta f):=by
 intro pins s σ H Q I h;refine DD hb (ck (he pins s σ H _ I h) fun u s1 ⟨x,H1,I1,rx,a,C,dx,fs,v,ex,ea,c,n,l,q⟩=>?_);subst ex;obtain rfl:u=Value.ref a:=rx;exact lH I1 ea c n l fun u' s2 I2 ru=>⟨v,H1,I2,ru,q⟩
theorem Ik(ha:PE X o ta)(hv:PE X value tv)(hs:swapsWith value (some (.Attribute o f pos')) pos.line X.env=pure false):PS X (.Assign [.Attribute o f pos'] value pos) (Ii X.K ta tv f):=by
 intro pins s σ H D I h;refine plainObj_wpAny_Assign_Attribute (ck (hv pins s σ H _ I h) fun u s1 ⟨y,H1,I1,ry,q⟩=>ck (ha pins s1 σ H1 _ I1 q) fun ov s2 ⟨x,H2,I2,rx,a,C,dx,fs,ex,ea,c,n,l,q2⟩=>?_) hs;subst ex;obtain rfl:ov=Value.ref a:=rx;exact lJ I2 ea c n l ry fun s3 I3=>⟨σ,_,I3,q2⟩
theorem x9{op:Operator}{rd:V->V->Hp->VK->Prop}(ha:PE X o ta)(hv:PE X value tv)(Ql:Qj X op rd):PS X (.AugAssign (.Attribute o f Ag) op value pos) (o5 X.K ta tv rd f):=by
 intro pins s σ H D I h;refine wpAny_AugAssign_AttributeAny (ck (ha pins s σ H _ I h) fun ov s1 ⟨x,H1,I1,rx,a,C,dx,fs,v,ex,ea,c,n,l,q⟩=>?_);subst ex;obtain rfl:ov=Value.ref a:=rx;refine lH I1 ea c n l fun u s2 I2 ru=>ck (hv pins s2 σ H1 _ I2 q) fun w3 s3 ⟨y,H2,I3,ry,q3⟩=>ck (Ql pins s3 σ H2 v y u w3 _ I3 ru ry q3) fun w4 s4 ⟨z,H3,I4,rz,Qk,eW,VQ,l',q4⟩=>?_;exact lJ I4 VQ c n l' rz fun s5 I5=>⟨σ,_,I5,q4⟩
end
section
variable {c:Value}{b:Bool}
inductive jg (K:zn) (H:Hp):V->Value->Prop where
 | cD:jg K H .cD (.type "NoneType")
 | bl (x:Bool):jg K H (.bl x) (.type "bool")
 | int (i:Int):jg K H (.int i) (.type "int")
 | str (x:Str):jg K H (.str x) (.type "str")
 | Dk (x:UInt64):jg K H (.Dk x) (.type "float")
 | lst {a:Addr} {xs:List V} (e:H a=some (.lst xs)):jg K H (.ref a) (.type "list")
 | jJ {a:Addr} {o:Obj} {xs:List V} (e:H a=some (.jJ o (.lst xs))):jg K H (.ref a) (.type "list")
 | tup {a:Addr} {xs:List V} (e:H a=some (.tup xs)):jg K H (.ref a) (.type "tuple")
 | dK {a:Addr} {bC:List (Key×V)} (e:H a=some (.dK bC)):jg K H (.ref a) (.type "dict")
 | dT {a:Addr} {bC:List (List Key×V)} (e:H a=some (.dT bC)):jg K H (.ref a) (.type "dict")
 | ins {a C dx:Addr} {fs:List (Str×V)} (e:H a=some (.ins C dx fs)) (cl:kL K C) (ha:PySem.W.findIn K (.ref C) "__class__"=some (some (.builtin "object.__class__")))
   (hn:PySem.W.specialIn K (.builtin "object.__class__") "__get__"=some (some (.builtin "getset_descriptor.__get__"))) (TU:PySem.W.takesIn K (.builtin "object.__class__")=some true)
   (hm:PySem.W.mroIn K C (.type "object")=some true):jg K H (.ref a) (.ref C)
theorem ya{x:V}{t:Value}(I:Inv X pins σ H s)(rx:RelV x u)(ty:jg X.K H x t)(e:PySem.W.kitOne X.K t c=some b)(h:∀ tk,Q (.bool b) { s with toks:=tk }) :
  wpAny (model X.prog X.w) A (call (.builtin "isinstance") [u,c]) Q E s:=by
 cases ty with
 | cD=>cases (show u=Value.none from rx);exact aa2 PySem.W.kitx_none I.kh True.intro e (fun z=>nomatch z) h
 | bl y=>cases (show u=Value.bool y from rx);exact aa2 PySem.W.kitx_bool I.kh True.intro e (fun z=>nomatch z) h
 | int i=>obtain⟨t,q⟩:=(show ∃ t,u=Value.int i t from rx);cases q;exact aa2 PySem.W.kitx_int I.kh True.intro e (fun z=>nomatch z) h
 | str y=>obtain⟨t,q⟩:=(show ∃ t,u=Value.str y t from rx);cases q;exact aa2 PySem.W.kitx_str I.kh True.intro e (fun z=>nomatch z) h
 | Dk y=>obtain⟨t,q⟩:=(show ∃ t,u=Value.float y t from rx);cases q;exact aa2 PySem.W.kitx_float I.kh True.intro e (fun z=>nomatch z) h
 | @lst a xs ea =>
  cases (show u=Value.ref a from rx);obtain⟨_,_,n,_,h1⟩:=(show cn X.prog X.w H s.heap a (.lst xs) from I.bN a _ ea);exact aa2 PySem.W.kitx_list I.kh ⟨_,h1,rfl⟩ e (fun z=>nomatch z) h
 | @jJ a ob xs ea =>
  cases (show u=Value.ref a from rx);obtain⟨_,_,_,n,_,h1⟩:=(show cn X.prog X.w H s.heap a (.jJ ob (.lst xs)) from I.bN a _ ea);exact aa2 PySem.W.kitx_list I.kh ⟨_,h1,rfl⟩ e (fun z=>nomatch z) h
 | @tup a xs ea =>
  cases (show u=Value.ref a from rx);obtain⟨_,_,_,p⟩:=(show cn X.prog X.w H s.heap a (.tup xs) from I.bN a _ ea);obtain⟨o,h1,h2,_⟩:=p;exact aa2 PySem.W.kitx_tuple I.kh ⟨o,h1,h2⟩ e (fun z=>nomatch z) h
 | @dK a bC ea =>
  cases (show u=Value.ref a from rx);obtain⟨_,_,vs,_,p⟩:=(show cn X.prog X.w H s.heap a (.dK bC) from I.bN a _ ea);obtain⟨o,es,ep,h1,h2,_⟩:=p;exact aa2 PySem.W.kitx_dict I.kh ⟨o,h1,h2.1⟩ e (fun z=>nomatch z) h
 | @dT a bC ea =>
  cases (show u=Value.ref a from rx);obtain⟨_,_,xs,_,o,es,ep,h1,h2,_⟩:=(show cn X.prog X.w H s.heap a (.dT bC) from I.bN a _ ea);exact aa2 PySem.W.kitx_dict I.kh ⟨o,h1,h2.1⟩ e (fun z=>nomatch z) h
 | @ins a C dx fs ea cl ha hn TU hm =>
  cases (show u=Value.ref a from rx);obtain⟨mA,O,_⟩:=lb I.bN ea;obtain⟨od,J,_⟩:=O.look;exact aa2 (PySem.W.kitx_own (cl.get _) cl.hd ha hn TU hm) I.kh J e (fun z=>nomatch z) h
end
structure cB(k:Nat)(A:t0):Prop where
 hd:A.handled=none
 dp:A.depth+3 * k+5 < recursionLimit
 un:A.units+16 * k+200 < cLine
theorem cB.mono{j:Nat}(r:cB k A)(h:j<=k):cB j A:=⟨r.hd,by have:=r.dp;omega,by have:=r.un;omega⟩
theorem cB.deeper(r:cB (k+1) A)(env:Env):cB k (A.deeper env) :=
 ⟨r.hd,by have:=r.dp;show A.depth+1+3 * k+5 < _;omega,by have:=r.un;show A.units+3+16 * k+200 < _;omega⟩
theorem uo:(A.under (.builtin "type.__call__" ⟨.ref C::us,kw⟩)).depth=A.depth+1:=by
 first | rfl | simp[Around.under,Code.weight,Code.isCreation,Code.isGuard,Code.isCaller,Code.frames,Code.isFrame,guardIds]
theorem ur:(A.under (.builtin "type.__call__" ⟨.ref C::us,kw⟩)).units=A.units+1:=by
 first | rfl | simp[Around.under,Code.cUnits,Code.frames,Code.isFrame]
theorem cB.make(r:cB (k+1) A)(C:Addr)(us:wf)(kw:List (Str×Value)):cB k (A.under (.builtin "type.__call__" ⟨.ref C::us,kw⟩)) :=
 ⟨r.hd,by have:=r.dp;rw[uo];omega,by have:=r.un;rw[ur];omega⟩
theorem cB.depth(r:cB k A):A.depth < recursionLimit:=by have:=r.dp;omega
theorem cB.units(r:cB k A):A.units+64 < cLine:=by have:=r.un;omega
def o6:TA:=fun _ H Q=>Q [] H
def lK(ta:TE)(tr:TA):TA:=fun σ H Q=>ta σ H fun x H1=>tr σ H1 fun xs H2=>Q (x::xs) H2
section
variable {e:Expr}{t:TA}
theorem uu:PA X [] o6:=fun _ _ _ _ H Q I h=>acU ⟨[],H,I,.nil,h⟩
theorem lg(ha:PE X e te)(hr:PA X es t)(hs:starEach (e::es) X.env=(false,eval e X.env)::starEach es X.env:=by rfl):PA X (e::es) (lK te t):=by
 intro pos pins s σ H Q I h;rw[hs];show wpAny _ _ (spliced ((false,eval e X.env)::backTo pos (starEach es X.env))) _ _ s;refine acN (ck (ha pins s σ H _ I h) fun u s1 ⟨x,H1,I1,r1,q1⟩=>?_);exact ck (hr pos pins s1 σ H1 _ I1 q1) fun us s2 ⟨xs,H2,I2,r2,q2⟩=>⟨x::xs,H2,I2,.cons r1 r2,q2⟩
def Il(t:TA):TE:=fun σ H Q=>t σ H fun xs H1=>xs.length<=sizeLine/\∀ p,H1 p=none->Q (.ref p) (upd H1 p (.tup xs))
def Ah(t:TA):TE:=fun σ H Q=>t σ H fun xs H1=>xs.length<=sizeLine/\∀ p,H1 p=none->Q (.ref p) (upd H1 p (.lst xs))
theorem Io{x1}(h:PA X es t):PE X (.Tuple es x1 pos) (Il t):=by
 intro pins s σ H Q I hq;refine wpAny_Tuple_spliced (ck (h pos pins s σ H _ I hq) fun us s1 ⟨xs,H1,I1,r,z,q⟩=>⟨by rw[<- r.length];exact z,?_⟩);have hf:H1 s1.heap.objs.size=none:=I1.bN.fresh (aae _);refine⟨.ref s1.heap.objs.size,upd H1 s1.heap.objs.size (.tup xs),I1.laid (t':=s1.toks) (fun b u e=>aac _ e) (aae _) ?_,rfl,q _ hf⟩;exact⟨z,us,r,⟨_,aai _ rfl,rfl,_,rfl⟩⟩
theorem Ip(h:PA X es t):PE X (.List es pos) (Ah t):=by
 intro pins s σ H Q I hq;refine wpAny_List_spliced (ck (h pos pins s σ H _ I hq) fun us s1 ⟨xs,H1,I1,r,z,q⟩=>⟨by rw[<- r.length];exact z,?_⟩);have hf:H1 s1.heap.objs.size=none:=I1.bN.fresh (aae _);refine⟨.ref s1.heap.objs.size,upd H1 s1.heap.objs.size (.lst xs),I1.laid (t':=s1.toks) (fun b u e=>aac _ e) (aae _) ?_,rfl,q _ hf⟩;exact⟨z,us,0,r,aai _ rfl⟩
end
abbrev Sp:=List V->Hp->VK->XK->Prop
abbrev yb:=List Env->Hp->Shared->XK->Value->Shared->Prop
variable {CX:yb}
structure uv(P:tz)(w:World)(K:zn)(mg:xL)(base:Heap)(A:t0)(outer:List Env)(s:Shared)(H:Hp):Prop where
 frames:A.frames=some outer
 mod:Mod K mg base
 bs:∀ b o,base.get? b=some o->s.heap.get? b=some o/\H b=none
 FT:base.objs.size<=s.heap.objs.size
 kK:s.heap.FunFrames base outer
 CW:∀ b∈gm outer,H b=none
 bN:dZ P w H s.heap
 bare:AllBare s.gens
def CE(outer:List Env)(P:tz)(w:World)(H:Hp)(s:Shared)(Q:VK)(u:Value)(s':Shared):Prop :=
 ∃ v H',s'.os=s.os/\AllBare s'.gens/\Un (gm outer) [] H H' s.heap s'.heap/\dZ P w H' s'.heap/\RelV v u/\Q v H'
def CR(CX:yb)(outer:List Env)(P:tz)(w:World)(H:Hp)(s:Shared)(Q:VK)(E:XK)(r:Result)(s':Shared):Prop :=
 match r with
 | .ok (.ret u)=>CE outer P w H s Q u s'
 | .ok _=>False
 | .error e=>CX outer H s E e s'
structure aW(P:tz)(w:World)(K:zn)(mg:xL)(base:Heap)(CX:yb)(k:Nat)(f:Addr)(fd:v6)(ps:ww)(sp:Sp):Prop where
 len:∀ vs H Q E,sp vs H Q E->vs.length=ps.length
 run:∀(A:t0) (outer:List Env) (s:Shared) (H:Hp) (args:Args) (us:wf) (vs:List V) (Q:VK) (E:XK),cB k A->uv P w K mg base A outer s H->BindsTo s fd args (ps.zip us)->Vals vs us->sp vs H Q E ->
  codeAny (model P w) A (.call (.ref f) args) (CR CX outer P w H s Q E) s
theorem aW.mono{P:tz}{w:World}{K:zn}{mg:xL}{base:Heap}{CX:yb}{j k:Nat}{f:Addr}{fd:v6}{ps:ww}{sp:Sp}(F:aW P w K mg base CX j f fd ps sp)(h:j<=k) :
  aW P w K mg base CX k f fd ps sp:=⟨F.len,fun A outer s H args us vs Q E hr=>F.run A outer s H args us vs Q E (hr.mono h)⟩
theorem uv.make{K:zn}{outer:List Env}(e:uv P w K mg base A outer s H)(C:Addr)(us:wf)(kw:List (Str×Value)) :
  uv P w K mg base (A.under (.builtin "type.__call__" ⟨.ref C::us,kw⟩)) outer s H:=⟨by first | exact e.frames | (simpa [Around.under,Code.envs,Code.isFrame,pushEnvs] using e.frames),e.mod,e.bs,e.FT,e.kK,e.CW,e.bN,e.bare⟩
theorem Inv.LP(I:Inv X pins σ H s):uv X.prog X.w X.K X.mg X.base X.A X.stack s H :=
 ⟨I.ok.frames,I.ok.mod,I.bs,aam I.ok.FT I.sz,I.stack,I.oZ,I.bN,I.bare⟩
theorem Inv.after{Q:VK}(I:Inv X pins σ H s)(h:CE X.stack X.prog X.w H s Q u s'):EP X pins σ Q u s':=by
 obtain⟨v,H',os,bare,un,bN,r,q⟩:=h;obtain⟨hh,g,d,t,VR⟩:=s';obtain rfl:VR=s.os:=os;exact⟨v,H',I.call (h':=hh) (g':=g) (d':=d) (t':=t) (ch:=[]) un bN bare (fun b z=>absurd z (by simp)),r,q⟩
def wy(sp:Sp)(aI:List V)(E:XK)(t:TA):TE:=fun σ H Q=>t σ H fun vs H1=>sp (vs++aI) H1 Q E
def rF(C:Addr)(m:Str)(sp:Sp)(aI:List V)(E:XK)(ta:TE)(t:TA):TE:=fun σ H Q=>ta σ H fun x H1=>∃ a dx fs,x=.ref a/\H1 a=some (.ins C dx fs)/\fs.lookup m=none /\
 t σ H1 fun vs H2=>sp (x::(vs++aI)) H2 Q E
def Ai(C:Addr)(sp:Sp)(aI:List V)(E:XK)(t:TA):TE:=fun σ H Q=>t σ H fun vs H1=>∀ x dx,H1 x=none->H1 dx=none->dx≠x ->
 sp (.ref x::(vs++aI)) (upd (upd H1 dx (.own x)) x (.ins C dx [])) (fun v H2=>v=.cD/\Q (.ref x) H2) E
def Binds(K:zn)(fd:v6)(ps:ww)(ds:wf):Prop :=
 ∀(s:Shared) (us:wf),K.In s.heap->(us++ds).length=ps.length->BindsTo s fd ⟨us,[]⟩ (ps.zip (us++ds))
theorem Binds.all{K:zn}(h:∀ us:List Value,us.length=ps.length->bindArgs fd ⟨us,[]⟩=pure (ps.zip us)):Binds K fd ps []:=fun s us _ hl=>by
 rw[abZ]at hl ⊢;exact .of_eq (h us hl)
def Passes(CX:yb)(X:Cx)(E:XK):Prop:=∀(pins:yp) (σ:St) (H:Hp) (s:Shared) (e:Value) (s':Shared),Inv X pins σ H s->CX X.stack H s E e s'->X.xe e s'
section
variable {f:Addr}{sp:Sp}{aI:List V}{ds:wf}{E:XK}{m:Str}{apos:Pos}{e:Expr}{t:TA}
theorem uw{Q:VK}(F:aW X.prog X.w X.K X.mg X.base CX k f fd ps sp)(hr:cB k X.A)(hb:Binds X.K fd ps ds)(hd:Vals aI ds)(hx:Passes CX X E)(I:Inv X pins σ H s)(r:Vals vs us)(h:sp (vs++aI) H Q E):wpAny (model X.prog X.w) X.A (call (.ref f) us) (EP X pins σ Q) X.xe s:=by
 have r2:Vals (vs++aI) (us++ds):=r.append hd;have hl:(us++ds).length=ps.length:=by rw[<- r2.length];exact F.len _ _ _ _ h
 refine wpAny_call (ab0 (F.run X.A X.stack s H ⟨us,[]⟩ (us++ds) (vs++aI) Q E hr I.LP (hb s us I.kh hl) r2 h) fun r s' hq=>?_);cases r with
 | error e=>exact hx pins σ H s e s' I hq
 | ok fl =>
  cases fl with
  | ret u=>exact I.after hq
  | next=>exact False.elim hq
  | brk=>exact False.elim hq
  | cont=>exact False.elim hq
theorem DE(F:aW X.prog X.w X.K X.mg X.base CX k f fd ps sp)(hr:cB k X.A)(hg:Gl X x)(hm:X.mg x=some (.ref f))(hk:PySem.W.keepIn X.K (.ref f)=true)(hb:Binds X.K fd ps ds)(hd:Vals aI ds)(hx:Passes CX X E)(ha:PA X (e::es) t)(rG:(x == ("__debug__":Str))=false:=by decide)(he:starEach (e::es) X.env=(false,eval e X.env)::starEach es X.env:=by rfl)(lL:(backTo pos (starEach es X.env)).any (·.1)=false:=by rfl) :
  PE X (.Call (.Name x p) (e::es) [] pos) (wy sp aI E t):=by
 intro pins s σ H Q I h;refine abB (kZ I hg hm ?_ rG);refine acO (h₀:=X.base) I.ok.mod.K1 hk (ck (ha pos pins s σ H _ I h) fun us s1 ⟨vs,H1,I1,r,q⟩=>⟨I1.kh,?_⟩) he lL;exact uw F hr hb hd hx I1 r q
theorem DF(he:PE X o ta)(c:kL X.K C)(hm:Meth X.K C m f)(F:aW X.prog X.w X.K X.mg X.base CX k f fd ps sp)(hr:cB k X.A)(hb:Binds X.K fd ps ds)(hd:Vals aI ds)(hx:Passes CX X E)(ha:PA X (e::es) t)(nH:starEach (e::es) X.env=(false,eval e X.env)::starEach es X.env:=by rfl)(lL:(backTo pos (starEach es X.env)).any (·.1)=false:=by rfl)(ht:eval (.Call (.Attribute o m apos) (e::es) [] pos) X.env=(do
   let ov <- eval o X.env
   standAt apos.atName
   let (f,first) <- holding [ov] (getMethod ov m pl)
   callWith pos f first (backTo pos (starEach (e::es) X.env)) (backToKw pos (keywordEach [] X.env))):=by rfl) :
  PE X (.Call (.Attribute o m apos) (e::es) [] pos) (rF C m sp aI E ta t):=by
 intro pins s σ H Q I h;refine PySem.W.methodCall_KW (pl:=pl) (ck (he pins s σ H _ I h) fun u s1 ⟨x,H1,I1,rx,a,dx,fs,ex,ea,l,q⟩=>?_) ht;subst ex;obtain rfl:u=Value.ref a:=rx;refine lI I1 ea c hm l ?_;refine acO (first:=[.ref a]) (h₀:=X.base) I.ok.mod.K1 hm.kp (ck (ha pos pins s1 σ H1 _ I1 q) fun us s2 ⟨vs,H2,I2,r,q2⟩=>⟨I2.kh,?_⟩) nH lL;exact uw (us:=.ref a::us) (vs:=.ref a::vs) F hr hb hd hx I2 (.cons rfl r) q2
theorem Aj(he:PE X o ta)(c:kL X.K C)(hm:Meth X.K C m f)(F:aW X.prog X.w X.K X.mg X.base CX k f fd ps sp)(hr:cB k X.A)(hb:Binds X.K fd ps ds)(hd:Vals aI ds)(hx:Passes CX X E)(ht:eval (.Call (.Attribute o m apos) [] [] pos) X.env=(do
   let ov <- eval o X.env
   standAt apos.atName
   let (f,first) <- holding [ov] (getMethod ov m pl)
   callWith pos f first (backTo pos (starEach [] X.env)) (backToKw pos (keywordEach [] X.env))):=by rfl) :
  PE X (.Call (.Attribute o m apos) [] [] pos) (rF C m sp aI E ta o6):=by
 intro pins s σ H Q I h;refine PySem.W.methodCall_KW (pl:=pl) (ck (he pins s σ H _ I h) fun u s1 ⟨x,H1,I1,rx,a,dx,fs,ex,ea,l,q⟩=>?_) ht;subst ex;obtain rfl:u=Value.ref a:=rx;refine lI I1 ea c hm l ?_;exact PySem.W.callWith_K0 (first:=[.ref a]) I1.kh hm.kp (uw (us:=[.ref a]) (vs:=[.ref a]) F hr hb hd hx I1 (.cons rfl .nil) q)
structure Mk(K:zn)(C f:Addr):Prop where
 makes:PySem.W.makesIn K C=true
 init:PySem.W.findIn K (.ref C) "__init__"=some (some (.ref f))
 fn:PySem.W.isFn K (.ref f)=true
 kp:PySem.W.keepIn K (.ref C)=true
theorem Ak{Q:VK}(M:Mk X.K C f)(F:aW X.prog X.w X.K X.mg X.base CX k f fd ps sp)(hr:cB (k+1) X.A)(hb:Binds X.K fd ps ds)(hd:Vals aI ds)(hx:Passes CX X E)(I:Inv X pins σ H s)(r:Vals vs us)(h:∀ x dx,H x=none->H dx=none->dx≠x->sp (.ref x::(vs++aI)) (upd (upd H dx (.own x)) x (.ins C dx [])) (fun v H2=>v=.cD/\Q (.ref x) H2) E) :
  wpAny (model X.prog X.w) X.A (call (.ref C) us) (EP X pins σ Q) X.xe s:=by
 have hq:=h (s.heap.objs.size+1) s.heap.objs.size (I.bN.fresh (abk _)) (I.bN.fresh (aae _)) (aaD (abv _));have I2:=Inv.made (C:=C) I;have r2:Vals (V.ref (s.heap.objs.size+1)::(vs++aI)) (Value.ref (s.heap.objs.size+1)::(us++ds)):=.cons rfl (r.append hd);have hl:(Value.ref (s.heap.objs.size+1)::us++ds).length=ps.length:=by
  have e:=r2.length;rw[F.len _ _ _ _ hq]at e;exact e.symm
 refine wpAny_call (Af (f:=f) I.kh M.makes M.init (abT.mp M.fn) (ab0 (F.run _ X.stack _ _ ⟨Value.ref (s.heap.objs.size+1)::us,[]⟩ (Value.ref (s.heap.objs.size+1)::(us++ds)) _ _ E (hr.make C us [])
  (I2.LP.make C us []) (hb _ (Value.ref (s.heap.objs.size+1)::us) I2.kh hl) r2 hq) fun r s' LQ=>?_))
 cases r with
 | error e=>exact hx pins σ _ _ e s' I2 LQ
 | ok fl =>
  cases fl with
  | ret u =>
   obtain⟨v,H',I3,rv,ev,q3⟩:=I2.after LQ;subst ev;exact⟨rv,⟨V.ref (s.heap.objs.size+1),H',I3,rfl,q3⟩⟩
  | next=>exact False.elim LQ
  | brk=>exact False.elim LQ
  | cont=>exact False.elim LQ
theorem DG(M:Mk X.K C f)(F:aW X.prog X.w X.K X.mg X.base CX k f fd ps sp)(hr:cB (k+1) X.A)(hg:Gl X x)(hm:X.mg x=some (.ref C))(hb:Binds X.K fd ps ds)(hd:Vals aI ds)(hx:Passes CX X E)(ha:PA X (e::es) t)(rG:(x == ("__debug__":Str))=false:=by decide)(he:starEach (e::es) X.env=(false,eval e X.env)::starEach es X.env:=by rfl)(lL:(backTo pos (starEach es X.env)).any (·.1)=false:=by rfl) :
  PE X (.Call (.Name x p) (e::es) [] pos) (Ai C sp aI E t):=by
 intro pins s σ H Q I h;refine abB (kZ I hg hm ?_ rG);refine acO (h₀:=X.base) I.ok.mod.K1 M.kp (ck (ha pos pins s σ H _ I h) fun us s1 ⟨vs,H1,I1,r,q⟩=>⟨I1.kh,?_⟩) he lL;exact Ak M F hr hb hd hx I1 r q
end
section
variable {f:Addr}{ks:ww}{sp:Sp}{E:XK}{m:Str}{apos VS:Pos}{e:Expr}{kws:List Keyword}{t tk:TA}{nm:Option Str}
variable {g:wf->wf->wf}{gV:List V->List V->List V}
end
structure ay(N P:ww)(sc:Scope):Prop where
 kind:sc.kind=.function
 co:sc.isCoroutine=false
 gen:sc.isGenerator=false
 nd:N.Nodup
 pre:N.take P.length=P
 par:∀ x∈P,sc.names.lookup x=some .local\/sc.names.lookup x=some .cell
 Iq:∀ y∈sc.names,y.2≠.free
theorem nW{kindOf:Str->Option NameKind}{x:Str}:∀{binds:List (Str×Value)} {m:xL},(∀ v,(x,v) ∉ binds)->bindL kindOf binds m x=m x
 | [],_,_=>rfl
 | (n,v)::r,m,h=>by
  unfold bindL;rw[nW fun w hw=>h w (aan _ hw)];split
  ·have:x≠n:=by rintro rfl;exact h v aaw
   simp[this]
  ·rfl
theorem nX{kindOf:Str->Option NameKind}{x:Str}:∀{binds:List (Str×Value)} {m:xL},(∀ v,(x,v) ∉ binds)->bindC kindOf binds m x=m x
 | [],_,_=>rfl
 | (n,v)::r,m,h=>by
  unfold bindC;rw[nX fun w hw=>h w (aan _ hw)];split
  ·rfl
  ·have:x≠n:=by rintro rfl;exact h v aaw
   simp[this]
theorem nY{kindOf:Str->Option NameKind}{x:Str}{v:Value}:∀{P:ww} {vs:wf} {i:Nat} {m:xL},P.Nodup->P[i]?=some x->vs[i]?=some v->kindOf x=some .local ->
  bindL kindOf (P.zip vs) m x=some v
 | [],_,_,_,_,h,_,_=>by simp at h
 | _::_,[],_,_,_,_,h,_=>by simp at h
 | p::P,w::vs,0,m,nd,h1,h2,hk=>by
  simp at h1 h2;subst h1;subst h2;show bindL kindOf ((p,w)::P.zip vs) m p=_;unfold bindL;rw[nW fun v hv=>(ab1.mp nd).1 (ac9 hv).1,aau hk];simp
 | p::P,w::vs,i+1,m,nd,h1,h2,hk=>by
  show bindL kindOf ((p,w)::P.zip vs) m x=_;unfold bindL;exact nY (i:=i) (ab1.mp nd).2 (by simpa using h1) (by simpa using h2) hk
theorem nZ{kindOf:Str->Option NameKind}{x:Str}{v:Value}:∀{P:ww} {vs:wf} {i:Nat} {m:xL},P.Nodup->P[i]?=some x->vs[i]?=some v->kindOf x≠some .local ->
  bindC kindOf (P.zip vs) m x=some v
 | [],_,_,_,_,h,_,_=>by simp at h
 | _::_,[],_,_,_,_,h,_=>by simp at h
 | p::P,w::vs,0,m,nd,h1,h2,hk=>by
  simp at h1 h2;subst h1;subst h2;show bindC kindOf ((p,w)::P.zip vs) m p=_;unfold bindC;rw[nX fun v hv=>(ab1.mp nd).1 (ac9 hv).1,aao hk];simp
 | p::P,w::vs,i+1,m,nd,h1,h2,hk=>by
  show bindC kindOf ((p,w)::P.zip vs) m x=_;unfold bindC;exact nZ (i:=i) (ab1.mp nd).2 (by simpa using h1) (by simpa using h2) hk
def start(N:ww)(vs:List V):St:=vs.map some++List.replicate (N.length - vs.length) none
def fj(CX:yb)(P:tz)(w:World)(K:zn)(mg:xL)(base:Heap)(N:ww)(qual:Str)(scope:Scope)(f:Addr)(cd:Value)(A:t0)(outer:List Env)(s:Shared)(H:Hp)(E:XK):Cx where
 prog:=P
 w:=w
 K:=K
 mg:=mg
 base:=base
 A:=A.deeper (envOfC qual scope s.heap.objs.size f cd)
 N:=N
 aT:=s
 bj:=H
 env:=envOfC qual scope s.heap.objs.size f cd
 outer:=outer
 stack:=envOfC qual scope s.heap.objs.size f cd::outer
 ex:=[]
 calm:=true
 fn:=fun _=>true
 pn:=[]
 xe:=fun e s'=>wpAny (model P w) (A.deeper (envOfC qual scope s.heap.objs.size f cd)) (leaving (envOfC qual scope s.heap.objs.size f cd) e) (fun _ K6=>CX outer H s E e K6) (fun e' K6=>CX outer H s E e' K6) s'
theorem rH{sc:Scope}{n:Nat}(h:sc.names.lookup x=some .cell):∃ c,(cellsFrom n sc.names []).lookup x=some c:=by
 have q:=PySem.W.cellsFrom_some sc.names n [] (.inl h);exact aa9.mp q
theorem yc{K:zn}{qual:Str}{scope:Scope}{f:Addr}{cd:Value}{outer:List Env}{s1:Shared}{E:XK}(S:ay N ps scope)(hd:A.handled=none)(e0:uv P w K mg base A outer s H)(hl:vs.length=ps.length)(r:Vals vs us)(x:InCallC s s.heap.objs.size (bindL (envOfC qual scope s.heap.objs.size f cd).kindOf (ps.zip us) fun _=>none) (cellsFrom (s.heap.objs.size+1) scope.names []) (bindC (envOfC qual scope s.heap.objs.size f cd).kindOf (ps.zip us) fun _=>none) s1) :
  Inv (fj CX P w K mg base N qual scope f cd A outer s H E) [] (start N vs) H s1:=by
 have lL:ps.length<=N.length:=by have:=abz List.length S.pre;rw[abf]at this;omega
 obtain⟨h1,tk,rfl,hk⟩:=x.done;have LR:∀ b:Addr,b ∉ (fj CX P w K mg base N qual scope f cd A outer s H E).ex:=fun b z=>absurd (show b∈([]:wE) from z) (by simp);refine⟨⟨e0.mod,S.kind,rfl,rfl,aae _,fun y z c h1 h2=>?_,fun y hy=>?_,fun y c _ h=>?_,fun _=>hd,Around.frames_deeper e0.frames,.inr ⟨rfl,rfl⟩,fun b z=>absurd z (LR b),e0.bs,e0.FT,fun b _ _=>LR b,fun b z=>absurd z (LR b),e0.kK,e0.CW⟩,
  rfl,e0.bare,Un.kept hk,⟨_,x.toInCall.ns,fun i y v h1 h2 h3=>?_⟩,fun y c h=>⟨_,x.cell y c h⟩,e0.bN.fresh (aae _),fun y c h=>?_,fun p hp=>absurd (show p∈([]:yp) from hp) (by simp),e0.bN.kept hk,?_⟩
 ·exact name_of_addr x.apart (abQ h1) (abQ h2)
 ·have hy:scope.names.lookup y=some .cell\/scope.names.lookup y=some .free:=hy;rcases hy with hy | hy
  ·exact rH hy
  ·exact absurd rfl (S.Iq _ (abQ hy))
 ·exact aaL (x.above y c (abQ h))
 ·have hi:i < vs.length:=by
   unfold start at h2
   by_cases hi:i < vs.length
   ·exact hi
   ·rw[abh (by simpa using hi)]at h2;rw[List.getElem?_replicate]at h2;split at h2<;>cases h2
  have ha:vs[i]?=some v:=by
   unfold start at h2;rw[acb (by simpa using hi),aag]at h2;cases e:vs[i]? with
   | none=>rw[e]at h2;cases h2
   | some a=>rw[e]at h2;cases h2;rfl
  obtain⟨u,hu,rv⟩:=r.get ha;have hp:ps[i]?=some y:=by
   rw[<- S.pre,List.getElem?_take_of_lt (by omega)];exact h1
  have TV:ps.Nodup:=by rw[<- S.pre];exact S.nd.sublist (List.take_sublist _ _)
  refine⟨u,rv,?_⟩;rcases S.par y (abe hp)with k | k
  ·exact .inl ⟨k,nY TV hp hu k⟩
  ·obtain⟨c,e⟩:=rH (n:=s.heap.objs.size+1) k;refine .inr ⟨.inl k,c,e,?_⟩;have q:=x.cell y c e;rw[nZ TV hp hu (by show scope.names.lookup y≠_;rw[k];decide)]at q;exact q
 ·exact e0.bN.fresh (aaL (x.above y c (abQ h)))
 ·unfold start;show _=N.length;rw[aaB,aab,List.length_replicate];omega
theorem Gd{K:zn}{f:Addr}{name qual:Str}{params:Arguments}{scope:Scope}{dV kV doc pm bq ct oc:Value}{an od:wT}{ux:Array wS}{sp:Sp}(lk:K.lookup f=some ⟨oc,od,.func (PySem.W.fnOf name qual params body scope dV kV doc pm an bq ct),ux⟩)(xU:PySem.W.codeIn K bq qual=true)(S:ay N ps scope)(len:∀ vs H Q E,sp vs H Q E->vs.length=ps.length)(cY:∀(A:t0) (outer:List Env) (s:Shared) (H:Hp) (vs:List V) (Q:VK) (E:XK),cB k (A.deeper (envOfC qual scope s.heap.objs.size f bq))->sp vs H Q E ->
   ∃ t,v7 (fj CX P w K mg base N qual scope f bq A outer s H E) body t/\t { nx:=fun _ H'=>Q .cD H',rt:=Q } (start N vs) H) :
  aW P w K mg base CX (k+1) f (PySem.W.fnOf name qual params body scope dV kV doc pm an bq ct) ps sp:=by
 refine⟨len,fun A outer s H args us vs Q E hr e0 hb r wz=>?_⟩;have hl:=len _ _ _ _ wz;have KX:K.In s.heap:=e0.mod.K1.keeps fun b o e=>(e0.bs b o e).1;have lim:s.heap.NoLimit:=e0.mod.nolimit.keeps fun b o e=>(e0.bs b o e).1;have LU:∀ y∈ps.zip us,scope.names.lookup y.1=some .local\/(scope.names.lookup y.1=some .cell/\((cellsFrom (s.heap.objs.size+1) scope.names []).lookup y.1).isSome=true):=fun⟨n,v⟩ hy=>by
  rcases S.par n (ac9 hy).1 with q | q
  ·exact .inl q
  ·exact .inr ⟨q,PySem.W.cellsFrom_some _ _ _ (.inl q)⟩
 refine codeAny_call_function hr.depth (KX _ _ lk) rfl S.co S.gen rfl (PySem.W.codeRec_of KX xU) (hb _ _ _ _ ?_);refine wpAny_newFunctionEnv_cells S.kind LU fun env he s1 x=>?_;subst he;refine⟨lim.keeps x.toInCall.keep,codeAny_func ?_⟩;obtain⟨t,ht,hq⟩:=cY A outer s H vs Q E (hr.deeper _) wz;have I:Inv (fj CX P w K mg base N qual scope f bq A outer s H E) [] (start N vs) H s1:=yc S hr.hd e0 hl r x;refine abd (ht [] s1 (start N vs) H _ I hq) (fun fl s' hs=>?_) fun e s' hs=>hs;have fin:∀{bp:St} {H':Hp} {v:V} {u:Value},Inv (fj CX P w K mg base N qual scope f bq A outer s H E) [] bp H' s'->RelV v u->Q v H'->CE outer P w H s Q u s' :=
  fun{bp H' v u} J rv q=>⟨v,H',J.os,J.bare,J.base,J.bN,rv,q⟩
 cases fl with
 | ret u =>
  obtain⟨v,bp,H',J,rv,q⟩:=hs;exact fin J rv q
 | next =>
  obtain⟨bp,H',J,q⟩:=hs;exact fin (v:=V.cD) (u:=Value.none) J rfl q
 | brk =>
  obtain⟨_,_,_,q⟩:=hs;exact False.elim q
 | cont =>
  obtain⟨_,_,_,q⟩:=hs;exact False.elim q
section
variable {e:Expr}{t:TA}{id T:String}{r:List V->Hp->VK->Prop}
def Ir(r:List V->Hp->VK->Prop)(t:TA):TE:=fun σ H Q=>t σ H fun vs H1=>r vs H1 Q
theorem rJ(hc:eE X (.builtin id) r)(hg:Gl X x)(hm:X.mg x=none)(hv:bootBuiltins x=some (.builtin id))(ha:PA X (e::es) t)(hn:x ≠ "__name__":=by decide)(rG:(x == ("__debug__":Str))=false:=by decide)(he:starEach (e::es) X.env=(false,eval e X.env)::starEach es X.env:=by rfl)(lL:(backTo pos (starEach es X.env)).any (·.1)=false:=by rfl):PE X (.Call (.Name x p) (e::es) [] pos) (Ir r t):=by
 intro pins s σ H Q I h;refine abB (iY I hg hm hv ?_ hn rG);exact acv (ck (ha pos pins s σ H _ I h) fun us s1 ⟨vs,H1,I1,r1,q1⟩=>hc pins s1 σ H1 vs us Q I1 r1 q1) he lL
theorem yd(hc:eE X (.type T) r)(hg:Gl X x)(hm:X.mg x=none)(hv:bootBuiltins x=some (.type T))(ha:PA X (e::es) t)(hn:x ≠ "__name__":=by decide)(rG:(x == ("__debug__":Str))=false:=by decide)(he:starEach (e::es) X.env=(false,eval e X.env)::starEach es X.env:=by rfl)(lL:(backTo pos (starEach es X.env)).any (·.1)=false:=by rfl):PE X (.Call (.Name x p) (e::es) [] pos) (Ir r t):=by
 intro pins s σ H Q I h;refine abB (iY I hg hm hv ?_ hn rG);exact abt (ck (ha pos pins s σ H _ I h) fun us s1 ⟨vs,H1,I1,r1,q1⟩=>hc pins s1 σ H1 vs us Q I1 r1 q1) he lL
end
section
variable {κ:Type}[DecidableEq κ]
def lM(bC:List (κ×V))(k:κ):Option V:=(bC.find? fun kv=>decide (kv.1=k)).map (·.2)
theorem rK{p:κ×V}{r:List (κ×V)}{k:κ}(e:p.1=k):lM (p::r) k=some p.2:=by simp[lM,ab2,e]
theorem lN{p:κ×V}{r:List (κ×V)}{k:κ}(e:¬ p.1=k):lM (p::r) k=lM r k:=by simp[lM,ab2,e]
theorem KV.val{bC:List (κ×V)}{vs:List (κ×Value)}(r:KV bC vs)(k:κ):kJ (lM bC k) (valueAt vs k):=by
 unfold KV at r;induction r with
 | nil=>exact True.intro
 | @cons p q ps qs h t ih =>
  obtain⟨h1,h2⟩:=h
  by_cases e:p.1=k
  ·have e':q.1=k:=h1.symm.trans e;have b:valueAt (q::qs) k=some q.2:=by simp[valueAt,ab2,e']
   rw[rK e,b];exact h2
  ·have e':¬ q.1=k:=fun z=>e (h1.trans z);have b:valueAt (q::qs) k=valueAt qs k:=by simp[valueAt,ab2,e']
   rw[lN e,b];exact ih
theorem KV.keys{bC:List (κ×V)}{vs:List (κ×Value)}(r:KV bC vs):bC.map (·.1)=vs.map (·.1):=by
 unfold KV at r;induction r with
 | nil=>rfl
 | cons h t ih=>rw[aaQ,aaQ,ih,h.1]
end
theorem LV{k:Key}(r:RelV (kV k) u):(fh P w).is k u=true:=by
 cases k with
 | inl i=>obtain⟨t,e⟩:=(show ∃ t,u=Value.int i t from r);subst e;exact rm P w i t
 | inr x=>obtain⟨t,e⟩:=(show ∃ t,u=Value.str x t from r);subst e;exact rp P w x t
def DH(i:Expr):Prop:=∀ ov iv,subscripted i false ov iv=operate [ov,iv] (getItem ov iv)
theorem DI{env:Env}{value slice:Expr}{T id:String}(hl:typeLookup (.type T) "__getitem__"=pure (some (.builtin id)))(hs:DH slice)(h:wpAny (model prog w) A (eval value env) (fun o bo=>wpAny (model prog w) A (eval slice env) (fun i bb=>bb.TypeIs o T/\wpAny (model prog w) A (getItem o i) Q E bb) E bo) E s) :
  wpAny (model prog w) A (eval (.Subscript value slice pos) env) Q E s:=by
 refine Subscript_ (abd h (fun o bo eF=>abd eF (fun i bb gC=>?_) fun _ _ x=>x) fun _ _ x=>x);obtain⟨hT,gC⟩:=gC;unfold subscriptTail;refine aaa ?_;rw[getitemInPython_of_ne hT.not_modules];refine aaa (wpAny_specialOf hT hl ?_);have fin:wpAny (model prog w) A (subscripted slice false o i) (fun r s₃=>wpAny (model prog w) A (letTemporaryGo value o r >>= fun _=>pure r) Q E s₃) E bb:=by
  rw[hs o i];exact wpAny_operating (abd gC (fun r s₃ lO=>aaa (wpAny_letTemporaryGo (aad lO))) fun _ _ x=>x)
 first
  | exact aad (aaa fin)
  | exact aaa (aad (aaa fin))
  | exact aaa fin
end L2
namespace HT
open PySem PyProof.Rows
section
open PySem.SeqAt
open PySem.AutoSeq1 (wpAny_loadPart')
open PySem.MeetsSeq PySem.MeetsSeq2 PySem.MeetsSeq3
end
section
variable {prog:tz}{w:World}{A:t0}{E:xz}{s:Shared}
theorem DJ{t b:Addr}{vs ws:wf}{Q:xz}(ht:IsTup s.heap t vs.toArray)(hb:IsTup s.heap b ws.toArray)(hv:vs≠[])(h1:ws=[]->Q (.ref t) s)(h2:ws≠[]->Q (.ref s.heap.objs.size) { s with heap:=s.heap.push { cls:=.type "tuple",data:=.seq (vs++ws).toArray } })(wx:vs.length+ws.length<=sizeLine):wpAny (model prog w) A (binaryOp .Add (.ref t) (.ref b)) Q E s:=by
 obtain⟨⟨cls,dd,data,sl⟩,ho,hc,n,hd⟩:=id ht;obtain⟨⟨Qm,O6,data2,O7⟩,jh,zt,n2,hd2⟩:=id hb;simp only at hc hd zt hd2;subst hc hd zt hd2;have e:vs.toArray++ws.toArray=(vs++ws).toArray:=by simp
 by_cases hw:ws=[]
 ·exact concat_meets ⟨_,ho,rfl⟩ ⟨_,jh,rfl⟩ noFill_tuple_add seq_tuple_add acp ack (ach _ _)
   (tuple_addW1 t b vs.toArray ws.toArray n n2 dd O6 sl O7 (by simpa using hv) (by simp[hw])) ⟨ho,jh,h1 hw⟩
 ·refine concat_meets ⟨_,ho,rfl⟩ ⟨_,jh,rfl⟩ noFill_tuple_add seq_tuple_add acp ack (ach _ _)
   (tuple_addW2 t b vs.toArray ws.toArray n n2 dd O6 sl O7 (by simpa using hv) (by simpa using hw) (by rw[aap,aap];exact wx)) ⟨ho,jh,?_⟩
  rw[e];exact h2 hw
def dj(n d:Nat):ul->Nat
 | none=>d
 | some v=>if v < 0 then(v+(n:Int)).toNat else min v.toNat n
theorem lQ(n d:Nat):dj n d none=d:=rfl
theorem lh(n d k:Nat):dj n d (some (k:Int))=min k n:=by
 show(if(k:Int) < 0 then((k:Int)+(n:Int)).toNat else min (k:Int).toNat n)=min k n;rw[aao (by omega),aay]
theorem Iu(n d:Nat)(hd:d<=n)(o:ul):dj n d o<=n:=by
 cases o with
 | none=>exact hd
 | some v =>
  show(if v < 0 then(v+(n:Int)).toNat else min v.toNat n)<=n
  by_cases hv:v < 0
  ·rw[aau hv];omega
  ·rw[aao hv];exact ac3 _ _
theorem wA(v:Int)(n d:Nat):(if v < 0 then max (v+(n:Int)) 0 else min v (n:Int))=((dj n d (some v):Nat):Int):=by
 show(if v < 0 then max (v+(n:Int)) 0 else min v (n:Int))=(((if v < 0 then(v+(n:Int)).toNat else min v.toNat n):Nat):Int)
 by_cases hv:v < 0
 ·simp only[aau hv];omega
 ·simp only[aao hv];omega
theorem uy(lo hi:ul)(n:Nat):Builtin.Slice.sliceAdjust lo hi 1 (n:Int)=(((dj n 0 lo:Nat):Int),((dj n n hi:Nat):Int)):=by
 have h1:¬ ((1:Int) < 0):=by omega
 unfold Builtin.Slice.sliceAdjust;simp only[h1,adh];refine Prod.ext ?_ ?_
 ·cases lo with
  | none=>rfl
  | some v=>exact wA v n 0
 ·cases hi with
  | none=>rfl
  | some v=>exact wA v n n
theorem uz(i j:Nat):Builtin.Slice.slicePlaces (i:Int) (j:Int) 1=j - i:=by
 unfold Builtin.Slice.slicePlaces;have h1:(1:Int) > 0:=by omega
 simp only[h1,acq,Int.ediv_one];split<;>omega
theorem lR{v:Value}{o:ul}{Q:ul->Shared->Prop}(p:IsPart v o)(h:Q o s):wpAny (model prog w) A (Builtin.Slice.slicePartIndex v) Q E s:=by
 cases p with
 | none=>exact slicePart_none h
 | int i t=>exact slicePart_int h
theorem jM{sl:Addr}{vl vu:Value}{lo hi:ul}{n:Nat}{Q:Int×Int×Nat->Shared->Prop}(hs:s.heap.IsSliceOf sl vl vu .none)(pl:IsPart vl lo)(pu:IsPart vu hi)(h:Q (((dj n 0 lo:Nat):Int),1,dj n n hi - dj n 0 lo) s):wpAny (model prog w) A (Builtin.Slice.sliceApplied (.ref sl) (pure (n:Int))) Q E s:=by
 obtain⟨os,LW,TX,O8⟩:=id hs;unfold Builtin.Slice.sliceApplied Builtin.Slice.sliceFields;refine aaa (aaa (abb LW O8 (x:=vl) rfl (aaa (abb LW O8 (x:=vu) rfl (aaa (abb LW O8 (x:=.none) rfl (aad ?_)))))));refine aaa (slicePart_none ?_);show wpAny _ _ (if((1:Int) == 0)=true then _ else _) _ _ s;rw[aao (by decide)];refine aaa (lR pl (aaa (lR pu (aaa (aad ?_)))));show wpAny _ _ (match Builtin.Slice.sliceAdjust lo hi 1 (n:Int)with | (lo,hi)=>pure (lo,(1:Int),Builtin.Slice.slicePlaces lo hi 1)) _ _ s;rw[uy lo hi n];show wpAny _ _ (pure (((dj n 0 lo:Nat):Int),(1:Int),Builtin.Slice.slicePlaces ((dj n 0 lo:Nat):Int) ((dj n n hi:Nat):Int) 1)) _ _ s;rw[uz];exact aad h
theorem Al(xs:Array Value)(i k:Nat):((List.range k).filterMap fun(m:Nat)=>xs[((i:Int)+(m:Int) * 1).toNat]?).toArray=((xs.toList.drop i).take k).toArray:=by
 have e:(fun(m:Nat)=>xs[((i:Int)+(m:Int) * 1).toNat]?)=fun m=>xs[i+m]?:=by
  funext m;have:((i:Int)+(m:Int) * 1).toNat=i+m:=by omega
  rw[this]
 rw[e];have:=pick_run xs i k;rw[List.filterMap_map]at this;have e2:((fun x=>xs[x]?) ∘ fun x=>i+x)=fun m=>xs[i+m]?:=rfl;rw[e2]at this;rw[this]
theorem ji{t sl:Addr}{items:Array Value}{vl vu:Value}{lo hi:ul}{Q:xz}(ht:IsTup s.heap t items)(hs:s.heap.IsSliceOf sl vl vu .none)(pl:IsPart vl lo)(pu:IsPart vu hi)(hw:¬ (dj items.size 0 lo=0/\dj items.size items.size hi=items.size))(h:Q (.ref s.heap.objs.size) { s with heap:=s.heap.push { cls:=.type "tuple",data:=.seq ((items.toList.drop (dj items.size 0 lo)).take (dj items.size items.size hi - dj items.size 0 lo)).toArray } })(wx:items.size<=sizeLine):wpAny (model prog w) A (getItem (.ref t) (.ref sl)) Q E s:=by
 have wB:sizeOk (.seq ((items.toList.drop (dj items.size 0 lo)).take (dj items.size items.size hi - dj items.size 0 lo)).toArray):=by
  show((items.toList.drop (dj items.size 0 lo)).take (dj items.size items.size hi - dj items.size 0 lo)).toArray.size<=sizeLine;rw[aap,abf,abw,aaA];omega
 have hj:dj items.size items.size hi<=items.size:=Iu _ _ (aae _) hi;obtain⟨os,LW,TX,O8⟩:=id hs;have VT:s.TypeIs (.ref sl) "slice":=⟨os,LW,TX⟩;unfold getItem
 try with_reducible refine aa0 ?_
 first | refine aaa (aad ?_) | skip
 refine aaa (wpAny_sequenceKey ht.typeIs (by decide) ?_);refine aaa (aa1 (name:=Str.ofString "__getitem__") ht.typeIs abM
  (aa6 abM ht.typeIs entry_tuple_getitem ?_ (args_tuple_getitem _ _)))
 show wpAny _ _ (Builtin.Tuple.tupleItemsOf (.ref t) >>= _) _ _ s;refine aaa (tupleItemsOf_ ht ?_);refine aaa (wpAny_typeOf VT ?_);rw[aau (by decide)];refine aaa (jM hs pl pu ?_);have Qn:¬ ((((dj items.size 0 lo:Nat):Int) == 0&&(1:Int) == 1&&(dj items.size items.size hi - dj items.size 0 lo) == items.size)=true):=by
  intro q;rw[aas,aas]at q;have q1:((dj items.size 0 lo:Nat):Int)=0:=eq_of_beq q.1.1;have q2:dj items.size items.size hi - dj items.size 0 lo=items.size:=eq_of_beq q.2;exact hw ⟨by omega,by omega⟩
 show wpAny _ _ (if(((dj items.size 0 lo:Nat):Int) == 0&&(1:Int) == 1&&(dj items.size items.size hi - dj items.size 0 lo) == items.size)=true then _ else _) _ _ s;rw[aao Qn,Al]
 first
  | exact aaa (m:=Builtin.Tuple.tupleExact _) (aaX (aad ⟨_,rfl,aad h⟩) wB)
  | exact aaa (m:=Builtin.Tuple.tupleExact _) (aaX (aaa (aad (aad ⟨_,rfl,aad h⟩))) wB)
  | exact aaa (aaa (m:=Builtin.Tuple.tupleExact _) (aaX (aad (aad ⟨_,rfl,aad h⟩)) wB))
  | exact aaa (aaa (m:=Builtin.Tuple.tupleExact _) (aaX (aad ⟨_,rfl,aad h⟩) wB))
end
end HT
namespace L2
open PySem PySem.Spec PyProof.Rows
variable {X:Cx}{xs:List V}{n:Nat}{α:Type}{pins:yp}{s:Shared}{aL:wf}{A:t0}{v:Value}
abbrev TO:=St->Hp->(Option Int->Hp->Prop)->Prop
def PO(X:Cx)(e:Option Expr)(t:TO):Prop :=
 ∀(pins:yp) (s:Shared) (σ:St) (H:Hp) (Q:ul->Hp->Prop),Inv X pins σ H s->t σ H Q ->
  wpAny (model X.prog X.w) X.A (evalPart e X.env) (fun u s'=>∃ o H',Inv X pins σ H' s'/\IsPart u o/\Q o H') X.xe s
def o7:TO:=fun _ H Q=>Q none H
def Am(t:TE):TO:=fun σ H Q=>t σ H fun x H1=>∃ i,x=.int i/\Q (some i) H1
theorem intsAre_of{ns:wn}:∀{us:wf},Vals (ns.map V.int) us->IntsAre us ns:=by
 induction ns with
 | nil=>intro us r;rw[List.map_nil]at r;cases r;exact .nil
 | cons n ns ih =>
  intro us r;rw[aaQ]at r;cases r with
  | cons r1 r2 =>
   obtain⟨t,e⟩:=r1;subst e;exact .cons n t (ih r2)
section
variable {e:Expr}{te:TE}{lo hi:Option Expr}{tl th:TO}{pos p2:Pos}
theorem DL:PO X none o7:=by
 intro pins s σ H Q I h;rw[evalPart_none];exact aad ⟨none,H,I,.none,h⟩
theorem DM(h:PE X e te):PO X (some e) (Am te):=by
 intro pins s σ H Q I hw;rw[evalPart_some];refine ck (h pins s σ H _ I hw) fun u s1 ⟨x,H1,I1,r1,q1⟩=>?_;obtain⟨i,rfl,q⟩:=q1;obtain⟨t,rfl⟩:=r1;exact⟨some i,H1,I1,.int i t,q⟩
def O9(X:Cx)(r:V->ul->ul->Hp->VK->Prop):Prop :=
 ∀(pins:yp) (s:Shared) (σ:St) (H:Hp) (x:V) (v vl vu:Value) (lo hi:ul) (sl:Addr) (Q:VK),Inv X pins σ H s->RelV x v->s.heap.IsSliceOf sl vl vu .none->IsPart vl lo->IsPart vu hi->r x lo hi H Q ->
  ∃ T id,typeLookup (.type T) "__getitem__"=pure (some (.builtin id))/\s.TypeIs v T/\wpAny (model X.prog X.w) X.A (getItem v (.ref sl)) (EP X pins σ Q) X.xe s
def Qp(r:V->ul->ul->Hp->VK->Prop)(te:TE)(tl th:TO):TE:=fun σ H Q=>te σ H fun x H1=>tl σ H1 fun l H2=>th σ H2 fun u H3=>r x l u H3 Q
theorem An{r:V->ul->ul->Hp->VK->Prop}(hr:O9 X r)(he:PE X e te)(hl:PO X lo tl)(hu:PO X hi th):PE X (.Subscript e (.Slice lo hi none p2) pos) (Qp r te tl th):=by
 intro pins s σ H Q I h;refine Subscript_ (ck (he pins s σ H _ I h) fun v s1 ⟨x,H1,I1,r1,q1⟩=>?_);refine wpAny_Slice (ck (hl pins s1 σ H1 _ I1 q1) fun vl s2 ⟨l,H2,I2,pl,q2⟩=>ck (hu pins s2 σ H2 _ I2 q2) fun vu s3 ⟨u,H3,I3,pu,q3⟩=>?_);rw[evalPart_none];refine aad ?_;have I4:Inv X pins σ H3 { s3 with heap:=s3.heap.push { cls:=.type "slice",data:=.fields #[vl,vu,.none] } }:=I3.kept (t':=s3.toks) fun b ob q=>aac _ q;obtain⟨T,id,hT,ht,hg⟩:=hr pins { s3 with heap:=s3.heap.push { cls:=.type "slice",data:=.fields #[vl,vu,.none] } } σ H3 x v vl vu l u s3.heap.objs.size Q I4 r1 (Heap.IsSliceOf.new ..) pl pu q3;show wpAny (model X.prog X.w) X.A (subscriptTail e (.Slice lo hi none p2) v (.ref s3.heap.objs.size)) (EP X pins σ Q) X.xe { s3 with heap:=s3.heap.push { cls:=.type "slice",data:=.fields #[vl,vu,.none] } };exact tail_any (ops:=[.ref s3.heap.objs.size,v]) ht hT hg (by with_unfolding_all rfl)
def lT(xs:List V)(lo hi:ul):List V:=(xs.drop (HT.dj xs.length 0 lo)).take (HT.dj xs.length xs.length hi - HT.dj xs.length 0 lo)
theorem kl(xs:List V)(lo hi:ul):(lT xs lo hi).length<=xs.length:=by
 unfold lT;rw[abf,abw];omega
def LX(K:zn):V->ul->ul->Hp->VK->Prop:=fun x lo hi H Q=>∃ a xs,x=.ref a/\eY K H a xs /\
 ¬ (HT.dj xs.length 0 lo=0/\HT.dj xs.length xs.length hi=xs.length)/\∀ p,H p=none->Q (.ref p) (upd H p (.tup (lT xs lo hi)))
theorem o8:O9 X (LX X.K):=by
 intro pins s σ H x v vl vu lo hi sl Q I rx hs pl pu h;obtain⟨a,xs,rfl,hx,hw,q⟩:=h;cases rx;obtain⟨aL,r,ht,hz⟩:=I.tuple hx;have hlen:aL.toArray.size=xs.length:=by rw[aap];exact r.length.symm
 refine⟨"tuple",_,abM.lookup,ht.typeIs,?_⟩;refine HT.ji ht hs pl pu (by rw[hlen];exact hw) ?_ (by rw[hlen];exact hz);rw[hlen];refine⟨.ref s.heap.objs.size,_,I.laid (t':=s.toks) (o:=.tup (lT xs lo hi)) (fun b ob q=>aac _ q) (aae _) ?_,rfl,q _ (I.bN.fresh (aae _))⟩;exact⟨aam (kl xs lo hi) hz,_,(r.drop (HT.dj xs.length 0 lo)).take (HT.dj xs.length xs.length hi - HT.dj xs.length 0 lo),IsTup.new _ _⟩
theorem Vals.lj{us:wf}(r:Vals xs us):us=[]↔xs=[]:=by
 cases r with
 | nil=>simp
 | cons _ _=>simp
end
def uA(n:Nat)(i:Int):Option Nat:=if 0<=i then(if i < n then some i.toNat else none)else if -(n:Int)<=i then some (i+n).toNat else none
def gX{α:Type}(xs:List α)(i:Int):Option α:=(uA xs.length i).bind fun j=>xs[j]?
theorem wC{i:Int}{j:Nat}(h:uA n i=some j):seqIndex? i n=some j/\j < n/\-(n:Int)<=i/\i < n:=by
 unfold uA at h
 by_cases h0:0<=i
 ·rw[aau h0]at h
  by_cases h1:i < n
  ·rw[aau h1]at h;have e:i.toNat=j:=aaF h;exact⟨by rw[seqIndex_of h0 h1,e],by omega,by omega,h1⟩
  ·rw[aao h1]at h;cases h
 ·rw[aao h0]at h
  by_cases h1:-(n:Int)<=i
  ·rw[aau h1]at h;have e:(i+n).toNat=j:=aaF h;exact⟨by rw[seqIndex_neg (by omega) h1,e],by omega,h1,by omega⟩
  ·rw[aao h1]at h;cases h
theorem o9{xs:List α}{i:Int}{v:α}(h:gX xs i=some v):∃ j,seqIndex? i xs.length=some j/\xs[j]?=some v/\j < xs.length/\-(xs.length:Int)<=i/\i < xs.length:=by
 unfold gX at h;cases e:uA xs.length i with
 | none=>rw[e]at h;cases h
 | some j =>
  rw[e]at h;obtain⟨h1,h2,h3,h4⟩:=wC e;exact⟨j,h1,h,h2,h3,h4⟩
theorem bB{xs:List α}{j:Nat}{v:α}(h:xs[j]?=some v):gX xs (j:Int)=some v:=by
 have hj:j < xs.length:=(aal.mp h).1;have e:uA xs.length (j:Int)=some j:=by
  unfold uA;rw[aau (by omega),aau (by omega)];simp
 unfold gX;rw[e];exact h
theorem Ao(xs:List α)(v:α):gX (xs++[v]) (-1)=some v:=by
 have hl:(xs++[v]).length=xs.length+1:=by simp
 have e:uA (xs++[v]).length (-1)=some xs.length:=by
  unfold uA;rw[hl,aao (by decide),aau (by omega)];congr 1;omega
 unfold gX;rw[e];show(xs++[v])[xs.length]?=some v;simp
def wD(b:Expr):Prop:=∀ o i,subscripted b false o i=operate [o,i] (getItem o i)
def DN(X:Cx)(r:R2):Prop :=
 ∀(value slice:Expr) (pins:yp) (s:Shared) (σ:St) (H:Hp) (x y:V) (v u:Value) (Q:VK),Inv X pins σ H s->RelV x v->RelV y u->r x y H Q ->
  subscripted slice false v u=operate [v,u] (getItem v u)->wpAny (model X.prog X.w) X.A (subscriptTail value slice v u) (EP X pins σ Q) X.xe s
def TY(X:Cx)(id:String)(r:V->List V->Hp->VK->Prop):Prop :=
 ∀(pins:yp) (s:Shared) (σ:St) (H:Hp) (x:V) (xs:List V) (v:Value) (us:wf) (Q:VK),Inv X pins σ H s->RelV x v->Vals xs us->r x xs H Q ->
  wpAny (model X.prog X.w) X.A (call (.builtin id) (v::us)) (EP X pins σ Q) X.xe s
section
variable {a b:Expr}{ta tb:TE}{pos:Pos}
theorem DN.or{r r':R2}(h:DN X r)(h':DN X r'):DN X (fun x y H Q=>r x y H Q\/r' x y H Q):=by
 intro value slice pins s σ H x y v u Q I rx ry q hs;rcases q with q | q
 ·exact h value slice pins s σ H x y v u Q I rx ry q hs
 ·exact h' value slice pins s σ H x y v u Q I rx ry q hs
theorem LY{r:R2}(hr:DN X r)(ha:PE X a ta)(hb:PE X b tb)(hs:wD b):PE X (.Subscript a b pos) (xZ r ta tb):=by
 intro pins s σ H Q I h;exact Subscript_ (Ia ha hb I h fun v u s2 x y H2 I2 rx ry q=>hr a b pins s2 σ H2 x y v u Q I2 rx ry q (hs _ _))
def LZ(K:zn):R2:=fun x y H Q=>∃ p xs i v,x=.ref p/\y=.int i/\eQ K H p xs/\gX xs i=some v/\Q v H
def L0(K:zn):R2:=fun x y H Q=>∃ p xs i v,x=.ref p/\y=.int i/\eY K H p xs/\gX xs i=some v/\Q v H
def L1:R2:=fun x y H Q=>∃ z i c,x=.str z/\y=.int i/\z.length<=sizeLine/\gX z.cps.toList i=some c/\Q (.str ⟨#[c]⟩) H
theorem DO:DN X (LZ X.K):=by
 intro value slice pins s σ H x y v u Q I rx ry h hs;obtain⟨p,xs,i,z,rfl,rfl,hq,he,q⟩:=h;cases rx;obtain⟨t,rfl⟩:=ry;obtain⟨aL,r,pl,hz⟩:=I.list hq;obtain⟨j,h1,h2,h3,h4,h5⟩:=o9 he;obtain⟨w,ew,DP⟩:=r.get h2;have hl:=r.length;have hn:=lG;have fin:EP X pins σ Q w s:=⟨z,H,I,DP,q⟩
 by_cases h0:0<=i
 ·have hj:i.toNat=j:=by
   rw[seqIndex_of h0 h5]at h1;exact aaF h1
  exact item_listR pl.isList h0 (by omega) (by rw[hj];simpa using ew) fin hs
 ·have hj:(i+(aL.toArray.size:Int)).toNat=j:=by
   rw[seqIndex_neg (by omega) h4]at h1;rw[aap,<- hl];exact aaF h1
  exact subscriptTail_builtinR (x:=w) pl.isList.typeIs slot_list_getitem.lookup
   (wpAny_getItem_list_neg (Q:=fun r s'=>r=w/\EP X pins σ Q r s') pl.isList (by omega) (by rw[aap]<;>omega) (by omega) (by rw[hj];simpa using ew) ⟨rfl,fin⟩) hs
theorem Iw:DN X (L0 X.K):=by
 intro value slice pins s σ H x y v u Q I rx ry h hs;obtain⟨p,xs,i,z,rfl,rfl,hq,he,q⟩:=h;cases rx;obtain⟨t,rfl⟩:=ry;obtain⟨aL,r,pl,hz⟩:=I.tuple hq;obtain⟨j,h1,h2,h3,h4,h5⟩:=o9 he;obtain⟨w,ew,DP⟩:=r.get h2;have hl:=r.length;have hn:=lG;have fin:EP X pins σ Q w s:=⟨z,H,I,DP,q⟩;exact subscriptTail_builtinR (x:=w) pl.typeIs abM.lookup
  (getItem_tuple (j:=j) (Q:=fun r s'=>r=w/\EP X pins σ Q r s') pl (by omega) (by omega) (by rw[aap,<- hl];exact h1) (by simpa using ew) ⟨rfl,fin⟩) hs
theorem Iy:DN X L1:=by
 intro value slice pins s σ H x y v u Q I rx ry h hs;obtain⟨z,i,c,rfl,rfl,hz,he,q⟩:=h;obtain⟨t,rfl⟩:=rx;obtain⟨t',rfl⟩:=ry;obtain⟨j,h1,h2,h3,h4,h5⟩:=o9 he;have hl:z.cps.toList.length=z.length:=by simp[Str.length]
 rw[hl]at h1 h4 h5;have hn:=lG;exact tail_any (typeIs_str s z t) slot_str_getitem.lookup (getItem_str (c:=c) (by
  have e1:decide (i < -(2 ^ 63:Int))=false:=aaq (by omega);have e2:decide (i ≥ 2 ^ 63)=false:=aaq (by omega);rw[e1,e2,Bool.or_false]) (by rw[h1];simpa using h2) ⟨.str ⟨#[c]⟩,H,I.tok _,⟨_,rfl⟩,q⟩) hs
def Pa(K:zn):R2:=fun x y H Q=>LZ K x y H Q\/L0 K x y H Q\/L1 x y H Q
theorem Iz:DN X (Pa X.K):=DO.or (Iw.or Iy)
theorem uB(aL:wf)(n j:Nat)(u:Value):Obj.mapSeq (·.setIfInBounds j u) { cls:=.type "list",data:=.seq aL.toArray n }={ cls:=.type "list",data:=.seq (aL.set j u).toArray n }:=by
 simp[Obj.mapSeq]
theorem Inv.lst{pins:yp}{σ:St}{H:Hp}{s:Shared}{p:Addr}{xs:List V}(I:Inv X pins σ H s)(h:H p=some (.lst xs)) :
  ∃(aL:wf) (n:Nat),Vals xs aL/\s.heap.get? p=some { cls:=.type "list",data:=.seq aL.toArray n }/\xs.length<=sizeLine:=by
 obtain⟨z,aL,n,r,e⟩:=I.bN p _ h;exact⟨aL,n,r,e,z⟩
theorem Inv.IA{σ:St}{H:Hp}{p:Addr}{ys:List V}{its':wf}{n':Nat}{f:Obj->Obj}(I:Inv X pins σ H s)(h:H p=some (.lst xs))(ho:s.heap.get? p=some { cls:=.type "list",data:=.seq aL.toArray n })(hf:f { cls:=.type "list",data:=.seq aL.toArray n }={ cls:=.type "list",data:=.seq its'.toArray n' })(r:Vals ys its')(hz:ys.length<=sizeLine)(t:Nat) :
  Inv X pins σ (upd H p (.lst ys)) { s with heap:=s.heap.update p f,toks:=t }:=by
 have e:(s.heap.update p f).get? p=some { cls:=.type "list",data:=.seq its'.toArray n' }:=by
  rw[aaV f ho (by rw[hf]<;>rfl),hf]
 refine I.write (x:=p) (e:=p) (by rw[h];trivial) (.inl rfl) (fun b u hb q=>(abV _ _ (acj hb)).trans q) ⟨_,e⟩ ?_;exact⟨hz,its',n',r,e⟩
def Ge:V->V->V->Hp->(Hp->Prop)->Prop:=fun o i v H Q=>∃ p xs k j,o=.ref p/\i=.int k/\H p=some (.lst xs)/\uA xs.length k=some j/\Q (upd H p (.lst (xs.set j v)))
theorem set_list:HN X Ge:=by
 intro pins s σ H o i v ov iv u Q I ro ri rv h;obtain⟨p,xs,k,j,rfl,rfl,hp,hj,q⟩:=h;cases ro;obtain⟨t,rfl⟩:=ri;obtain⟨aL,n,r,ho,hz⟩:=I.lst hp;obtain⟨h1,h2,h3,h4⟩:=wC hj;have hl:=r.length;have hn:=lG;have I':Inv X pins σ (upd H p (.lst (xs.set j v))) { s with heap:=s.heap.update p (Obj.mapSeq (·.setIfInBounds j u)) } :=
  I.IA hp ho (uB aL n j u) (r.set rv j) (by rw[acI];exact hz) s.toks
 by_cases h0:0<=k
 ·have hk:k.toNat=j:=by
   rw[seqIndex_of h0 h4]at h1;exact aaF h1
  exact PySem.W.ki_setAt ho h0 (by omega) (by rw[aap,<- hl];exact h4) (by rw[hk];exact⟨_,I',q⟩)
 ·have hk:(k+(aL.toArray.size:Int)).toNat=j:=by
   rw[seqIndex_neg (by omega) h3]at h1;rw[aap,<- hl];exact aaF h1
  exact PySem.W.ki_setBack ho (by omega) (by rw[aap,<- hl];exact h3) (by omega) (by rw[hk];exact⟨_,I',q⟩)
theorem pb(lo hi:ul)(n:Nat):(sliceBounds lo hi none n).1=((HT.dj n 0 lo:Nat):Int)/\(sliceBounds lo hi none n).2.1=((HT.dj n n hi:Nat):Int)/\(sliceBounds lo hi none n).2.2=1:=by
 refine⟨?_,?_,rfl⟩
 ·cases lo with
  | none=>simp[sliceBounds,HT.dj]
  | some i =>
   simp only[sliceBounds,HT.dj,ac4,show(1:Int) > 0 by decide,acq]
   by_cases h:i < 0
   ·simp only[h,acq]<;>omega
   ·simp only[h,adh]<;>omega
 ·cases hi with
  | none=>simp[sliceBounds,HT.dj]
  | some i =>
   simp only[sliceBounds,HT.dj,ac4,show(1:Int) > 0 by decide,acq]
   by_cases h:i < 0
   ·simp only[h,acq]<;>omega
   ·simp only[h,adh]<;>omega
theorem nJ(aL:wf)(lo hi:ul):slicePick aL.toArray lo hi none=((aL.drop (HT.dj aL.length 0 lo)).take (HT.dj aL.length aL.length hi - HT.dj aL.length 0 lo)).toArray:=by
 obtain⟨h1,h2,h3⟩:=pb lo hi aL.toArray.size;unfold slicePick;rw[h1,h2,h3];simp only[sliceRange_one,pick_run,aap]<;>rfl
def L3(K:zn):V->ul->ul->Hp->VK->Prop:=fun x lo hi H Q=>∃ a xs,x=.ref a/\eQ K H a xs/\∀ p,H p=none->Q (.ref p) (upd H p (.lst (lT xs lo hi)))
theorem DQ:O9 X (L3 X.K):=by
 intro pins s σ H x v vl vu lo hi sl Q I rx hs pl pu h;obtain⟨a,xs,rfl,hx,q⟩:=h;cases rx;obtain⟨aL,r,ht,hz⟩:=I.list hx;have hlen:=r.length;refine⟨"list",_,slot_list_getitem.lookup,ht.isList.typeIs,?_⟩;refine wpAny_getItem_list_slice ht.isList hs pl pu .none (by simp) ?_ (by rw[aap]<;>omega);rw[nJ,<- hlen];refine⟨.ref s.heap.objs.size,_,I.laid (t':=s.toks) (o:=.lst (lT xs lo hi)) (fun b ob q=>aac _ q) (aae _) ?_,rfl,q _ (I.bN.fresh (aae _))⟩;exact⟨aam (kl xs lo hi) hz,_,0,(r.drop (HT.dj xs.length 0 lo)).take (HT.dj xs.length xs.length hi - HT.dj xs.length 0 lo),aai _ rfl⟩
def cU:V->Bool
 | .cD=>true
 | .bl _=>true
 | .int _=>true
 | .str _=>true
 | _=>false
def DS:V->V->Bool
 | .cD,.cD=>true
 | .bl a,.bl b=>a == b
 | .bl a,.int b=>(if a then 1 else 0) == b
 | .int a,.bl b=>a == (if b then 1 else 0)
 | .int a,.int b=>a == b
 | .str a,.str b=>a == b
 | _,_=>false
theorem IB{y x:V}{u:Value}(ry:RelV y u)(rx:RelV x v)(fy:cU y=true)(fx:cU x=true):SeqAt.EqAt A s u v (DS y x):=by
 cases y with
 | cD =>
  cases ry;cases x with
  | cD=>cases rx;exact SeqAt.EqAt.same _
  | bl b=>cases rx;exact SeqAt.EqAt.none_bool b
  | int b=>obtain⟨t,rfl⟩:=rx;exact SeqAt.EqAt.none_int b t
  | str b=>obtain⟨t,rfl⟩:=rx;exact SeqAt.EqAt.none_str b t
  | _=>exact absurd (show false=true from fx) aaj
 | bl a =>
  cases ry;cases x with
  | cD=>cases rx;exact SeqAt.EqAt.bool_none a
  | bl b=>cases rx;exact SeqAt.EqAt.bool_bool a b
  | int b=>obtain⟨t,rfl⟩:=rx;exact SeqAt.EqAt.bool_int a b t
  | str b=>obtain⟨t,rfl⟩:=rx;exact SeqAt.EqAt.bool_str a b t
  | _=>exact absurd (show false=true from fx) aaj
 | int a =>
  obtain⟨t',rfl⟩:=ry;cases x with
  | cD=>cases rx;exact SeqAt.EqAt.int_none a t'
  | bl b=>cases rx;exact SeqAt.EqAt.int_bool a t' b
  | int b=>obtain⟨t,rfl⟩:=rx;exact SeqAt.EqAt.int_int a t' b t
  | str b=>obtain⟨t,rfl⟩:=rx;exact SeqAt.EqAt.int_str a t' b t
  | _=>exact absurd (show false=true from fx) aaj
 | str a =>
  obtain⟨t',rfl⟩:=ry;cases x with
  | cD=>cases rx;exact SeqAt.EqAt.str_none a t'
  | bl b=>cases rx;exact SeqAt.EqAt.str_bool a t' b
  | int b=>obtain⟨t,rfl⟩:=rx;exact SeqAt.EqAt.str_int a t' b t
  | str b=>obtain⟨t,rfl⟩:=rx;exact SeqAt.EqAt.str_str a t' b t
  | _=>exact absurd (show false=true from fx) aaj
 | _=>exact absurd (show false=true from fy) aaj
def uC(x:V)(u:Value):Bool:=match u with
 | .none=>DS .cD x
 | .bool b=>DS (.bl b) x
 | .int i _=>DS (.int i) x
 | .str z _=>DS (.str z) x
 | _=>false
theorem Ap{x y:V}{u:Value}(r:RelV y u)(f:cU y=true):uC x u=DS y x:=by
 cases y with
 | cD=>cases r;rfl
 | bl b=>cases r;rfl
 | int i=>obtain⟨t,rfl⟩:=r;rfl
 | str z=>obtain⟨t,rfl⟩:=r;rfl
 | _=>exact absurd (show false=true from f) aaj
theorem jj{x:V}:∀{xs:List V} {us:wf},Vals xs us->xs.all cU=true->us.any (uC x)=xs.any fun y=>DS y x
 | _,_,.nil,_=>rfl
 | y::xs,u::us,.cons r t,f=>by
  rw[aaK,aas]at f;rw[abR,abR,Ap r f.1,jj t f.2]
theorem gZ{A:t0}{s:Shared}{x:V}{v:Value}(rx:RelV x v)(fx:cU x=true):∀{xs:List V} {us:wf},Vals xs us->xs.all cU=true->∀ u∈us,SeqAt.EqAt A s u v (uC x u)
 | _,_,.nil,_=>fun u hu=>by cases hu
 | y::xs,u::us,.cons r t,f=>fun u' hu=>by
  rw[aaK,aas]at f;rcases aaf.mp hu with rfl | hu
  ·rw[Ap r f.1];exact IB r rx f.1 fx
  ·exact gZ rx fx t f.2 u' hu
def Pb(x:V)(xs:List V):Bool:=xs.any fun y=>DS y x
def Qq(K:zn)(neg:Bool):R2:=fun x y H Q=>∃ p xs,y=.ref p/\(eQ K H p xs\/eY K H p xs)/\cU x=true/\xs.all cU=true/\Q (.bl (if neg then !Pb x xs else Pb x xs)) H
theorem ye:gq X (compareOp .In) (Qq X.K false):=by
 intro pins s σ H x y v u Q I rx ry h;obtain⟨p,xs,rfl,hq,fx,fs,q⟩:=h;cases ry;rcases hq with hq | hq
 ·obtain⟨aL,r,pl,hz⟩:=I.list hq;refine SeqAt.in_listAt (uC x) pl.isList (fun w hw=>gZ rx fx r fs w (by simpa using hw)) ⟨.bl _,H,I,rfl,?_⟩;rw[show aL.toArray.any (uC x)=aL.any (uC x) by simp,jj r fs];exact q
 ·obtain⟨aL,r,pl,hz⟩:=I.tuple hq;refine SeqAt.in_tupleAt (uC x) pl (fun w hw=>gZ rx fx r fs w (by simpa using hw)) ⟨.bl _,H,I,rfl,?_⟩;rw[show aL.toArray.any (uC x)=aL.any (uC x) by simp,jj r fs];exact q
theorem pd:gq X (compareOp .NotIn) (Qq X.K true):=by
 intro pins s σ H x y v u Q I rx ry h;obtain⟨p,xs,rfl,hq,fx,fs,q⟩:=h;cases ry;rcases hq with hq | hq
 ·obtain⟨aL,r,pl,hz⟩:=I.list hq;refine SeqAt.notIn_listAt (uC x) pl.isList (fun w hw=>gZ rx fx r fs w (by simpa using hw)) ⟨.bl _,H,I,rfl,?_⟩;rw[show aL.toArray.any (uC x)=aL.any (uC x) by simp,jj r fs];exact q
 ·obtain⟨aL,r,pl,hz⟩:=I.tuple hq;refine SeqAt.notIn_tupleAt (uC x) pl (fun w hw=>gZ rx fx r fs w (by simpa using hw)) ⟨.bl _,H,I,rfl,?_⟩;rw[show aL.toArray.any (uC x)=aL.any (uC x) by simp,jj r fs];exact q
theorem pe:eE X (.builtin "len") (fun xs H Q=>∃ p ys,xs=[.ref p]/\(eQ X.K H p ys\/eY X.K H p ys)/\Q (.int ys.length) H):=by
 intro pins s σ H xs us Q I r h;obtain⟨p,ys,rfl,hq,q⟩:=h;obtain⟨u,rfl,rx⟩:=vals1 r;cases rx;have hn:=lG;rcases hq with hq | hq
 ·obtain⟨aL,r',pl,hz⟩:=I.list hq;have hlen:=r'.length;exact Calls.call_len_list pl.isList (by simp only[aap]<;>omega) ⟨.int ys.length,H,I.tok _,⟨s.toks+1,by rw[aap,hlen]⟩,q⟩
 ·obtain⟨aL,r',pl,hz⟩:=I.tuple hq;have hlen:=r'.length;exact len_tuple pl (by simp only[aap]<;>omega) ⟨.int ys.length,H,I.tok _,⟨s.toks+1,by rw[aap,hlen]⟩,q⟩
theorem pf:eE X (.type "list") (fun xs H Q=>∃ p ys,xs=[.ref p]/\(eQ X.K H p ys\/eY X.K H p ys)/\∀ l,H l=none->Q (.ref l) (upd H l (.lst ys))):=by
 intro pins s σ H xs us Q I r h;obtain⟨p,ys,rfl,hq,q⟩:=h;obtain⟨u,rfl,rx⟩:=vals1 r;cases rx;have fin:∀(aL:wf),Vals ys aL->ys.length<=sizeLine->∀(h':Heap) (c':Nat),(∀ b o',s.heap.get? b=some o'->h'.get? b=some o') ->
   h'.get? s.heap.objs.size=some { cls:=.type "list",dict:=none,data:=.seq aL.toArray c',slots:=#[] }->EP X pins σ Q (.ref s.heap.objs.size) { s with heap:=h' }:=fun aL r' hz h' c' kp e =>
  ⟨.ref s.heap.objs.size,_,I.laid (t':=s.toks) kp (aae _) (show cn X.prog X.w _ h' _ (.lst ys) from ⟨hz,aL,c',r',e⟩),rfl,q _ (I.bN.fresh (aae _))⟩
 rcases hq with hq | hq
 ·obtain⟨aL,r',pl,hz⟩:=I.list hq;have hlen:=r'.length;obtain⟨o,ho,hc,n,hd⟩:=pl.isList;exact call_list_seq p (.inl rfl) ho hc hd (fun h' c' kp e=>fin aL r' hz h' c' kp e) (by simp only[aap]<;>omega)
 ·obtain⟨aL,r',pl,hz⟩:=I.tuple hq;have hlen:=r'.length;obtain⟨o,ho,hc,n,hd⟩:=pl;exact call_list_seq p (.inr rfl) ho hc hd (fun h' c' kp e=>fin aL r' hz h' c' kp e) (by simp only[aap]<;>omega)
theorem nK:eE X (.type "tuple") (fun xs H Q=>∃ p ys,xs=[.ref p]/\((eQ X.K H p ys/\∀ l,H l=none->Q (.ref l) (upd H l (.tup ys)))\/(eY X.K H p ys/\Q (.ref p) H))):=by
 intro pins s σ H xs us Q I r h;obtain⟨p,ys,rfl,h⟩:=h;obtain⟨u,rfl,rx⟩:=vals1 r;cases rx;rcases h with⟨hq,q⟩ | ⟨hq,q⟩
 ·obtain⟨aL,r',pl,hz⟩:=I.list hq;have hlen:=r'.length;refine call_tuple_list pl.isList (fun h' kp=>?_) (by simp only[aap]<;>omega);have I1:Inv X pins σ H { s with heap:=h' }:=I.kept (t':=s.toks) kp;have I2:Inv X pins σ (upd H h'.objs.size (.tup ys)) { s with heap:=h'.push { cls:=.type "tuple",data:=.seq aL.toArray } } :=
   I1.laid (t':=s.toks) (fun b o e=>aac _ e) (aae _) (show cn X.prog X.w _ _ _ (.tup ys) from ⟨hz,aL,r',IsTup.new _ _⟩)
  exact⟨.ref h'.objs.size,_,I2,rfl,q _ (I1.bN.fresh (aae _))⟩
 ·obtain⟨aL,r',pl,hz⟩:=I.tuple hq;exact call_tuple_same pl ⟨.ref p,H,I,rfl,q⟩
def Qr(K:zn)(T:String)(x:V)(H:Hp):Prop:=match x with
 | .str _=>T = "str"
 | .int _=>T = "int"
 | .ref p=>(T = "list"/\∃ xs,eQ K H p xs)\/(T = "tuple"/\∃ o,K.lookup p=some o/\o.cls=.type "tuple"/\o.dict=none) \/
   (T = "dict"/\((∃ bC,H p=some (.dK bC))\/∃ bC,H p=some (.dT bC)))\/(T = "set"/\∃ S n,H p=some (.set S n))
 | _=>False
theorem IC{σ:St}{H:Hp}{T:String}{x:V}(I:Inv X pins σ H s)(r:RelV x v)(ty:Qr X.K T x H) :
  s.TypeIs v T/\∀ a,v=.ref a->∃ ob,s.heap.get? a=some ob/\ob.dict=none:=by
 cases x with
 | str z =>
  obtain⟨t,rfl⟩:=r;cases (show T = "str" from ty);exact⟨typeIs_str s z t,fun _ e=>nomatch e⟩
 | int i =>
  obtain⟨t,rfl⟩:=r;cases (show T = "int" from ty);exact⟨typeIs_int s i t,fun _ e=>nomatch e⟩
 | ref p =>
  cases r;rcases ty with⟨rfl,xs,hq⟩ | ⟨rfl,o,hk,hc,hd⟩ | ⟨rfl,hk⟩ | ⟨rfl,S,n,hk⟩
  ·obtain⟨aL,_,pl,_⟩:=I.list hq;refine⟨pl.isList.typeIs,fun a e=>?_⟩;cases e;obtain⟨o,n,e,c,hd,_⟩:=pl;exact⟨o,e,hd⟩
  ·refine⟨⟨o,I.kh p o hk,hc⟩,fun a e=>?_⟩;cases e;exact⟨o,I.kh _ o hk,hd⟩
  ·have z:∃ o,s.heap.get? p=some o/\o.ExactDict:=by
    rcases hk with⟨bC,hk⟩ | ⟨bC,hk⟩
    ·obtain⟨_,_,_,_,o,_,_,e,ex,_⟩:=I.bN p _ hk;exact⟨o,e,ex⟩
    ·obtain⟨_,_,_,_,o,_,_,e,ex,_⟩:=I.bN p _ hk;exact⟨o,e,ex⟩
   obtain⟨o,e,ex⟩:=z;refine⟨⟨o,e,ex.1⟩,fun a e2=>?_⟩;cases e2;exact⟨o,e,ex.2.1⟩
  ·obtain⟨o,_,_,_,e,ex,_⟩:=I.bN p _ hk;refine⟨⟨o,e,ex.1⟩,fun a e2=>?_⟩;cases e2;exact⟨o,e,ex.2.1⟩
 | _=>exact False.elim ty
def Qt(K:zn)(T:String)(r:V->List V->Hp->VK->Prop)(to:TE)(t:TA):TE:=fun σ H Q=>to σ H fun x H1=>Qr K T x H1/\t σ H1 fun xs H2=>r x xs H2 Q
variable {o e:Expr}{es:ut}{to:TE}{t:TA}{name:Str}{apos eS:Pos}{T id:String}{r:V->List V->Hp->VK->Prop}
theorem L4(pa:PlainAttrs T)(slot:Slot T name id)(Qu:typeOf (.builtin id)=pure (.type "method_descriptor"))(hm:TY X id r)(ho:PE X o to)(ha:PA X (e::es) t)(Aq:attributeBase o name X.env (eval o X.env)=eval o X.env:=by rfl)(ID:((backTo eS (starEach (e::es) X.env)).all (fun x=>!x.1)&&(backToKw eS (keywordEach [] X.env)).all (fun x=>x.1.isSome)
   && decide ((e::es).length+([]:List Keyword).length+(if([]:List Keyword).isEmpty then 0 else 1) < 30))=true:=by rfl)(Ar:(apos.endLine == eS.line)=true:=by rfl)(hs:starEach (e::es) X.env=(false,eval e X.env)::starEach es X.env:=by rfl)(IE:(backTo eS (starEach es X.env)).any (·.1)=false:=by rfl) :
  PE X (.Call (.Attribute o name apos) (e::es) [] eS) (Qt X.K T r to t):=by
 intro pins s σ H Q I h;refine wpAny_Call_method_late Aq ID Ar rfl (ck (ho pins s σ H _ I h) fun v s1 ⟨x,H1,I1,r1,ty,q1⟩=>?_);obtain⟨h1,h2⟩:=IC I1 r1 ty;refine⟨T,id,pa,slot,Qu,h1,h2,?_⟩;have hA:=ha eS pins s1 σ H1 _ I1 q1;rw[hs]at hA ⊢;refine Calls.callWith_builtin (by show(false||(backTo eS (starEach es X.env)).any (·.1))=false;rw[IE]<;>rfl) (Calls.evalArgs_plain ?_);exact ck hA fun us s2 ⟨vs,H2,I2,r2,q2⟩=>hm pins s2 σ H2 x vs v us Q I2 r1 r2 q2
end
def Qv(X:Cx)(id:String)(r:V->List V->Hp->VK->Prop):Prop :=
 ∀(pins:yp) (s:Shared) (σ:St) (H:Hp) (x:V) (xs:List V) (v:Value) (us:wf) (Q:VK),Inv X pins σ H s->RelV x v->Vals xs us->r x xs H Q ->
  wpAny (model X.prog X.w) X.A (call (.builtin id) (v::us)) (EP X pins σ Q) X.xe s
theorem Vals.one:∀{x:V} {us:wf},Vals [x] us->∃ u,us=[u]/\RelV x u
 | _,_,.cons r .nil=>⟨_,rfl,r⟩
theorem Vals.eraseIdx:∀{xs:List V} {us:wf} (i:Nat),Vals xs us->Vals (xs.eraseIdx i) (us.eraseIdx i)
 | _,_,_,.nil=>.nil
 | _,_,0,.cons _ t=>t
 | _,_,i+1,.cons r t=>.cons r (Vals.eraseIdx i t)
theorem Vals.rep{xs:List V}{us:wf}(h:Vals xs us):∀ k:Nat,Vals (List.replicate k xs).flatten (List.replicate k us).flatten
 | 0=>.nil
 | k+1=>by
  rw[abl,abl,abN,abN];exact Vals.append h (Vals.rep h k)
theorem n8{α:Type}:∀(l:List α) (i:Nat),(l.eraseIdx i).length<=l.length
 | [],_=>aae _
 | _::_,0=>abk _
 | _::r,i+1=>Nat.succ_le_succ (n8 r i)
theorem foldl_rep(aL:wf):∀(k:Nat) (acc:wf),
  List.foldl (fun x1 x2=>x1++x2) acc.toArray (List.replicate k aL.toArray)=(acc++(List.replicate k aL).flatten).toArray
 | 0,acc=>by simp
 | k+1,acc=>by
  have e:acc.toArray++aL.toArray=(acc++aL).toArray:=by simp
  have e2:(acc++aL)++(List.replicate k aL).flatten=acc++(List.replicate (k+1) aL).flatten:=by
   rw[abl,abN,abO]
  rw[<- e2,<- foldl_rep aL k (acc++aL),<- e,abl,List.foldl_cons]
section
variable {σ:St}{H:Hp}{l b:Addr}{ys zs:List V}
theorem Inv.L5{its':wf}{f:Array Value->Array Value}{t':Nat}(I:Inv X pins σ H s)(hH:H l=some (.lst xs))(e:s.heap.get? l=some { cls:=.type "list",data:=.seq aL.toArray n })(hf:f aL.toArray=its'.toArray)(hv:Vals ys its')(hz:ys.length<=sizeLine) :
  Inv X pins σ (upd H l (.lst ys)) { s with heap:=s.heap.update l (Obj.mapSeq f),toks:=t' }:=by
 have q:=PySem.IsL.update e f;rw[hf]at q;refine I.write (x:=l) (e:=l) (by rw[hH];exact trivial) (.inl rfl) (fun b' u hb hu=>(abV s.heap (Obj.mapSeq f) (acj hb)).trans hu) ⟨_,q⟩ ?_;exact⟨hz,its',_,hv,q⟩
theorem Inv.Qw{t':Nat}(I:Inv X pins σ H s)(hv:Vals ys aL)(hz:ys.length<=sizeLine) :
  Inv X pins σ (upd H s.heap.objs.size (.lst ys)) { s with heap:=s.heap.push { cls:=.type "list",data:=.seq aL.toArray },toks:=t' } :=
 I.laid (fun _ _ q=>aac _ q) (aae _) ⟨hz,aL,0,hv,aai _ rfl⟩
theorem Inv.fresh(I:Inv X pins σ H s):H s.heap.objs.size=none:=I.bN.fresh (aae _)
theorem Inv.IF(I:Inv X pins σ H s)(hH:H l=some (.lst xs)):xs.length<=sizeLine/\∃(aL:wf) (n:Nat),Vals xs aL/\xs.length=aL.length/\s.heap.get? l=some { cls:=.type "list",data:=.seq aL.toArray n }:=by
 obtain⟨z,aL,n,r,e⟩:=I.bN l _ hH;exact⟨z,aL,n,r,r.length,e⟩
theorem As(h:n<=sizeLine):Builtin.List.listTooLong n=false:=by
 unfold Builtin.List.listTooLong;exact aaq (by omega)
end
def wF:V->List V->Hp->VK->Prop:=fun x vs H Q=>∃ l xs y,x=.ref l/\vs=[y]/\H l=some (.lst xs)/\xs.length < sizeLine/\Q .cD (upd H l (.lst (xs++[y])))
theorem cS:Qv X "list.append" wF:=by
 intro pins s σ H x vs v us Q I rx rv h;obtain⟨l,xs,y,rfl,rfl,hH,hz,q⟩:=h;cases rx;obtain⟨u,rfl,ru⟩:=rv.one;obtain⟨z,aL,n,r,hl,e⟩:=I.IF hH;refine adi aaR ⟨_,e,rfl⟩ F.entry_list_append (F.args_list_append_2 _ _) (PySem.list_append l aL.toArray n u (by rw[aap];omega)) ⟨e,?_⟩;refine⟨.cD,_,I.L5 (its':=aL++[u]) hH e (by simp) (r.append (.cons ru .nil)) ?_,rfl,q⟩;rw[aaB,List.length_singleton];omega
def Au:V->List V->Hp->VK->Prop:=fun x vs H Q=>∃ l xs i k y,x=.ref l/\vs=[.int i]/\H l=some (.lst xs)/\-(2 ^ 63)<=i/\i < 2 ^ 63/\seqIndex? i xs.length=some k/\xs[k]?=some y/\Q y (upd H l (.lst (xs.eraseIdx k)))
theorem Av:Qv X "list.pop" Au:=by
 intro pins s σ H x vs v us Q I rx rv h;obtain⟨l,xs,i,k,y,rfl,rfl,hH,h1,h2,hk,hy,q⟩:=h;cases rx;obtain⟨u,rfl,ru⟩:=rv.one;obtain⟨t,rfl⟩:=ru;obtain⟨z,aL,n,r,hl,e⟩:=I.IF hH;obtain⟨w,hw,DP⟩:=r.get hy;refine adi F.slot_list_pop ⟨_,e,rfl⟩ F.entry_list_pop (F.args_list_pop_2 _ _)
  (MeetsSeq.list_pop_at l aL.toArray n i t k w (fitsIndex_both h1 h2) (by rw[aap,<- hl];exact hk) (by rw[<- abC];exact hw) (by rw[aap];omega)) ⟨e,?_⟩
 refine⟨y,_,I.L5 (its':=aL.eraseIdx k) hH e ?_ (r.eraseIdx k) ?_,DP,q⟩
 ·show aL.toArray.eraseIdxIfInBounds k=(aL.eraseIdx k).toArray;rw[List.eraseIdxIfInBounds_toArray]
 ·have:=n8 xs k;omega
def L6:R2:=fun x y H Q=>∃ l k xs,x=.ref l/\y=.int k/\H l=some (.lst xs)/\-(2 ^ 63)<=k/\k < 2 ^ 63/\xs.length * k.toNat<=sizeLine /\
 ∀ p,H p=none->Q (.ref p) (upd H p (.lst (List.replicate k.toNat xs).flatten))
theorem len_rep(xs:List α)(k:Nat):(List.replicate k xs).flatten.length=k * xs.length:=by
 induction k with
 | zero=>simp
 | succ k ih=>rw[abl,abN,aaB,ih,Nat.succ_mul,Nat.add_comm]
theorem IG:gq X (binaryOp .Mult) L6:=by
 intro pins s σ H x y v u Q I rx ry h;obtain⟨l,k,xs,rfl,rfl,hH,h1,h2,hz,q⟩:=h;cases rx;obtain⟨t,rfl⟩:=ry;obtain⟨z,aL,n,r,hl,e⟩:=I.IF hH;have hlen:aL.toArray.size * k.toNat<=sizeLine:=by rw[aap,<- hl];exact hz
 have Qx:¬ aL.toArray.size * k.toNat > (2 ^ 63 - 1) / 8:=by
  have:(sizeLine:Nat)<=(2 ^ 63 - 1) / 8:=by decide
  omega
 have Qy:¬ (!Builtin.List.listFitsIndex k)=true:=by
  rw[fitsIndex_both h1 h2];exact aaj
 have L7:¬ Builtin.List.listTooLong (aL.toArray.size * k.toNat)=true:=by
  rw[As hlen];exact aaj
 have Qz:List.foldl (fun x1 x2=>x1++x2) #[] (List.replicate (if aL.toArray.isEmpty=true then 0 else k.toNat) aL.toArray)=(List.replicate k.toNat aL).flatten.toArray:=by
  have f0:∀ m:Nat,List.foldl (fun x1 x2=>x1++x2) #[] (List.replicate m aL.toArray)=(List.replicate m aL).flatten.toArray:=fun m=>by
   have:=foldl_rep aL m [];rw[ada]at this;exact this
  rw[f0];cases aL with
  | nil=>simp
  | cons a r'=>rw[aao (by simp)]
 refine wpAny_binaryOp_repeat_ref (T := "list") (U := "int") (by decide) ⟨_,e,rfl⟩ (fun s'=>typeIs_int s' k t) noFill_list_mul F.fills_int_mul F.slot_int_rmul repeat_list F.slot_int_index.lookup
  (adi F.slot_int_rmul (typeIs_int s k t) F.entry_int_rmul (F.args_int_rmul_2 _ _) (int___rmul___int_list k t l aL.toArray n)
   ⟨e,rfl,⟨_,e,rfl⟩,adi F.slot_list_mul ⟨_,e,rfl⟩ F.entry_list_mul (F.args_list_mul_2 _ _) (AutoListH.list___mul___list_int_3 l aL.toArray n k t Qy Qx L7) ⟨e,?_⟩⟩)
 rw[Qz];exact⟨.ref _,_,I.Qw (t':=s.toks) (r.rep k.toNat) (by rw[len_rep,Nat.mul_comm];exact hz),rfl,q _ I.fresh⟩
section
variable {prog:tz}{w:World}{E:xz}
set_option maxRecDepth 100000 in
end
end L2
namespace Att
open PySem PySem.W PySem.Calls PyProof.Rows
theorem kM{P:Params}{h:Heap}:∀(ns:wn) (vs:wf),WellAll P h vs (ns.map WData.int)->IntsAre vs ns:=by
 intro ns;induction ns with
 | nil =>
  intro vs w;rw[List.map_nil]at w;cases w;exact .nil
 | cons n ns ih =>
  intro vs w;rw[aaQ]at w;cases w with
  | cons a b =>
   cases a;exact .cons _ _ (ih _ b)
theorem yf{l:OpenLaw}{n:Nat}(hn:l.most=some n){P:Params}{h:Heap}{args:List WData}{vals:wf}(DT:l.row.toRowW.claim.pre args=true)(QA:WellAll P h vals args) :
  ∃ a vs ns,vals=[Value.ref a]/\args=[WData.list (ns.map WData.int)]/\h.get? a=some { cls:=.type "list",data:=.seq vs.toArray }/\IntsAre vs ns/\ns.length<=n:=by
 have VU:WShape.hasAll [] args [.list .int]=true:=(pre_splitW DT).1;have hc:l.pre.holds [] { args:=args }=true:=(pre_splitW DT).2;obtain⟨d,r,rfl,h1,h2⟩:=hasAllW_cons VU;obtain rfl:=hasAllW_nil h2;obtain⟨xs,rfl,h3⟩:=hasW_list h1;obtain⟨ns,rfl⟩:=items_int h3;have hlen:ns.length<=n:=by
  unfold OpenLaw.pre at hc;have h4:(WTm.not (.lt (.lit (.int (n:Int))) (.len (.arg 0)))).holds [] { args:=[.list (ns.map .int)] }=true:=by
   have h4:=(holds_andW hc).1;rw[hn]at h4;exact h4
  have h5:=condW_of h4 (w_not (w_lt w_lit (w_len_list (w_arg rfl))));rw[aab]at h5;refine Nat.le_of_not_lt fun q=>?_;have q':(n:Int) < ((ns.length:Nat):Int):=by omega
  first
   | (rw[abm q']at h5;exact absurd h5 (by decide))
   | (simp at h5;omega)
 cases QA with
 | cons w1 w2 =>
  cases w2;cases w1 with
  | list ho nL=>exact⟨_,_,ns,rfl,rfl,ho,kM ns _ nL,hlen⟩
theorem yg(l:OpenLaw)(args:List WData):l.row.toRowW.claim.post args (.bool true) args=true :=
 postW_of (r:=l.row.toRowW) (X:=(true == true))
  (show WShape.has [] (.bool true) .bool=true by first | rfl | decide | simp[WShape.has,WShape.arms,WShape.armsAll])
  (show(WTm.eq .res (.lit (.bool true))).value [] { args:=args,res:=some (.bool true),after:=args }=some (.bool (true == true)) from w_eq_bool (w_res rfl) w_lit) rfl
theorem rL{l:OpenLaw}{n:Nat}{q:tz}{loose:ww}{XP:(Str->wS)->Heap->Prop}{YP:World->Heap->Prop}{d:DefRec}(hn:l.most=some n)(L8:d.params.defaults=[])(call:∀(w:World) (aT bo:Shared) (mg mb:xL) (fa:Addr) (o:Obj) (pm cd doc:Value) (a:Addr) (vs:wf) (ns:wn),
   Ground q loose [] XP w aT mg mb bo.heap->YP w bo.heap ->
   bo.heap.get? fa=some o->o.data=.func (docDef d.name d.params d.body d.scope pm cd doc)->bo.heap.CodeRec cd d.name->mg d.name=some (.ref fa) ->
   bo.heap.get? a=some { cls:=.type "list",data:=.seq vs.toArray }->IntsAre vs ns->ns.length<=n->bo.gens=#[] ->
   codeAny (model l.prog w) callerA (.call (.ref fa) ⟨[.ref a],[]⟩) (fun r s'=>r=.ok (.ret (.bool true))/\OldK bo.heap s'.heap/\s'.os=bo.os/\AllBare s'.gens) bo) :
  WalkO q loose XP YP l.row.toRowW d [] (fun f vs=>PySem.call f vs):=by
 intro w aT bo mg mb G Y fa o pm cd doc dV kV ho hd xU hD L9 hg args vals as DT VV hrd QA Pc;obtain rfl:dV=.none:=Dflts.none hD L8;obtain rfl:kV=.none:=Dflts.noKw hD;obtain⟨a,vs,ns,rfl,rfl,IH,hints,hlen⟩:=yf hn DT QA;refine enter_call (ab0 (call w aT bo mg mb fa o pm cd doc a vs ns G Y ho (fd_plain hd) xU L9 IH hints hlen hg) fun r s' hq=>?_);obtain⟨rfl,h2,h3,h4⟩:=hq;exact⟨.inl ⟨.bool true,.bool true,[],rfl,fun _=>rfl,.bool true,yg l _,fun _=>⟨List.Pairwise.nil,fun _ hm=>(nomatch hm)⟩⟩,h2,h3,h4⟩
end Att
namespace L2
open PySem PySem.Spec PyProof.Rows
variable {fd:v6}{x:Str}
theorem oa:∀{vs:wf} {ns:wn},IntsAre vs ns->Vals (ns.map V.int) vs
 | _,_,.nil=>.nil
 | _,_,.cons n t h=>.cons ⟨t,rfl⟩ (oa h)
def II(H:Hp):Prop:=∀ b,H b=none\/∃ o xs,H b=some (.jJ o (.lst xs))
theorem Aw{P:tz}{w:World}{K:zn}{mg mb:xL}{CX:yb}{k:Nat}{fa a:Addr}{sp:Sp}{bo:Shared}{vs:wf}{ns:wn}(KX:K.In bo.heap)(TZ:bo.heap.Ns mainGlobals mg)(hb:bo.heap.Ns builtinsNs mb)(VW:∀ x:Str,x ≠ "__name__"->mb x=bootBuiltins x)(QB:bo.heap.NoLimit)(hg:bo.gens=#[])(ha:bo.heap.get? a=some { cls:=.type "list",data:=.seq vs.toArray })(hi:IntsAre vs ns)(hl:ns.length<=sizeLine)(hr:cB k callerA)(F:∀ base:Heap,K.In base->base.Ns mainGlobals mg->aW P w K mg base CX k fa fd [x] sp)(Ma:∀(s:Shared) (u:Value),BindsTo s fd ⟨[u],[]⟩ [(x,u)])(wz:∀ H:Hp,II H->eQ K H a (ns.map V.int)->sp [.ref a] H (fun v _=>v=.bl true) fun _ _ _=>False)(QC:∀ H e s',CX [] H bo (fun _ _ _=>False) e s'->False) :
  codeAny (model P w) callerA (.call (.ref fa) ⟨[.ref a],[]⟩) (fun r s'=>r=.ok (.ret (.bool true))/\OldK bo.heap s'.heap/\s'.os=bo.os/\AllBare s'.gens) bo:=by
 have rv:=oa hi;have QD:=hi.length
 -- from an abstract heap in T2 nothing but K4 IJ may be tracked
 have core:∀ H:Hp,II H->eQ K H a (ns.map V.int)->dZ P w H bo.heap->(∀ b,H b≠none->b=a)->(H a≠none->K.lookup a=none) ->
   codeAny (model P w) callerA (.call (.ref fa) ⟨[.ref a],[]⟩) (fun r s'=>r=.ok (.ret (.bool true))/\OldK bo.heap s'.heap/\s'.os=bo.os/\AllBare s'.gens) bo:=by
  intro H hO hS bN hA hK;have wG:∀{b:Addr} {o:Obj},bo.heap.get? b=some o->H b=none->(oY bo.heap H).get? b=some o:=fun e n=>zB e n;have LR:∀{b:Addr} {o:Obj} {es:Array DictEntry} {ep:Nat},bo.heap.get? b=some o->o.data=.dict es ep->H b=none:=fun{b o es ep} e d=>by
   cases q:H b with
   | none=>rfl
   | some u =>
    have e':b=a:=hA b (by rw[q];simp);subst e';rw[ha]at e;cases e;have d':Data.seq vs.toArray _=Data.dict es ep:=d;cases d'
  have Pd:∀{b:Addr} {m:xL},bo.heap.Ns b m->(oY bo.heap H).Ns b m:=fun{b m} ⟨o,es,ep,e,d,r⟩=>⟨o,es,ep,wG e (LR e d),d,r⟩;have T3:K.In (oY bo.heap H):=fun b o e=>wG (KX b o e) (by
   cases q:H b with
   | none=>rfl
   | some u =>
    have e':b=a:=hA b (by rw[q];simp);subst e';rw[hK (by rw[q];simp)]at e;cases e)
  have hM:Mod K mg (oY bo.heap H):=⟨T3,Pd TZ,⟨mb,Pd hb,VW⟩,let ⟨mc,h1,h2⟩:=QB;⟨mc,Pd h1,h2⟩⟩;have e0:uv P w K mg (oY bo.heap H) callerA [] bo H:=⟨rfl,hM,fun b o e=>Dm e,abY (xS _ _),trivial,fun b hb=>absurd (show b∈([]:wE) from hb) (by simp),bN,.of_eq hg⟩;refine ab0 ((F _ T3 (Pd TZ)).run callerA [] bo H ⟨[.ref a],[]⟩ [.ref a] [.ref a] _ _ hr e0 (Ma bo (.ref a)) (.cons rfl .nil) (wz H hO hS)) fun r s' h=>?_;cases r with
  | error e=>exact(QC H e s' h).elim
  | ok fl =>
   cases fl with
   | next=>exact False.elim h
   | brk=>exact False.elim h
   | cont=>exact False.elim h
   | ret u =>
    obtain⟨v,H',os,bare,un,QE,r',q⟩:=h;have q':v=.bl true:=q;subst q';obtain rfl:u=Value.bool true:=r';refine⟨rfl,OldK.of_keep fun b o e=>?_,os,bare⟩;cases q:H b with
    | none=>exact un.keep b o e q (by intro z;exact absurd (show b∈([]:wE) from z) (by simp)) (by simp)
    | some u =>
     rcases hO b with z | ⟨ob,xs,z⟩
     ·rw[q]at z;cases z
     ·have z2:=un.nG b ob _ z;obtain⟨e1,_⟩:=bN b _ z;obtain⟨e2,_⟩:=QE b _ z2;rw[e]at e1;cases e1;exact e2
 cases hk:K.lookup a with
 | some o =>
  -- K4 IJ is one of K4 Mb own objects
  have e:=KX a o hk;rw[ha]at e;cases e;refine core (fun _=>none) (fun _=>.inl rfl) (.inr ⟨_,vs.toArray,_,hk,rfl,rfl,rfl,by rw[aap,QD];exact hl,by simpa using rv⟩) (fun b u z=>by have z':(none:Option HO)=some u:=z;cases z') (fun b z=>absurd rfl z) fun z=>absurd rfl z
 | none =>
  refine core (fun b=>if b=a then some (.jJ { cls:=.type "list",data:=.seq vs.toArray } (.lst (ns.map V.int)))else none) (fun b=>?_) (.inl (.inr ⟨{ cls:=.type "list",data:=.seq vs.toArray },aau rfl⟩)) (fun b u z=>?_) (fun b z=>?_) fun _=>hk
  ·by_cases hb:b=a
   ·exact .inr ⟨_,_,aau hb⟩
   ·exact .inl (aao hb)
  ·by_cases hb:b=a
   ·have z':=(aau hb).symm.trans z;cases z';subst hb;exact⟨ha,by rw[aab];exact hl,vs,_,rv,ha⟩
   ·have z':=(aao hb).symm.trans z;cases z'
  ·by_cases hb:b=a
   ·exact hb
   ·exact absurd (aao hb) z
theorem DU{l:PySem.W.OpenLaw}{n k:Nat}{q:tz}{loose:ww}{XP:(Str->wS)->Heap->Prop}{YP:World->Heap->Prop}{d:DefRec}{K:Params->zn}{CX:World->yb}{sp:World->Sp}(hn:l.most=some n)(Gb:n<=sizeLine)(L8:d.params.defaults=[])(hr:cB k callerA)(hY:∀(w:World) (h:Heap),YP w h->(K w.params).In h)(F:∀(w:World) (mg:xL) (fa:Addr) (h:Heap),(K w.params).In h->h.Ns mainGlobals mg->mg d.name=some (.ref fa) ->
   ∃ fd:v6,(∀(s:Shared) (u:Value),BindsTo s fd ⟨[u],[]⟩ [(x,u)]) /\
    ∀ base:Heap,(K w.params).In base->base.Ns mainGlobals mg->aW l.prog w (K w.params) mg base (CX w) k fa fd [x] (sp w))(wz:∀(w:World) (H:Hp) (a:Addr) (ns:wn),ns.length<=n->II H->eQ (K w.params) H a (ns.map V.int)->sp w [.ref a] H (fun v _=>v=.bl true) fun _ _ _=>False)(QC:∀(w:World) (H:Hp) (s:Shared) (e:Value) (s':Shared),CX w [] H s (fun _ _ _=>False) e s'->False) :
  PySem.W.WalkO q loose XP YP l.row.toRowW d [] (fun f vs=>PySem.call f vs):=by
 refine Att.rL hn L8 fun w aT bo mg mb fa o pm cd doc a vs ns G Y ho hd xU L9 IH hints hlen hg=>?_;have KX:=hY w _ Y;obtain⟨fd,hb,hF⟩:=F w mg fa _ KX G.T.g L9;exact Aw KX G.T.g G.T.b G.T.builtins G.T.nolimit hg IH hints (aam hlen Gb) hr hF hb (fun H hO hS=>wz w H a ns hlen hO hS) fun H e s'=>QC w H bo e s'
def defArgs(s:Stmt):Arguments:=match s with
 | .FunctionDef _ a _ _ _ _ _ _ _ _=>a
 | _=>{ posonlyargs:=[],args:=[],vararg:=none,kwonlyargs:=[],kw_defaults:=[],kwarg:=none,defaults:=[] }
def defBody(s:Stmt):List Stmt:=match s with
 | .FunctionDef _ _ b _ _ _ _ _ _ _=>b
 | _=>[]
def defScope(s:Stmt):Scope:=match s with
 | .FunctionDef _ _ _ _ _ _ sc _ _ _=>sc
 | _=>{ kind:=.function,names:=[],isGenerator:=false,isCoroutine:=false }
abbrev cI:yb:=fun _ _ _ _ _ _=>False
abbrev E0:XK:=fun _ _ _=>False
theorem wH{X:Cx}:Passes cI X E0:=fun _ _ _ _ _ _ _ h=>h.elim
structure cA(K:zn)(x qual:Str)(st:Stmt)(f:Addr)(fd:v6):Prop where
 ex:∃(oc:Value) (od:wT) (kV doc pm:Value) (an:wT) (bq ct:Value) (ux:Array wS),
  fd=PySem.W.fnOf x qual (defArgs st) (defBody st) (defScope st) .none kV doc pm an bq ct/\K.lookup f=some ⟨oc,od,.func fd,ux⟩/\PySem.W.codeIn K bq qual=true
 kp:PySem.W.keepIn K (.ref f)=true
section
variable {P:tz}{w:World}{K:zn}{mg:xL}{base:Heap}
theorem cA.ok{qual:Str}{st:Stmt}{f:Addr}{N ps:ww}{k:Nat}{sp:Sp}(F:cA K x qual st f fd)(S:ay N ps (defScope st))(len:∀ vs H Q E,sp vs H Q E->vs.length=ps.length)(cY:∀(bq:Value) (A:t0) (outer:List Env) (s:Shared) (H:Hp) (vs:List V) (Q:VK) (E:XK),cB k (A.deeper (envOfC qual (defScope st) s.heap.objs.size f bq))->sp vs H Q E ->
   ∃ t,v7 (fj cI P w K mg base N qual (defScope st) f bq A outer s H E).zq (defBody st) t/\t { nx:=fun _ H'=>Q .cD H',rt:=Q } (start N vs) H):aW P w K mg base cI (k+1) f fd ps sp:=by
 obtain⟨oc,od,kV,doc,pm,an,bq,ct,ux,rfl,lk,xU⟩:=F.ex;refine Gd lk xU S len fun A outer s H vs Q E hr wz=>?_;obtain⟨t,h,q⟩:=cY bq A outer s H vs Q E hr wz;exact⟨t,h.zq,q⟩
theorem cA.binds{qual:Str}{st:Stmt}{f:Addr}{ps:ww}(F:cA K x qual st f fd)(h:∀(kV doc pm:Value) (an:wT) (bq ct:Value) (us:wf),us.length=ps.length->bindArgs (PySem.W.fnOf x qual (defArgs st) (defBody st) (defScope st) .none kV doc pm an bq ct) ⟨us,[]⟩=pure (ps.zip us)):Binds K fd ps []:=by
 obtain⟨oc,od,kV,doc,pm,an,bq,ct,ux,rfl,lk,xU⟩:=F.ex;exact .all (h kV doc pm an bq ct)
theorem jN{qual:Str}{st:Stmt}{f:Addr}{oc:Value}{od an:wT}{ux:Array wS}{kV doc pm bq ct:Value}(l:K.lookup f=some ⟨oc,od,.func (PySem.W.fnOf x qual (defArgs st) (defBody st) (defScope st) .none kV doc pm an bq ct),ux⟩)(c:PySem.W.codeIn K bq qual=true)(k:PySem.W.keepIn K (.ref f)=true):cA K x qual st f (PySem.W.fnOf x qual (defArgs st) (defBody st) (defScope st) .none kV doc pm an bq ct):=⟨⟨oc,od,kV,doc,pm,an,bq,ct,ux,rfl,l,c⟩,k⟩
end
theorem bR{n:Nat}(h:n<=1000):n < sizeLine:=acP h (by decide)
def aJ(H H':Hp):Prop:=∀ b o,H b=some o->H' b=some o
theorem aJ.refl(H:Hp):aJ H H:=fun _ _ h=>h
theorem aJ.trans{H H1 H2:Hp}(a:aJ H H1)(b:aJ H1 H2):aJ H H2:=fun c o h=>b c o (a c o h)
theorem aJ.seq{K:zn}{H H':Hp}{a:Addr}{xs:List V}(e:aJ H H')(h:eQ K H a xs):eQ K H' a xs:=by
 rcases h with(h | ⟨o,h⟩) | h
 ·exact .inl (.inl (e _ _ h))
 ·exact .inl (.inr ⟨o,e _ _ h⟩)
 ·exact .inr h
end L2
set_option maxHeartbeats 4000000
namespace L2
open PySem PySem.Spec PyProof.Rows
variable {H:Hp}{w:World}
def Mc(i j:Int):Prop:=0 < j/\j < 2 ^ 64
theorem log2_small{n:Nat}(h:n < 2 ^ 64):n.log2 < 9000:=by
 by_cases h0:n=0
 ·subst h0;decide
 ·exact aat ((Nat.log2_lt h0).mpr h) (by decide)
theorem jk{X:Cx}:gq X (binaryOp .FloorDiv) (rI Mc fun i j=>.int (i / j)):=O5 fun i j _ _ _ _ _ hc q=>by
 have h1:(0:Int) < j:=hc.1;have h2:j < 2 ^ 64:=hc.2;exact floordiv_int (by omega) (by rw[Int.fdiv_eq_ediv_of_nonneg i (by omega)];exact q) (.inl (PyProof.noPylong_of_log2 (log2_small (by omega))))
mutual
def Rep(H:Hp):PyData->V->Prop
 | .none,v=>v=.cD
 | .bool b,v=>v=.bl b
 | .int i,v=>v=.int i
 | .str x,v=>v=.str x
 | .list ds,v=>∃ a xs,v=.ref a/\H a=some (.lst xs)/\ak H ds xs
 | .tuple ds,v=>∃ a xs,v=.ref a/\H a=some (.tup xs)/\ak H ds xs
 | .dict _,_=>False
def ak(H:Hp):wP->List V->Prop
 | [],xs=>xs=[]
 | d::ds,xs=>∃ y ys,xs=y::ys/\Rep H d y/\ak H ds ys
end
mutual
theorem Rep.mono{H H':Hp}(s:aJ H H'):∀{d:PyData} {v:V},Rep H d v->Rep H' d v
 | .none,_,h=>h
 | .bool _,_,h=>h
 | .int _,_,h=>h
 | .str _,_,h=>h
 | .list _,_,⟨a,xs,e,h,r⟩=>⟨a,xs,e,s a _ h,ak.mono s r⟩
 | .tuple _,_,⟨a,xs,e,h,r⟩=>⟨a,xs,e,s a _ h,ak.mono s r⟩
 | .dict _,_,h=>h
theorem ak.mono{H H':Hp}(s:aJ H H'):∀{ds:wP} {xs:List V},ak H ds xs->ak H' ds xs
 | [],_,h=>h
 | _::_,_,⟨y,ys,e,r,rs⟩=>⟨y,ys,e,Rep.mono s r,ak.mono s rs⟩
end
theorem ak.length{H:Hp}:∀{ds:wP} {xs:List V},ak H ds xs->ds.length=xs.length
 | [],_,h=>by cases h;rfl
 | _::_,_,⟨_,_,e,_,rs⟩=>by subst e;simp[rs.length]
theorem ak.get{H:Hp}:∀{ds:wP} {xs:List V} {i:Nat} {d:PyData},ak H ds xs->ds[i]?=some d->∃ x,xs[i]?=some x/\Rep H d x
 | [],_,_,_,_,e=>by simp at e
 | _::_,_,0,_,⟨y,ys,e1,r,_⟩,e=>by simp at e;subst e e1;exact⟨y,rfl,r⟩
 | _::_,_,i+1,d,⟨y,ys,e1,_,rs⟩,e=>by
  obtain⟨x,h1,h2⟩:=ak.get (i:=i) (d:=d) rs (by simpa using e);subst e1;exact⟨x,by simpa using h1,h2⟩
mutual
theorem Rep.reads{P:tz}{w:World}{H:Hp}{h:Heap}(ok:dZ P w H h):∀{d:PyData} {v:V} {u:Value},Rep H d v->RelV v u->∃ as,Reads h u d as
 | .none,_,_,e,r=>by cases e;cases (show _=Value.none from r);exact⟨_,.none⟩
 | .bool b,_,_,e,r=>by cases e;cases (show _=Value.bool b from r);exact⟨_,.bool b⟩
 | .int i,_,_,e,r=>by cases e;obtain⟨t,rfl⟩:=(show ∃ t,_=Value.int i t from r);exact⟨_,.int i t⟩
 | .str x,_,_,e,r=>by cases e;obtain⟨t,rfl⟩:=(show ∃ t,_=Value.str x t from r);exact⟨_,.str x t⟩
 | .list ds,_,_,⟨a,xs,e,hh,rs⟩,r=>by
  subst e;cases (show _=Value.ref a from r);obtain⟨_,aL,n,rv,ho⟩:=(show cn P w H h a (.lst xs) from ok a _ hh);obtain⟨as,q⟩:=ak.reads ok rs rv;exact⟨_,.list ho rfl rfl q⟩
 | .tuple ds,_,_,⟨a,xs,e,hh,rs⟩,r=>by
  subst e;cases (show _=Value.ref a from r);obtain⟨_,aL,rv,o,ho,hc,n,hd⟩:=(show cn P w H h a (.tup xs) from ok a _ hh);obtain⟨as,q⟩:=ak.reads ok rs rv;exact⟨_,.tuple ho hc hd q⟩
 | .dict _,_,_,e,_=>e.elim
theorem ak.reads{P:tz}{w:World}{H:Hp}{h:Heap}(ok:dZ P w H h):∀{ds:wP} {xs:List V} {us:wf},ak H ds xs->Vals xs us->∃ as,ReadsAll h us ds as
 | [],_,_,e,r=>by cases e;cases r;exact⟨_,.nil⟩
 | d::ds,_,us,⟨y,ys,e,hr,hs⟩,r=>by
  subst e;cases r with
  | cons r1 r2 =>
   obtain⟨as,q⟩:=Rep.reads ok hr r1;obtain⟨bs,q'⟩:=ak.reads ok hs r2;exact⟨_,.cons q q'⟩
end
section
variable {X:Cx}
def Md:R2:=fun x y H Q=>∃ d1 d2:PyData,Rep H d1 x/\Rep H d2 y/\d1.canLay0=true/\d2.canLay0=true/\min d1.depth d2.depth<=64/\Q (.bl (PyData.eqv d1 d2)) H
def Me:R2:=fun x y H Q=>∃ d1 d2:PyData,Rep H d1 x/\Rep H d2 y/\d1.canLay0=true/\d2.canLay0=true/\min d1.depth d2.depth<=64/\Q (.bl (!PyData.eqv d1 d2)) H
theorem IK(hu:X.A.units+64 < cLine):gq X (compareOp .Eq) Md:=by
 intro pins s σ H x y v u Q I rx ry ⟨d1,d2,r1,r2,c1,c2,hd,q⟩;obtain⟨as,q1⟩:=r1.reads I.bN rx;obtain⟨bs,q2⟩:=r2.reads I.bN ry;exact SeqAt.rcAt_reads q1 q2 c1 c2 (by omega) _ _ _ _ ⟨.bl _,H,I,rfl,q⟩
theorem IL(hu:X.A.units+64 < cLine):gq X (compareOp .NotEq) Me:=by
 intro pins s σ H x y v u Q I rx ry ⟨d1,d2,r1,r2,c1,c2,hd,q⟩;obtain⟨as,q1⟩:=r1.reads I.bN rx;obtain⟨bs,q2⟩:=r2.reads I.bN ry;exact SeqAt.rcNeAt_reads q1 q2 c1 c2 (by omega) _ _ _ _ ⟨.bl _,H,I,rfl,q⟩
theorem rM:eE X (.builtin "isinstance") (fun xs H Q=>∃ x T t b,xs=[x,.ty T]/\jg X.K H x t/\PySem.W.kitOne X.K t (.type T)=some b/\Q (.bl b) H):=by
 intro pins s σ H xs us Q I rv ⟨x,T,t,b,e,ty,hk,q⟩;subst e;obtain⟨u,w',rfl,r1,r2⟩:=vals2 rv;cases (show w'=Value.type T from r2);exact ya I r1 ty hk fun tk=>⟨.bl _,H,I.tok tk,rfl,q⟩
end
section
variable {prog:tz}{A:t0}{E:xz}{s:Shared}
theorem jl{it l:Addr}{i:Nat}{items}{x:Value}{Q:xz}(hit:s.heap.IsTupleIter it l i)(hl:s.heap.IsTuple l items)(hx:items[i]?=some x)(hQ:∀ h',h'.IsTupleIter it l (i+1)->Heap.SameBut it s.heap h'->Q x { s with heap:=h' }) :
  wpAny (model prog w) A (Builtin.SmallTypes.nextOf (.ref it)) Q E s:=by
 obtain⟨o,ho,hc,hd⟩:=id hit;obtain⟨ol,QF,_,nl,IM⟩:=hl;unfold Builtin.SmallTypes.nextOf;refine aaa (aa1 (name:=Str.ofString "__next__") hit.typeIs abu
  (aa6 abu hit.typeIs F.entry_tuple_iterator_next ?_ (F.args_tuple_iterator_next_1 _)))
 show wpAny _ _ (field (.ref it) 0 >>= _) _ _ s;refine aaa (abb ho hd (x:=.ref l) rfl ?_);show wpAny _ _ (if(Value.ref l == Value.none)=true then _ else _) _ _ s;rw[aao (show ¬ ((Value.ref l == Value.none)=true) from aaj)];show wpAny _ _ (field (.ref it) 1 >>= _) _ _ s;refine aaa (abb ho hd (x:=.int i 0) rfl ?_);show wpAny _ _ (seqItems? (.ref l) >>= _) _ _ s;refine aaa (abG QF IM ?_);simp only[aay,hx];refine aaa (abH ho hd (by simp) (aad ⟨x,rfl,aad (hQ _ ?_ (aaI ..))⟩));exact⟨_,aaV _ ho (abD (aaT hd _)),(acr ..).trans hc,by
  rw[aaT hd];simp[rawInt]⟩
theorem jO{it l:Addr}{i:Nat}{items}{Q:xz}(hh:A.handled=none)(hit:s.heap.IsTupleIter it l i)(hl:s.heap.IsTuple l items)(hx:items[i]?=none)(hE:∀ h' e,Heap.ExtBut it s.heap h'->(∃ o,h'.get? e=some o/\o.cls=.type "StopIteration")->E (.ref e) { s with heap:=h' }) :
  wpAny (model prog w) A (Builtin.SmallTypes.nextOf (.ref it)) Q E s:=by
 obtain⟨o,ho,hc,hd⟩:=id hit;obtain⟨ol,QF,_,nl,IM⟩:=hl;unfold Builtin.SmallTypes.nextOf;refine aaa (aa1 (name:=Str.ofString "__next__") hit.typeIs abu
  (aa6 abu hit.typeIs F.entry_tuple_iterator_next ?_ (F.args_tuple_iterator_next_1 _)))
 show wpAny _ _ (field (.ref it) 0 >>= _) _ _ s;refine aaa (abb ho hd (x:=.ref l) rfl ?_);show wpAny _ _ (if(Value.ref l == Value.none)=true then _ else _) _ _ s;rw[aao (show ¬ ((Value.ref l == Value.none)=true) from aaj)];show wpAny _ _ (field (.ref it) 1 >>= _) _ _ s;refine aaa (abb ho hd (x:=.int i 0) rfl ?_);show wpAny _ _ (seqItems? (.ref l) >>= _) _ _ s;refine aaa (abG QF IM ?_);simp only[aay,hx];refine aaa (acs (aaa (abH ho hd (by simp) ?_)));show wpAny _ _ (newExc (.type "StopIteration") [] >>= _) _ _ _;refine aaa ?_;simp only[newExc,newTuple];refine aaa (aaX ?_ (by size_fits));refine aaa (m:=firstArgMember _ _) (wpAny_of_eq (a:=Value.none) (by first | rfl | (simp only[firstArgMember];rfl)) ?_);refine aaX ?_ (by size_fits);simp only[raiseNew];refine aaa (wpAny_handled ?_)
 first | rw[show A.in1.handled=none from hh] | rw[hh]
 refine aaa (aad (wpAny_throw ?_));exact hE _ _ (((aaI ..).extBut.push _).push _) ⟨_,aai _ rfl,rfl⟩
end
end L2
namespace L2
open PySem PySem.Spec PyProof.Rows
variable {prog P:tz}{w:World}{A:t0}{E:xz}{s:Shared}{z i1 i2 l1 l2 a:Addr}{k1 k2:Nat}{yi nI:Heap->Nat->wS->Prop}{wI nV:Nat->Heap->Prop}{b:Value}{X:Cx}{pins:yp}{H:Hp}{pos:Pos}
structure Nx(prog:tz)(w:World)(it l:Addr)(has:Heap->Nat->wS->Prop)(st:Nat->Heap->Prop):Prop where
 obj:∀ i h,st i h->∃ o,h.get? it=some o/\∀ v,o.data≠.cell v
 keep:∀ i h h',st i h->(∀ o,h.get? it=some o->h'.get? it=some o)->st i h'
 lU:∀ i x h h',has h i x->(∀ o,h.get? l=some o->h'.get? l=some o)->has h' i x
 item:∀(A:t0) (E:xz) (i:Nat) (s:Shared) (x:Value) (Q:xz),st i s.heap->has s.heap i (some x) ->
  (∀ h',st (i+1) h'->Heap.SameBut it s.heap h'->Q x { s with heap:=h' })->wpAny (model prog w) A (Builtin.SmallTypes.nextOf (.ref it)) Q E s
 done:∀(A:t0) (E:xz) (i:Nat) (s:Shared) (Q:xz),A.handled=none->st i s.heap->has s.heap i none ->
  (∀ h' e,Heap.ExtBut it s.heap h'->(∃ o,h'.get? e=some o/\o.cls=.type "StopIteration")->E (.ref e) { s with heap:=h' })->wpAny (model prog w) A (Builtin.SmallTypes.nextOf (.ref it)) Q E s
def Mf(l:Addr)(h:Heap)(i:Nat)(x:wS):Prop:=∃ aL:Array Value,h.IsList l aL/\aL[i]?=x
def Mg(l:Addr)(h:Heap)(i:Nat)(x:wS):Prop:=∃ aL:Array Value,h.IsTuple l aL/\aL[i]?=x
theorem DW(it l:Addr):Nx prog w it l (Mf l) (fun i h=>h.IsListIter it l i) where
 obj:=fun i h st=>by
  obtain⟨o,e,c,d⟩:=st;exact⟨o,e,fun v z=>by rw[d]at z;cases z⟩
 keep:=fun i h h' st k=>st.at k
 lU:=fun i x h h' ⟨aL,hl,e⟩ k=>⟨aL,hl.at k,e⟩
 item:=fun A E i s x Q st ⟨aL,hl,e⟩ hQ=>wpAny_nextOf_list_item st hl e hQ
 done:=fun A E i s Q hh st ⟨aL,hl,e⟩ hE=>wpAny_nextOf_list_end hh st hl e hE
theorem IP(it l:Addr):Nx prog w it l (Mg l) (fun i h=>h.IsTupleIter it l i) where
 obj:=fun i h st=>by
  obtain⟨o,e,c,d⟩:=st;exact⟨o,e,fun v z=>by rw[d]at z;cases z⟩
 keep:=fun i h h' ⟨o,e,c⟩ k=>⟨o,k _ e,c⟩
 lU:=fun i x h h' ⟨aL,⟨o,e1,c⟩,e⟩ k=>⟨aL,⟨o,k _ e1,c⟩,e⟩
 item:=fun A E i s x Q st ⟨aL,hl,e⟩ hQ=>jl st hl e hQ
 done:=fun A E i s Q hh st ⟨aL,hl,e⟩ hE=>jO hh st hl e hE
theorem yh{TI TO:Addr}{x y a:Value}{Q:xz}(D:ZipApart z TI TO i1 i2 l1 l2)(N1:Nx prog w i1 l1 yi wI)(N2:Nx prog w i2 l2 nI nV)(hz:IsZip s.heap z TI TO .none)(rN:IsPair s.heap TI (.ref i1) (.ref i2))(tW:IsPair s.heap TO a b)(h1:wI k1 s.heap)(h2:nV k2 s.heap)(hx:yi s.heap k1 (some x))(hy:nI s.heap k2 (some y))(hQ:∀ h',IsZip h' z TI TO (rawInt s.heap.objs.size)->IsPair h' TO x y->wI (k1+1) h'->nV (k2+1) h'->IsPair h' s.heap.objs.size x y->h'.objs.size=s.heap.objs.size+1 ->
   (∀ c o,c≠z->c≠TO->c≠i1->c≠i2->s.heap.get? c=some o->h'.get? c=some o)->Q (.ref s.heap.objs.size) { s with heap:=h' }) :
  wpAny (model prog w) A (Builtin.«zip.__next__» ⟨[.ref z],[]⟩) (fun fin s'=>∃ v,fin=.done (.ret v)/\Q v s') E s:=by
 show wpAny _ _ (field (.ref z) 2 >>= _) _ _ _;refine aaa (abb hz rfl (x:=.bool false) rfl ?_);show wpAny _ _ (field (.ref z) 3 >>= _) _ _ _;refine aaa (abb hz rfl (x:=.ref TI) rfl ?_);refine aaa (abG rN rfl ?_);show wpAny _ _ (Builtin.SmallTypes.ownedTupleIsFree (.ref z) >>= _) _ _ _;refine aaa ?_;unfold Builtin.SmallTypes.ownedTupleIsFree;refine aaa (abb hz rfl (x:=.none) rfl (aad ?_));simp only[acq];refine aaa (acs ?_);refine aaa (abb hz rfl (x:=.ref TO) rfl ?_);refine aaa (abE hz (by simp) fun eF kn cL=>?_);replace kn:IsZip eF z TI TO .ellipsis:=kn;refine aaa ?_;simp only[List.zipIdx_cons,List.zipIdx_nil,adb,adl];refine aaa (aaa (ac1 ?_));show wpAny _ _ (Builtin.SmallTypes.nextOf (.ref i1) >>= _) _ _ _;refine aaa (N1.item _ _ k1 { s with heap:=eF } x _ (N1.keep _ _ _ h1 fun o e=>cL.extBut _ _ D.i1z e) (N1.lU _ _ _ _ hx fun o e=>cL.extBut _ _ D.l1z e) fun gC Gf eG=>aad ?_);have lV:IsPair gC TO a b:=eG.extBut _ _ D.TOi1 (cL.extBut _ _ D.TOz tW);refine aaa (abG lV rfl ?_);refine aaa (acC lV fun lO ph fO=>?_);replace ph:IsPair lO TO x b:=ph;refine aaa (wpAny_letGo (aad ?_));refine aaa (aaa (ac1 ?_));show wpAny _ _ (Builtin.SmallTypes.nextOf (.ref i2) >>= _) _ _ _;refine aaa (N2.item _ _ k2 { s with heap:=lO } y _ (N2.keep _ _ _ h2 fun o e=>fO.extBut _ _ D.TOi2.symm (eG.extBut _ _ D.i12.symm (cL.extBut _ _ D.i2z e)))
  (N2.lU _ _ _ _ hy fun o e=>fO.extBut _ _ D.l2TO (eG.extBut _ _ D.l2i1 (cL.extBut _ _ D.l2z e))) fun Ax Mh ko=>aad ?_)
 have Ay:IsPair Ax TO x b:=ko.extBut _ _ D.TOi2 ph;refine aaa (abG Ay rfl ?_);refine aaa (acC Ay fun gr lW kq=>?_);replace lW:IsPair gr TO x y:=lW;refine aaa (wpAny_letGo (aad (aad ?_)));refine aaa (abG lW rfl ?_);refine aaa (wpAny_newTuple ?_);have wx:gr.objs.size=s.heap.objs.size:=by rw[kq.1,ko.1,fO.1,eG.1,cL.1]
 have Gg:IsZip gr z TI TO .ellipsis:=kq.extBut _ _ D.TOz.symm (ko.extBut _ _ D.i2z.symm (fO.extBut _ _ D.TOz.symm (eG.extBut _ _ D.i1z.symm kn)));have Mi:∀ c o,c≠z->c≠TO->c≠i1->c≠i2->s.heap.get? c=some o->gr.get? c=some o:=fun c o c1 c2 c3 c4 e =>
  kq.extBut _ _ c2 (ko.extBut _ _ c4 (fO.extBut _ _ c2 (eG.extBut _ _ c3 (cL.extBut _ _ c1 e))))
 have Mj:wI (k1+1) gr:=N1.keep _ _ _ Gf fun o e=>kq.extBut _ _ D.TOi1.symm (ko.extBut _ _ D.i12 (fO.extBut _ _ D.TOi1.symm e));have Ml:nV (k2+1) gr:=N2.keep _ _ _ Mh fun o e=>kq.extBut _ _ D.TOi2.symm e;have Mm:z < gr.objs.size:=aah Gg;have T4:TO < gr.objs.size:=aah lW;show wpAny _ _ (Builtin.SmallTypes.ownedTupleHandOut (.ref z) (.ref gr.objs.size) >>= _) _ _ _;refine aaa ?_;unfold Builtin.SmallTypes.ownedTupleHandOut;have Mn:IsZip (gr.push { cls:=.type "tuple",data:=.seq #[x,y] }) z TI TO .ellipsis:=aac _ Gg;refine aaa (abE Mn (by simp) fun QG Az AA=>?_);replace Az:IsZip QG z TI TO (rawInt gr.objs.size):=Az;refine abE Az (by simp) fun AB wJ AD=>?_;replace wJ:IsZip AB z TI TO (rawInt gr.objs.size):=wJ;have up:∀ c o,c≠z->gr.get? c=some o->AB.get? c=some o:=fun c o c1 e=>AD.extBut _ _ c1 (AA.extBut _ _ c1 (aac _ e));have Gh:IsPair AB gr.objs.size x y:=AD.extBut _ _ (abA Mm) (AA.extBut _ _ (abA Mm) (aai _ rfl));have T5:AB.objs.size=gr.objs.size+1:=by rw[AD.1,AA.1,aaW]
 rw[wx]at wJ Gh T5;refine aad ⟨_,rfl,?_⟩;show Q (.ref gr.objs.size) _;rw[wx];exact hQ AB wJ (up _ _ D.TOz lW) (N1.keep _ _ _ Mj fun o e=>up _ o D.i1z e) (N2.keep _ _ _ Ml fun o e=>up _ o D.i2z e) Gh T5 fun c o c1 c2 c3 c4 e=>up c o c1 (Mi c o c1 c2 c3 c4 e)
theorem AE{TI TO:Addr}{a:Value}{Q:Fin->Shared->Prop}(hh:A.handled=none)(D:ZipApart z TI TO i1 i2 l1 l2)(N1:Nx prog w i1 l1 yi wI)(N2:Nx prog w i2 l2 nI nV)(hz:IsZip s.heap z TI TO .none)(rN:IsPair s.heap TI (.ref i1) (.ref i2))(tW:IsPair s.heap TO a b)(h1:wI k1 s.heap)(h2:nV k2 s.heap)(rO:yi s.heap k1 none\/(∃ x,yi s.heap k1 (some x))/\nI s.heap k2 none)(hE:∀ h' e,(∀ c o,c≠z->c≠TO->c≠i1->c≠i2->s.heap.get? c=some o->h'.get? c=some o)->(∃ o,h'.get? e=some o/\o.cls=.type "StopIteration")->E (.ref e) { s with heap:=h' }) :
  wpAny (model prog w) A (Builtin.«zip.__next__» ⟨[.ref z],[]⟩) Q E s:=by
 show wpAny _ _ (field (.ref z) 2 >>= _) _ _ _;refine aaa (abb hz rfl (x:=.bool false) rfl ?_);show wpAny _ _ (field (.ref z) 3 >>= _) _ _ _;refine aaa (abb hz rfl (x:=.ref TI) rfl ?_);refine aaa (abG rN rfl ?_);show wpAny _ _ (Builtin.SmallTypes.ownedTupleIsFree (.ref z) >>= _) _ _ _;refine aaa ?_;unfold Builtin.SmallTypes.ownedTupleIsFree;refine aaa (abb hz rfl (x:=.none) rfl (aad ?_));simp only[acq];refine aaa (acs ?_);refine aaa (abb hz rfl (x:=.ref TO) rfl ?_);refine aaa (abE hz (by simp) fun eF kn cL=>?_);replace kn:IsZip eF z TI TO .ellipsis:=kn;refine aaa ?_;simp only[List.zipIdx_cons,List.zipIdx_nil,adb,adl];refine aaa (aaa (ac1 ?_));show wpAny _ _ (Builtin.SmallTypes.nextOf (.ref i1) >>= _) _ _ _;rcases rO with hx | ⟨⟨x,hx⟩,hy⟩
 ·refine aaa (N1.done _ _ k1 { s with heap:=eF } _ hh (N1.keep _ _ _ h1 fun o e=>cL.extBut _ _ D.i1z e) (N1.lU _ _ _ _ hx fun o e=>cL.extBut _ _ D.l1z e) fun gC e eG he=>?_);obtain⟨oe,IQ,Mo⟩:=he;have Gi:IsZip gC z TI TO .ellipsis:=eG _ _ D.i1z.symm kn;have QH:e≠z:=fun x=>by subst x;rw[Gi]at IQ;cases IQ;simp at Mo
  refine abE Gi (by simp) fun lO _ fO=>hE lO e (fun c o c1 _ c3 _ x=>fO.extBut _ _ c1 (eG _ _ c3 (cL.extBut _ _ c1 x))) ⟨oe,fO.extBut _ _ QH IQ,Mo⟩
 ·refine aaa (N1.item _ _ k1 { s with heap:=eF } x _ (N1.keep _ _ _ h1 fun o e=>cL.extBut _ _ D.i1z e) (N1.lU _ _ _ _ hx fun o e=>cL.extBut _ _ D.l1z e) fun gC Gf eG=>aad ?_);have lV:IsPair gC TO a b:=eG.extBut _ _ D.TOi1 (cL.extBut _ _ D.TOz tW);refine aaa (abG lV rfl ?_);refine aaa (acC lV fun lO ph fO=>?_);refine aaa (wpAny_letGo (aad ?_));refine aaa (aaa (ac1 ?_));show wpAny _ _ (Builtin.SmallTypes.nextOf (.ref i2) >>= _) _ _ _;refine aaa (N2.done _ _ k2 { s with heap:=lO } _ hh (N2.keep _ _ _ h2 fun o e=>fO.extBut _ _ D.TOi2.symm (eG.extBut _ _ D.i12.symm (cL.extBut _ _ D.i2z e)))
   (N2.lU _ _ _ _ hy fun o e=>fO.extBut _ _ D.l2TO (eG.extBut _ _ D.l2i1 (cL.extBut _ _ D.l2z e))) fun Ax e ko he=>?_)
  obtain⟨oe,IQ,Mo⟩:=he;have Gj:IsZip Ax z TI TO .ellipsis:=ko _ _ D.i2z.symm (fO.extBut _ _ D.TOz.symm (eG.extBut _ _ D.i1z.symm kn));have QH:e≠z:=fun x=>by subst x;rw[Gj]at IQ;cases IQ;simp at Mo
  refine abE Gj (by simp) fun gr _ kq=>hE gr e (fun c o c1 c2 c3 c4 x=>kq.extBut _ _ c1 (ko _ _ c4 (fO.extBut _ _ c2 (eG.extBut _ _ c3 (cL.extBut _ _ c1 x))))) ⟨oe,kq.extBut _ _ QH IQ,Mo⟩
theorem jP{TI TO:Addr}{x y a:Value}{Q:wS->Shared->Prop}(D:ZipApart z TI TO i1 i2 l1 l2)(N1:Nx prog w i1 l1 yi wI)(N2:Nx prog w i2 l2 nI nV)(hz:IsZip s.heap z TI TO .none)(rN:IsPair s.heap TI (.ref i1) (.ref i2))(tW:IsPair s.heap TO a b)(h1:wI k1 s.heap)(h2:nV k2 s.heap)(hx:yi s.heap k1 (some x))(hy:nI s.heap k2 (some y))(hQ:∀ h',IsZip h' z TI TO (rawInt s.heap.objs.size)->IsPair h' TO x y->wI (k1+1) h'->nV (k2+1) h'->IsPair h' s.heap.objs.size x y->h'.objs.size=s.heap.objs.size+1 ->
   (∀ c o,c≠z->c≠TO->c≠i1->c≠i2->s.heap.get? c=some o->h'.get? c=some o)->Q (some (.ref s.heap.objs.size)) { s with heap:=h' }) :
  wpAny (model prog w) A (pyNext (.ref z)) Q E s:=by
 have hT:s.TypeIs (.ref z) "zip":=⟨_,hz,rfl⟩;unfold pyNext;exact aaa (ac2 (aa1 (name:=Str.ofString "__next__") hT acJ
  (aa6 acJ hT F.entry_zip_next
   (yh D N1 N2 hz rN tW h1 h2 hx hy fun h' a1 a2 a3 a4 a5 a6 a7=>aad (hQ h' a1 a2 a3 a4 a5 a6 a7)) (F.args_zip_next_1 _))))
theorem kN{TI TO:Addr}{a:Value}{Q:wS->Shared->Prop}(hh:A.handled=none)(D:ZipApart z TI TO i1 i2 l1 l2)(N1:Nx prog w i1 l1 yi wI)(N2:Nx prog w i2 l2 nI nV)(hz:IsZip s.heap z TI TO .none)(rN:IsPair s.heap TI (.ref i1) (.ref i2))(tW:IsPair s.heap TO a b)(h1:wI k1 s.heap)(h2:nV k2 s.heap)(rO:yi s.heap k1 none\/(∃ x,yi s.heap k1 (some x))/\nI s.heap k2 none)(hQ:∀ h',(∀ c o,c≠z->c≠TO->c≠i1->c≠i2->s.heap.get? c=some o->h'.get? c=some o)->Q none { s with heap:=h' }):wpAny (model prog w) A (pyNext (.ref z)) Q E s:=by
 have hT:s.TypeIs (.ref z) "zip":=⟨_,hz,rfl⟩;unfold pyNext;refine aaa (ac2 (aa1 (name:=Str.ofString "__next__") hT acJ
  (aa6 acJ hT F.entry_zip_next (AE hh D N1 N2 hz rN tW h1 h2 rO fun h' e hk he=>?_) (F.args_zip_next_1 _))))
 obtain⟨o,ho,hc⟩:=he;refine aaa (wpAny_isInstance (T := "StopIteration") (b:=true) ⟨o,ho,hc⟩ isSubtype_stop ?_);exact aad (hQ _ hk)
def bG(T:String)(l:Addr):Obj:={ cls:=.type T,data:=.fields #[.ref l,.int 0 0] }
def gg(h:Heap)(o1 o2:Obj):Heap :=
 ((((h.push o1).push o2).push { cls:=.type "tuple",data:=.seq #[.ref h.objs.size,.ref (h.objs.size+1)] }).push { cls:=.type "tuple",data:=.seq #[.none,.none] }).push
  { cls:=.type "zip",data:=.fields #[.none,.bool false,.bool false,.ref (h.objs.size+2),.ref (h.objs.size+3)] }
theorem rP(l1 l2:Addr)(xs ys:Array Value) :
  Meets (Builtin.«zip.__new__» ⟨[.type "zip",.ref l1,.ref l2],[]⟩) (fun _ R s=>s.heap.IsTuple l1 xs/\s.heap.IsTuple l2 ys /\
   R (.ok (.ret (.ref (s.heap.objs.size+4)))) { s with heap:=gg s.heap (bG "tuple_iterator" l1) (bG "tuple_iterator" l2) }) :=
 .of_wp fun prog w A R s h=>by
  obtain⟨hp,g,d,tk,os⟩:=s;obtain⟨nM,rQ,h⟩:=h;have DX:=sub_zip;have IS:Heap.IsTuple (Shared.heap ⟨hp,g,d,tk,os⟩) l1 xs:=nM;have IT:Heap.IsTuple (Shared.heap ⟨hp.push { cls:=.type "tuple_iterator",data:=.fields #[.ref l1,.int 0 0] },g,d,tk,os⟩) l2 ys:=Heap.IsTuple.push rQ _
  wp_walk using acm IS,acm IT
  refine⟨_,rfl,?_⟩;have e:∀(h:Heap) (o:Obj),(h.push o).objs.size=h.objs.size+1:=fun h o=>aaW ..;simp only[gg,bG,e]at h ⊢;exact h
section
variable {σ:St}{h':Heap}
theorem Inv.wK{t':Nat}{ch:wE}(I:Inv X pins σ H s)(hf:∀ b∈ch,jd X pins H b)(k:∀ b o,b ∉ ch->s.heap.get? b=some o->h'.get? b=some o):Inv X pins σ H { s with heap:=h',toks:=t' }:=by
 have Ls:∀ b u,H b=some u->b ∉ ch:=fun b u e z=>by rw[(hf b z).1]at e;cases e
 refine I.step (g':=s.gens) (d':=s.drawn) (ch:=ch) (fun b hb=>?_) (fun b o _ _ hc e _=>k b o hc e) (fun b o _ _ hc e _=>⟨o.slots,k b o hc e⟩) (fun _ _ _ _ n=>n)
  (fun b o hc e=>⟨o,k b o hc e⟩) (fun _ _ e=>e) (fun _ _ _ e=>e) (fun b ps e=>⟨#[],by rw[e];simp⟩) (fun m hm=>?_) (fun b u e=>?_) I.bare
 ·obtain⟨_,f1,f2,f3,f4,f5⟩:=hf b hb;exact⟨f3,f1,f4,f5⟩
 ·obtain⟨o,es,ep,ho,r⟩:=hm;exact⟨o,es,ep,k _ o (fun z=>(hf _ z).2.1 rfl) ho,r⟩
 ·refine(I.bN b u e).rq (fun c v hc q=>k c v ?_ q) (fun _ q=>q) fun _ _ q=>q;rcases hc with z | z
  ·rw[z];exact Ls b u e
  ·exact Ls c _ z
theorem Inv.Gk{t':Nat}{T:Addr}{o:HO}(I:Inv X pins σ H s)(hf:jd X pins H T)(new:cn X.prog X.w (upd H T o) s.heap T o):Inv X pins σ (upd H T o) { s with toks:=t' }:=by
 have hn:=hf.1;refine I.step (h':=s.heap) (g':=s.gens) (d':=s.drawn) (ch:=[T]) (fun b hb=>?_) (fun b o _ _ _ e _=>e) (fun b o _ _ _ e _=>⟨o.slots,e⟩) (fun b o hc _ n=>?_)
  (fun b o _ e=>⟨o,e⟩) (fun b xs e=>?_) (fun b o u e=>?_) (fun b ps e=>⟨#[],?_⟩) (fun m hm=>hm) (fun b u e=>?_) I.bare
 ·obtain⟨_,f1,f2,f3,f4,f5⟩:=hf;have e:b=T:=by simpa using hb
  subst e;exact⟨f3,f1,f4,f5⟩
 ·rw[bc (fun z=>hc (by simp[z]))];exact n
 ·rw[bc (bH e hn)];exact e
 ·rw[bc (bH e hn)];exact e
 ·rw[bc (bH e hn),e];simp
 ·by_cases hb:b=T
  ·subst hb;rw[cK]at e;cases e;exact new
  ·rw[bc hb]at e;exact(I.bN b u e).rq (fun c v _ q=>q) (fun c q=>by rw[bc (bH q hn)];exact q) fun c xs q=>by rw[bc (bH q hn)];exact q
end
inductive SK where
 | L | T
def uD(K:zn):SK->Hp->Addr->List V->Prop
 | .L=>eQ K
 | .T=>eY K
def pj:SK->Addr->Heap->Nat->wS->Prop
 | .L=>Mf
 | .T=>Mg
def stK:SK->Addr->Addr->Nat->Heap->Prop
 | .L=>fun it l i h=>h.IsListIter it l i
 | .T=>fun it l i h=>h.IsTupleIter it l i
def lX:SK->String
 | .L => "list_iterator"
 | .T => "tuple_iterator"
theorem zu:∀(k:SK) (it l:Addr),Nx prog w it l (pj k l) (stK k it l)
 | .L,it,l=>DW it l
 | .T,it,l=>IP it l
section
variable {σ:St}{xs ys:List V}
theorem Inv.yj(I:Inv X pins σ H s):∀{k:SK},uD X.K k H a xs->∃ aL:List Value,Vals xs aL/\xs.length<=sizeLine/\∀ i,pj k a s.heap i aL[i]?
 | .L,h=>by
  obtain⟨aL,r,p,z⟩:=I.list h;obtain⟨o,n,ho,hc,hd,VX⟩:=p;exact⟨aL,r,z,fun i=>⟨aL.toArray,⟨o,ho,hc,n,VX⟩,by simp⟩⟩
 | .T,h=>by
  obtain⟨aL,r,p,z⟩:=I.tuple h;exact⟨aL,r,z,fun i=>⟨aL.toArray,p,by simp⟩⟩
theorem Inv.Gm(I:Inv X pins σ H s):∀{k:SK},uD X.K k H a xs->uD X.K k H a ys->xs=ys
 | .L,h,h'=>I.rD h h'
 | .T,h,h'=>I.xV h h'
end
theorem aJ.new{p:Addr}(h:H p=none)(o:HO):aJ H (upd H p o):=fun b u q=>by rw[bc (bH q h)];exact q
theorem rR(l1 l2:Addr)(xs ys:Array Value) :
  Meets (Builtin.«zip.__new__» ⟨[.type "zip",.ref l1,.ref l2],[]⟩) (fun _ R s=>s.heap.IsList l1 xs/\s.heap.IsList l2 ys /\
   R (.ok (.ret (.ref (s.heap.objs.size+4)))) { s with heap:=gg s.heap (bG "list_iterator" l1) (bG "list_iterator" l2) }) :=
 .of_wp fun prog w A R s h=>by
  obtain⟨hp,g,d,tk,os⟩:=s;obtain⟨nM,rQ,h⟩:=h;have DX:=sub_zip;have IS:Heap.IsList (Shared.heap ⟨hp,g,d,tk,os⟩) l1 xs:=nM;have IT:Heap.IsList (Shared.heap ⟨hp.push { cls:=.type "list_iterator",data:=.fields #[.ref l1,.int 0 0] },g,d,tk,os⟩) l2 ys:=Heap.IsList.push rQ _
  wp_walk using abj IS,abj IT
  refine⟨_,rfl,?_⟩;have e:∀(h:Heap) (o:Obj),(h.push o).objs.size=h.objs.size+1:=fun h o=>aaW ..;simp only[gg,bG,e]at h ⊢;exact h
theorem rS(l1 l2:Addr)(xs ys:Array Value) :
  Meets (Builtin.«zip.__new__» ⟨[.type "zip",.ref l1,.ref l2],[]⟩) (fun _ R s=>s.heap.IsTuple l1 xs/\s.heap.IsList l2 ys /\
   R (.ok (.ret (.ref (s.heap.objs.size+4)))) { s with heap:=gg s.heap (bG "tuple_iterator" l1) (bG "list_iterator" l2) }) :=
 .of_wp fun prog w A R s h=>by
  obtain⟨hp,g,d,tk,os⟩:=s;obtain⟨nM,rQ,h⟩:=h;have DX:=sub_zip;have IS:Heap.IsTuple (Shared.heap ⟨hp,g,d,tk,os⟩) l1 xs:=nM;have IT:Heap.IsList (Shared.heap ⟨hp.push { cls:=.type "tuple_iterator",data:=.fields #[.ref l1,.int 0 0] },g,d,tk,os⟩) l2 ys:=Heap.IsList.push rQ _
  wp_walk using acm IS,abj IT
  refine⟨_,rfl,?_⟩;have e:∀(h:Heap) (o:Obj),(h.push o).objs.size=h.objs.size+1:=fun h o=>aaW ..;simp only[gg,bG,e]at h ⊢;exact h
theorem rT(l1 l2:Addr)(xs ys:Array Value) :
  Meets (Builtin.«zip.__new__» ⟨[.type "zip",.ref l1,.ref l2],[]⟩) (fun _ R s=>s.heap.IsList l1 xs/\s.heap.IsTuple l2 ys /\
   R (.ok (.ret (.ref (s.heap.objs.size+4)))) { s with heap:=gg s.heap (bG "list_iterator" l1) (bG "tuple_iterator" l2) }) :=
 .of_wp fun prog w A R s h=>by
  obtain⟨hp,g,d,tk,os⟩:=s;obtain⟨nM,rQ,h⟩:=h;have DX:=sub_zip;have IS:Heap.IsList (Shared.heap ⟨hp,g,d,tk,os⟩) l1 xs:=nM;have IT:Heap.IsTuple (Shared.heap ⟨hp.push { cls:=.type "list_iterator",data:=.fields #[.ref l1,.int 0 0] },g,d,tk,os⟩) l2 ys:=Heap.IsTuple.push rQ _
  wp_walk using abj IS,acm IT
  refine⟨_,rfl,?_⟩;have e:∀(h:Heap) (o:Obj),(h.push o).objs.size=h.objs.size+1:=fun h o=>aaW ..;simp only[gg,bG,e]at h ⊢;exact h
theorem iM{h:Heap}{o1 o2:Obj}:(gg h o1 o2).get? (h.objs.size+4)=some { cls:=.type "zip",data:=.fields #[.none,.bool false,.bool false,.ref (h.objs.size+2),.ref (h.objs.size+3)] }:=by
 unfold gg;have e:h.objs.size+4=((((h.push o1).push o2).push { cls:=.type "tuple",data:=.seq #[.ref h.objs.size,.ref (h.objs.size+1)] }).push { cls:=.type "tuple",data:=.seq #[.none,.none] }).objs.size:=by simp only[aaW]
 rw[e];exact aai _ rfl
theorem yk:∀{k1 k2:SK} {n1 n2:wS} {Q:xz} (nM:pj k1 l1 s.heap 0 n1) (rQ:pj k2 l2 s.heap 0 n2)
  (h:Q (.ref (s.heap.objs.size+4)) { s with heap:=gg s.heap (bG (lX k1) l1) (bG (lX k2) l2) }),wpAny (model prog w) A (call (.type "zip") [.ref l1,.ref l2]) Q E s
 | .T,.T,_,_,_,⟨xs,nM,_⟩,⟨ys,rQ,_⟩,h=>ade adf (by decide) (acz _ _) (acK _ _) (fun obj=>ab9 obj _ _) acL
   (rP l1 l2 xs ys) ⟨nM,rQ,⟨⟨_,iM,rfl⟩,h⟩⟩
 | .L,.L,_,_,_,⟨xs,nM,_⟩,⟨ys,rQ,_⟩,h=>ade adf (by decide) (acz _ _) (acK _ _) (fun obj=>ab9 obj _ _) acL
   (rR l1 l2 xs ys) ⟨nM,rQ,⟨⟨_,iM,rfl⟩,h⟩⟩
 | .T,.L,_,_,_,⟨xs,nM,_⟩,⟨ys,rQ,_⟩,h=>ade adf (by decide) (acz _ _) (acK _ _) (fun obj=>ab9 obj _ _) acL
   (rS l1 l2 xs ys) ⟨nM,rQ,⟨⟨_,iM,rfl⟩,h⟩⟩
 | .L,.T,_,_,_,⟨xs,nM,_⟩,⟨ys,rQ,_⟩,h=>ade adf (by decide) (acz _ _) (acK _ _) (fun obj=>ab9 obj _ _) acL
   (rT l1 l2 xs ys) ⟨nM,rQ,⟨⟨_,iM,rfl⟩,h⟩⟩
def QI(K:zn)(k1 k2:SK)(a b:Addr):It :=
 ⟨fun i H=>∃ xs ys x y,uD K k1 H a xs/\uD K k2 H b ys/\xs[i]?=some x/\ys[i]?=some y,
  fun i H v H'=>∃ p x y,v=.ref p/\H p=none/\H'=upd H p (.tup [x,y])/\(∀ xs,uD K k1 H a xs->xs[i]?=some x)/\∀ ys,uD K k2 H b ys->ys[i]?=some y,
  fun i H=>∃ xs ys,uD K k1 H a xs/\uD K k2 H b ys/\(xs.length<=i\/ys.length<=i)⟩
def VY(k1 k2:SK)(z TI TO i1 i2 a b:Addr)(i:Nat)(h:Heap):Prop :=
 IsZip h z TI TO .none/\IsPair h TI (.ref i1) (.ref i2)/\(∃ x y,IsPair h TO x y)/\stK k1 i1 a i h/\stK k2 i2 b i h
theorem og{k:SK}{h:Heap}{i:Nat}{aL:wf}(hh:∀ i,pj k a h i aL[i]?)(e:aL.length<=i):pj k a h i none:=by
 have q:=hh i;rw[List.getElem?_eq_none e]at q;exact q
theorem AF{K:zn}{elts:ut}{ek:Nat}{yl:Pos}{k1 k2:SK}{b TI TO:Addr}(D:ZipApart z TI TO i1 i2 a b) :
  Turn P w K (.Tuple elts ek yl) (QI K k1 k2 a b) [z,TI,TO,i1,i2] z (VY k1 k2 z TI TO i1 i2 a b) where
 mem:=by simp
 obj:=fun i h st c hc=>by
  obtain⟨hz,rN,⟨x,y,tW⟩,s1,s2⟩:=st;simp only[aaf,abx,adj]at hc;rcases hc with rfl | rfl | rfl | rfl | rfl
  ·exact⟨_,hz,fun v e=>nomatch e⟩
  ·exact⟨_,rN,fun v e=>nomatch e⟩
  ·exact⟨_,tW,fun v e=>nomatch e⟩
  ·exact(zu (prog:=P) (w:=w) k1 _ a).obj i h s1
  ·exact(zu (prog:=P) (w:=w) k2 _ b).obj i h s2
 keep:=fun i h h' st k=>by
  obtain⟨hz,rN,⟨x,y,tW⟩,s1,s2⟩:=st;exact⟨k z (by simp) _ hz,k TI (by simp) _ rN,⟨x,y,k TO (by simp) _ tW⟩,(zu (prog:=P) (w:=w) k1 _ a).keep i h h' s1 fun o e=>k i1 (by simp) o e,(zu (prog:=P) (w:=w) k2 _ b).keep i h h' s2 fun o e=>k i2 (by simp) o e⟩
 item:=by
  intro X hP hw hK hc i pins s σ H E I hf st hg;subst hP hw hK;obtain⟨hz,rN,⟨ta,tb,tW⟩,s1,s2⟩:=st;obtain⟨xs,ys,x,y,q1,q2,hx,hy⟩:=hg;obtain⟨DY,r1,z1,g1⟩:=I.yj q1;obtain⟨DZ,r2,z2,g2⟩:=I.yj q2;obtain⟨u1,VZ,QJ⟩:=r1.get hx;obtain⟨u2,V0,QK⟩:=r2.get hy;refine jP D (zu k1 i1 a) (zu k2 i2 b) hz rN tW s1 s2 (x:=u1) (y:=u2) (by rw[<- VZ];exact g1 i) (by rw[<- V0];exact g2 i) fun h' a1 a2 a3 a4 a5 a6 a7=>?_;refine⟨_,rfl,wpAny_letOwnedTupleGo_zip a1 fun h2 V1 nI=>?_⟩;have QL:s.heap.objs.size≠z:=abA (aah hz);have gn:∀ c o,s.heap.get? c=some o->s.heap.objs.size≠c:=fun c o e=>abA (aah e);have kp:∀ c o,c ∉ [z,TI,TO,i1,i2]->s.heap.get? c=some o->h2.get? c=some o:=fun c o hc e=>by
   simp only[aaf,abx,adj,not_or]at hc;exact nI.extBut _ _ hc.1 (a7 c o hc.1 hc.2.2.1 hc.2.2.2.1 hc.2.2.2.2 e)
  have I1:Inv X pins σ H { s with heap:=h2,toks:=s.toks }:=I.wK hf kp;have V2:IsPair h2 s.heap.objs.size u1 u2:=nI.extBut _ _ QL a5;have K7:H s.heap.objs.size=none:=I.bN.fresh (aae _);have I2:Inv X pins σ (upd H s.heap.objs.size (.tup [x,y])) { s with heap:=h2,toks:=s.toks } :=
   I1.Gk (t':=s.toks) (I.xW (aae _) K7) ⟨by show 2<=sizeLine;decide,[u1,u2],.cons QJ (.cons QK .nil),⟨_,V2,rfl,_,rfl⟩⟩
  refine⟨.ref s.heap.objs.size,_,I2,rfl,⟨_,x,y,rfl,K7,rfl,fun C5 h=>by rw[I.Gm h q1];exact hx,fun ys' h=>by rw[I.Gm h q2];exact hy⟩,?_,fun c hc=>?_⟩
  ·have e1:∀ c o,c≠z->h'.get? c=some o->h2.get? c=some o:=fun c o hc e=>nI.extBut _ _ hc e;exact⟨V1,e1 _ _ D.TIz (a7 _ _ D.TIz D.TITO D.TIi1 D.TIi2 rN),⟨_,_,e1 _ _ D.TOz a2⟩,(zu (prog:=X.prog) (w:=X.w) k1 _ a).keep _ _ _ a3 fun o e=>e1 _ _ D.i1z e,(zu (prog:=X.prog) (w:=X.w) k2 _ b).keep _ _ _ a4 fun o e=>e1 _ _ D.i2z e⟩
  ·have oh:c≠s.heap.objs.size:=by
    have:∃ o,s.heap.get? c=some o:=by
     simp only[aaf,abx,adj]at hc;rcases hc with rfl | rfl | rfl | rfl | rfl
     ·exact⟨_,hz⟩
     ·exact⟨_,rN⟩
     ·exact⟨_,tW⟩
     ·obtain⟨o,e,_⟩:=(zu (prog:=X.prog) (w:=X.w) k1 _ a).obj _ _ s1;exact⟨o,e⟩
     ·obtain⟨o,e,_⟩:=(zu (prog:=X.prog) (w:=X.w) k2 _ b).obj _ _ s2;exact⟨o,e⟩
    obtain⟨o,e⟩:=this;exact(gn c o e).symm
   rw[bc oh];exact(hf c hc).1
 done:=by
  intro X hP hw hK hc i pins s σ H E I hf st hg;subst hP hw hK;obtain⟨hz,rN,⟨ta,tb,tW⟩,s1,s2⟩:=st;obtain⟨xs,ys,q1,q2,he⟩:=hg;obtain⟨DY,r1,z1,g1⟩:=I.yj q1;obtain⟨DZ,r2,z2,g2⟩:=I.yj q2;have l1:=r1.length;have l2:=r2.length;have rO:pj k1 a s.heap i none\/(∃ x,pj k1 a s.heap i (some x))/\pj k2 b s.heap i none:=by
   by_cases h1:DY.length<=i
   ·exact .inl (og g1 h1)
   ·refine .inr ⟨⟨DY[i],?_⟩,og g2 (by omega)⟩;have q:=g1 i;rw[aak (by omega)]at q;exact q
  exact kN (I.ok.hd hc) D (zu k1 i1 a) (zu k2 i2 b) hz rN tW s1 s2 rO fun h' k=>⟨rfl,I.wK (t':=s.toks) hf fun c o hc e=>by
   simp only[aaf,abx,adj,not_or]at hc;exact k c o hc.1 hc.2.2.1 hc.2.2.2.1 hc.2.2.2.2 e⟩
 self:=fun _ _ _ _ _ st h=>wpAny_pyIter_zip st.1 h
def IU(K:zn)(k1 k2:SK)(ta:TA):TI:=fun σ H R=>ta σ H fun vs H1=>∃ a b,vs=[.ref a,.ref b]/\(∃ xs,uD K k1 H1 a xs)/\(∃ ys,uD K k2 H1 b ys)/\R (QI K k1 k2 a b) H1
theorem AG{σ:St}{xs:List V}(I:Inv X pins σ H s):∀{k:SK},uD X.K k H a xs->a < s.heap.objs.size
 | .L,h=>by
  obtain⟨aL,r,⟨o,n,ho,_⟩,z⟩:=I.list h;exact aah ho
 | .T,h=>by
  obtain⟨aL,r,⟨o,ho,_⟩,z⟩:=I.tuple h;exact aah ho
theorem IV(k1 k2:SK){elts:ut}{ek:Nat}{yl:Pos}{a b:Expr}{ta:TA}{p:Pos}(hg:Gl X "zip")(hm:X.mg "zip"=none)(ha:PA X [a,b] ta)(hs:starEach [a,b] X.env=[(false,eval a X.env),(false,eval b X.env)]:=by rfl)(nI:starEach [b] X.env=[(false,eval b X.env)]:=by rfl) :
  PI X (.Tuple elts ek yl) (.Call (.Name "zip" p) [a,b] [] pos) (IU X.K k1 k2 ta):=by
 intro pins s σ H R I h;refine Call_ (iY I hg hm boot_zip (abt (ck (ha pos pins s σ H _ I h) fun us s1 ⟨vs,H1,I1,r1,q1⟩=>?_) (by rw[hs,nI]) (by rw[nI];rfl)));obtain⟨l1,l2,e,⟨xs,T6⟩,⟨ys,T7⟩,q⟩:=q1;subst e;obtain⟨u1,u2,rfl,QJ,QK⟩:=vals2 r1;cases (show u1=Value.ref l1 from QJ);cases (show u2=Value.ref l2 from QK);obtain⟨DY,_,_,g1⟩:=I1.yj T6;obtain⟨DZ,_,_,g2⟩:=I1.yj T7;have e5:∀(h:Heap) (o:Obj),(h.push o).objs.size=h.objs.size+1:=fun h o=>aaW ..;refine yk (g1 0) (g2 0) ?_;refine wpAny_pyIter_zip (s:={ s1 with heap:=gg s1.heap (bG (lX k1) l1) (bG (lX k2) l2) }) iM ?_;have kp:∀ c o,s1.heap.get? c=some o->(gg s1.heap (bG (lX k1) l1) (bG (lX k2) l2)).get? c=some o:=fun c o x =>
  aac _ (aac _ (aac _ (aac _ (aac _ x))))
 refine⟨s1.heap.objs.size+4,[s1.heap.objs.size+4,s1.heap.objs.size+2,s1.heap.objs.size+3,s1.heap.objs.size,s1.heap.objs.size+1],_,_,H1,rfl,I1.kept (t':=s1.toks) kp,AF (PyProof.Rows.zipApart_new (AG I1 T6) (AG I1 T7)),?_,fun c hc=>?_,q⟩
 ·have g5:=iM (h:=s1.heap) (o1:=bG (lX k1) l1) (o2:=bG (lX k2) l2);have z1:(s1.heap.push (bG (lX k1) l1)).objs.size=s1.heap.objs.size+1:=e5 _ _;have z2:((s1.heap.push (bG (lX k1) l1)).push (bG (lX k2) l2)).objs.size=s1.heap.objs.size+2:=by rw[e5,z1]
  have p4:(gg s1.heap (bG (lX k1) l1) (bG (lX k2) l2)).get? (s1.heap.objs.size+3)=some { cls:=.type "tuple",data:=.seq #[.none,.none] }:=by
   unfold gg;refine aac _ ?_;have e:s1.heap.objs.size+3=(((s1.heap.push (bG (lX k1) l1)).push (bG (lX k2) l2)).push { cls:=.type "tuple",data:=.seq #[.ref s1.heap.objs.size,.ref (s1.heap.objs.size+1)] }).objs.size:=by rw[e5,z2]
   rw[e];exact aai _ rfl
  have p3:(gg s1.heap (bG (lX k1) l1) (bG (lX k2) l2)).get? (s1.heap.objs.size+2)=some { cls:=.type "tuple",data:=.seq #[.ref s1.heap.objs.size,.ref (s1.heap.objs.size+1)] }:=by
   unfold gg;refine aac _ (aac _ ?_);rw[<- z2];exact aai _ rfl
  have p2:(gg s1.heap (bG (lX k1) l1) (bG (lX k2) l2)).get? (s1.heap.objs.size+1)=some (bG (lX k2) l2):=by
   unfold gg;refine aac _ (aac _ (aac _ ?_));rw[<- z1];exact aai _ rfl
  have p1:(gg s1.heap (bG (lX k1) l1) (bG (lX k2) l2)).get? s1.heap.objs.size=some (bG (lX k1) l1):=by
   unfold gg;exact aac _ (aac _ (aac _ (aac _ (aai _ rfl))))
  refine⟨g5,p3,⟨_,_,p4⟩,?_,?_⟩
  ·cases k1<;>exact⟨_,p1,rfl,rfl⟩
  ·cases k2<;>exact⟨_,p2,rfl,rfl⟩
 ·have hle:s1.heap.objs.size<=c:=by
   simp only[aaf,abx,adj]at hc;rcases hc with rfl | rfl | rfl | rfl | rfl<;>omega
  exact I1.xW hle (I1.bN.fresh hle)
abbrev uE(w:World):List DictEntry->List (Key×V)->Prop:=Paired fun e kv=>lC kv.1 e.key=true/\e.hash=Ll w kv.1/\RelV kv.2 e.val
structure ym(K:zn)(w:World)(a:Addr)(bC:List (Key×V)):Prop where
 ex:∃(es:Array DictEntry) (ep:Nat),K.lookup a=some ⟨.type "dict",none,.dict es ep,#[]⟩/\uE w es.toList bC
 nd:(bC.map (·.1)).Nodup
 ne:(a == sysModules)=false
theorem uE.out{P:tz}{w:World}:∀{es:List DictEntry} {bC:List (Key×V)},uE w es bC->∃ vs,Pairs (fh P w) es vs/\KV bC vs
 | _,_,.nil=>⟨[],.nil,.nil⟩
 | _,_,.cons (a:=e) (b:=kv) h t=>by
  obtain⟨vs,p,r⟩:=uE.out (P:=P) t;exact⟨(kv.1,e.val)::vs,.cons h.1 rfl p,.cons ⟨rfl,h.2.2⟩ r⟩
theorem uE.keys{P:tz}{w:World}:∀{es:List DictEntry} {bC:List (Key×V)},uE w es bC->∀ e∈es,∃ k,(fh P w).is k e.key=true/\e.hash=(fh P w).hash k
 | _,_,.nil,e,he=>nomatch he
 | _,_,.cons (b:=kv) h t,e,he=>by
  rcases aaf.mp he with q | q
  ·subst q;exact⟨kv.1,h.1,h.2.1⟩
  ·exact uE.keys t e q
section
variable {σ:St}{bC:List (Key×V)}{k:Key}{v:V}{u:Value}
theorem ym.dict(I:Inv X pins σ H s)(m:ym X.K X.w a bC):∃ vs,KV bC vs/\s.heap.DictOf (fh X.prog X.w) a vs:=by
 obtain⟨⟨es,ep,hl,hm⟩,nd,_⟩:=m;obtain⟨vs,p,r⟩:=hm.out (P:=X.prog);exact⟨vs,r,_,es,ep,I.kh _ _ hl,⟨rfl,rfl,rfl⟩,rfl,fun e he=>hm.keys e (by simpa using he),p,by rw[<- r.keys];exact nd⟩
theorem yn{Q:xz}(I:Inv X pins σ H s)(m:ym X.K X.w a bC)(l:lM bC k=some v)(ry:RelV (kV k) u)(h:∀ w' s',Inv X pins σ H s'->RelV v w'->Q w' s') :
  wpAny (model X.prog X.w) A (getItem (.ref a) u) Q E s:=by
 obtain⟨vs,rel,dd⟩:=m.dict I;obtain⟨w',hw,DP⟩:=kJ.some_of (v:=v) (o:=valueAt vs k) (by rw[<- l];exact rel.val k);exact wpAny_getItem_of (LV ry) dd.mapOf hw (h w' _ (I.tok _) DP)
end
def AH(K:zn)(w:World)(td ty:TE):TE:=fun σ H Q=>td σ H fun x H1=>ty σ H1 fun y H2=>∃ a bC k v,x=.ref a/\ym K w a bC/\y=kV k/\lM bC k=some v/\Q v H2
section
variable {o i:Expr}{td ty:TE}
theorem D0(ho:PE X o td)(hi:PE X i ty)(hs:DH i):PE X (.Subscript o i pos) (AH X.K X.w td ty):=by
 intro pins s σ H Q I h;refine DI PySem.F.slot_dict_getitem.lookup hs (ck (ho pins s σ H _ I h) fun u s1 ⟨x,H1,I1,rx,q1⟩=>ck (hi pins s1 σ H1 _ I1 q1) fun iv s2 ⟨y,H2,I2,ry,a,bC,k,v,ex,m,ey,l,q2⟩=>?_);subst ex ey;obtain rfl:u=Value.ref a:=rx;obtain⟨vs,rel,dd⟩:=m.dict I2;exact⟨dd.typeIs,yn I2 m l ry fun w' s3 I3 DP=>⟨v,H2,I3,DP,q2⟩⟩
end
structure Dn(P:tz)(w:World)(K:zn)(mg:xL)(base:Heap)(k:Nat)(x:Str)(f:Addr)(fd:v6)(ps:ww)(sp:Sp):Prop where
 ok:aW P w K mg base cI k f fd ps sp
 b:Binds K fd ps []
 kp:PySem.W.keepIn K (.ref f)=true
 m:mg x=some (.ref f)
section
variable {k j:Nat}{f:Addr}{fd:v6}{ps:ww}{sp:Sp}{x:Str}{p:Pos}{e:Expr}{es:ut}{t:TA}
theorem AI(D:Dn X.prog X.w X.K X.mg X.base k x f fd ps sp)(hr:cB j X.A)(ha:PA X (e::es) t)(hk:k<=j:=by first | exact aae _ | decide | omega)(hg:Gl X x:=by rfl)(rG:(x == ("__debug__":Str))=false:=by decide)(he:starEach (e::es) X.env=(false,eval e X.env)::starEach es X.env:=by rfl)(lL:(backTo pos (starEach es X.env)).any (·.1)=false:=by rfl) :
  PE X (.Call (.Name x p) (e::es) [] pos) (wy sp [] E0 t):=DE D.ok (hr.mono hk) hg D.m D.kp D.b .nil wH ha rG he lL
end
theorem Mp{x:Str}{T:String}(hm:X.mg x=none)(hv:bootBuiltins x=some (.type T))(hg:Gl X x:=by rfl)(hn:x ≠ "__name__":=by decide)(hd:(x == ("__debug__":Str))=false:=by decide):PE X (.Name x pos) (tC (.ty T)):=Dp hg hm hv rfl hn hd
def Kp(t g:Addr)(H H':Hp):Prop:=∀ b o,H b=some o->b≠t->b≠g->H' b=some o
theorem kr:∀ ns:List Int,PyData.canLayAll0 (ns.map PyData.int)=true
 | []=>rfl
 | n::r=>by
  have h:=kr r;simp only[aaQ,PyData.canLayAll0,PyData.canLay0,h,Bool.and_self]
def Mq:PyData->String
 | .none => "NoneType"
 | .bool _ => "bool"
 | .int _ => "int"
 | .str _ => "str"
 | .list _ => "list"
 | .tuple _ => "tuple"
 | .dict _ => "dict"
theorem AJ{K:zn}:∀{d:PyData} {x:V},Rep H d x->jg K H x (.type (Mq d))
 | .none,_,h=>by cases h;exact .cD
 | .bool b,_,h=>by cases h;exact .bl b
 | .int i,_,h=>by cases h;exact .int i
 | .str s,_,h=>by cases h;exact .str s
 | .list ds,_,⟨a,xs,e,h,_⟩=>by subst e;exact .lst h
 | .tuple ds,_,⟨a,xs,e,h,_⟩=>by subst e;exact .tup h
 | .dict _,_,h=>h.elim
def Mr(d:PyData)(T:String):Bool:=Mq d == T||(Mq d == "bool"&&T == "int")
theorem Ea{K:zn}{T:String}(hT:T = "bool"\/T = "int"\/T = "str"\/T = "list"\/T = "tuple"):∀{d:PyData} {x:V},Rep H d x->PySem.W.kitOne K (.type (Mq d)) (.type T)=some (Mr d T)
 | .none,_,_=>by rcases hT with rfl | rfl | rfl | rfl | rfl<;>rfl
 | .bool b,_,_=>by rcases hT with rfl | rfl | rfl | rfl | rfl<;>rfl
 | .int i,_,_=>by rcases hT with rfl | rfl | rfl | rfl | rfl<;>rfl
 | .str s,_,_=>by rcases hT with rfl | rfl | rfl | rfl | rfl<;>rfl
 | .list ds,_,_=>by rcases hT with rfl | rfl | rfl | rfl | rfl<;>rfl
 | .tuple ds,_,_=>by rcases hT with rfl | rfl | rfl | rfl | rfl<;>rfl
 | .dict _,_,h=>h.elim
section
def Eb(T:String):List V->Hp->VK->Prop:=fun xs H Q=>∃ x d,xs=[x,.ty T]/\Rep H d x/\Q (.bl (Mr d T)) H
theorem yo(T:String)(hT:T = "bool"\/T = "int"\/T = "str"\/T = "list"\/T = "tuple"):eE X (.builtin "isinstance") (Eb T):=by
 intro pins s σ H xs us Q I rv ⟨x,d,e,r,q⟩;exact rM pins s σ H xs us Q I rv ⟨x,T,.type (Mq d),Mr d T,e,AJ r,Ea hT r,q⟩
variable {e:Expr}{te:TE}{p pi:Pos}{x:Str}
theorem IW(T:String)(mi:X.mg "isinstance"=none)(mT:X.mg x=none)(hb:bootBuiltins x=some (.type T))(he:PE X e te)(hT:T = "bool"\/T = "int"\/T = "str"\/T = "list"\/T = "tuple":=by simp)(gi:Gl X "isinstance":=by rfl)(gT:Gl X x:=by rfl)(hn:x ≠ "__name__":=by decide)(hd:(x == ("__debug__":Str))=false:=by decide)(h1:starEach [e,.Name x p] X.env=(false,eval e X.env)::starEach [.Name x p] X.env:=by rfl) :
  PE X (.Call (.Name "isinstance" pi) [e,.Name x p] [] pos) (Ir (Eb T) (lK te (lK (tC (.ty T)) o6))) :=
 rJ (yo T hT) gi mi PyProof.Rows.boot_isinstance (lg he (lg (Mp mT hb gT hn hd) uu rfl) h1) (by decide) (by decide) h1 rfl
end
end L2
namespace L2
open PySem PySem.Spec PyProof.Rows
variable {tg:Expr}{k:Nat}{r2:R2}{op:CmpOp}{T:String}
mutual
def Sm:PyData->Prop
 | .list ds=>ds.length < 1000000/\AK ds
 | .tuple ds=>ds.length < 1000000/\AK ds
 | _=>True
def AK:wP->Prop
 | []=>True
 | d::ds=>Sm d/\AK ds
end
def pk:Expr->Option V
 | .Constant (.str x) _ _=>some (.str x)
 | .Constant (.int i) _ _=>some (.int i)
 | .Constant (.bool b) _ _=>some (.bl b)
 | .Constant .none _ _=>some .cD
 | _=>none
def jm:ut->Option (List V)
 | []=>some []
 | e::r=>match pk e,jm r with
  | some v,some vs=>some (v::vs)
  | _,_=>none
def tK(vs:List V):TA:=fun _ H Q=>Q vs H
theorem uF(e:Expr)(es:ut)(env:Env)(h:(pk e).isSome=true):starEach (e::es) env=(false,eval e env)::starEach es env:=by
 cases e with
 | Constant c j pos=>rfl
 | _=>exact absurd h aaj
theorem yq{X:Cx}{e:Expr}{v:V}(h:pk e=some v):PE X e (tC v):=by
 cases e with
 | Constant c j pos =>
  cases c with
  | str x=>cases h;exact zI
  | int i=>cases h;exact zG
  | bool b=>cases h;exact FY
  | none=>cases h;exact zH
  | _=>exact nomatch h
 | _=>exact nomatch h
theorem oi{X:Cx}:∀{es:ut} {vs:List V},jm es=some vs->PA X es (tK vs)
 | [],vs,h=>by cases h;exact uu
 | e::r,vs,h=>by
  unfold jm at h;cases h1:pk e with
  | none=>rw[h1]at h;cases h
  | some v =>
   cases h2:jm r with
   | none=>rw[h1,h2]at h;cases h
   | some ws =>
    rw[h1,h2]at h;cases h;exact lg (yq h1) (oi h2) (uF e r X.env (by rw[h1];rfl))
structure SE(X:Cx)(e:Expr)(t:TE):Prop where
 run:PE X e t
structure ST(X:Cx)(e:Expr)(t:TT):Prop where
 run:PT X e t
structure SW(X:Cx)(e:Expr)(t:TT):Prop where
 run:PW X e t
structure SA(X:Cx)(es:ut)(t:TA):Prop where
 run:PA X es t
structure SS(X:Cx)(st:Stmt)(t:TS):Prop where
 run:PS X st t
structure rV(X:Cx)(st:u8)(t:TS):Prop where
 run:v7 X st t
structure SG(X:Cx)(e:Expr)(t:TG):Prop where
 run:PG X e t
structure Pe(X:Cx)(e:ut)(t:tV):Prop where
 run:K2 X e t
structure SI(X:Cx)(tg e:Expr)(t:TI):Prop where
 run:PI X tg e t
structure SO(X:Cx)(e:Option Expr)(t:TO):Prop where
 run:PO X e t
def noStar:Expr->Bool
 | .Starred _ _=>false
 | _=>true
theorem bX{e:Expr}(es:ut)(env:Env)(h:noStar e=true):starEach (e::es) env=(false,eval e env)::starEach es env:=by
 cases e with
 | Starred _ _=>exact nomatch h
 | _=>rfl
theorem eI{pos:Pos}{env:Env}:∀{es:ut},es.all noStar=true->(backTo pos (starEach es env)).any (·.1)=false
 | [],_=>rfl
 | e::r,h=>by
  rw[aaK,aas]at h;rw[bX r env h.1];have q:=eI (pos:=pos) (env:=env) h.2;unfold backTo at q ⊢;simpa using q
section
variable {X:Cx}{st:Stmt}{rest a b:u8}{t u:TS}{e c l r o i:Expr}{es:ut}{te ta tb tc to ti tl tr:TE}{tt tu:TT}{ts:TA}{pos p pos' apos eS:Pos}{j:Nat}{x:Str}
theorem az:rV X [] zP:=⟨Dt⟩
theorem ae(h1:SS X st t)(h2:rV X rest u):rV X (st::rest) (HI t u):=⟨zQ h1.run h2.run⟩
theorem ai(h1:SS X st t):rV X [st] t:=⟨Du h1.run⟩
theorem ax(he:SE X e te):SS X (.Return (some e) pos) (HJ te):=⟨HK he.run⟩
theorem dO(he:SE X e te)(hs:swapsWith e none pos.line X.env=pure false:=by rfl):SS X (.Expr e pos) (zR te):=⟨Dv he.run hs⟩
theorem aU(hc:ST X c tt)(ha:rV X a t)(hb:rV X b u):SS X (.If c a b pos) (HL tt t u):=⟨Lz hc.run ha.run hb.run⟩
theorem aC(i:Nat)(hN:X.N.Nodup)(he:SE X e te)(hi:X.N[i]?=some x:=by rfl)(hx:Loc X.env.scope x:=by first | exact Or.inl rfl | exact Or.inr rfl)(hs:swapsWith e (some (.Name x pos')) pos.line X.env=pure false:=by rfl)(hf:X.fn x=true\/X.env.scope.names.lookup x=some .local:=by first | exact .inl rfl | exact .inr rfl | assumption):SS X (.Assign [.Name x pos'] e pos) (ug te (lF i)):=⟨HW hN hi hx he.run hs hf⟩
theorem jo{g:TG}(he:SE X e te)(hg:SG X tg g)(hs:swapsWithSole [tg] e pos.line X.env=pure false:=by rfl)(hw:swappedStores [tg] e X.env=pure none:=by rfl)(h1:(assignEach [tg] X.env).map (·.2)=[assign tg X.env]:=by rfl):SS X (.Assign [tg] e pos) (ug te g):=⟨HV he.run hg.run hs hw h1⟩
theorem Ec{body:u8}{tb:TS}(hc:ST X c tt)(hb:rV X body tb)(hp:PassesOwn (model X.prog X.w) X.A X.env X.xe:=by exact PassesOwn.never):SS X (.While c body [] pos) (uh tt tb):=⟨zU hp hc.run hb.run⟩
theorem oj{iter:Expr}{body:u8}{wi:TI}{g:TG}{tb:TS}(hi:SI X tg iter wi)(hg:SG X tg g)(hb:rV X body tb)(hp:PassesOwn (model X.prog X.w) X.A X.env X.xe:=by exact PassesOwn.never)(hc:X.calm=true:=by rfl)(hs:∀ x,foldedSetIterable iter X.env x=pure x:=by intro _;rfl):SS X (.For tg iter body [] pos) (HX wi g tb):=⟨HY hp hc hi.run hg.run hb.run hs⟩
theorem a9(i:Nat)(hN:X.N.Nodup)(hi:X.N[i]?=some x:=by rfl)(hx:Loc X.env.scope x:=by first | exact Or.inl rfl | exact Or.inr rfl)(hf:X.fn x=true\/X.env.scope.names.lookup x=some .local:=by first | exact .inl rfl | exact .inr rfl | assumption):SG X (.Name x pos) (lF i):=⟨Dx hN hi hx hf⟩
theorem om{t:Dw}(ho:SE X o to)(hi:SE X i ti)(hs:HN X t)(ha:∀ v,assign (.Subscript o i pos) X.env v=(do
   let ov <- holding [v] (eval o X.env)
   let iv <- holding [v,ov] (eval i X.env)
   standAt pos
   holding [v,ov,iv] (setItem ov iv v)
   release [v,ov,iv] []):=by intro _;rfl):SG X (.Subscript o i pos) (HR to ti t):=⟨HU ho.run hi.run hs ha⟩
theorem gD:Pe X [] HP:=⟨Dy⟩
theorem bh{tg:TG}{Ms:tV}(h1:SG X e tg)(h2:Pe X es Ms)(hs:(assignEach (e::es) X.env).map (·.2)=assign e X.env::(assignEach es X.env).map (·.2):=by rfl):Pe X (e::es) (zS tg Ms):=⟨zT h1.run h2.run hs⟩
theorem g9(hl:SE X l tl):SI X tg l (zV X.K tl):=⟨Dz hl.run⟩
theorem gu(hm:X.mg "range"=none)(ha:SA X [e] ts)(hn:noStar e=true:=by rfl)(hg:Gl X "range":=by rfl):SI X tg (.Call (.Name "range" p) [e] [] pos) (zX ts) :=
 ⟨xY hg hm ha.run (bX [] X.env hn)⟩
theorem Gn(k1 k2:SK){elts:ut}{ek:Nat}{yl:Pos}(hm:X.mg "zip"=none)(ha:SA X [e,c] ts)(hn:noStar e=true:=by rfl)(Gb:noStar c=true:=by rfl)(hg:Gl X "zip":=by rfl) :
  SI X (.Tuple elts ek yl) (.Call (.Name "zip" p) [e,c] [] pos) (IU X.K k1 k2 ts) :=
 ⟨IV k1 k2 hg hm ha.run (by rw[bX [c] X.env hn,bX [] X.env Gb];rfl) (bX [] X.env Gb)⟩
theorem ag:SA X [] o6:=⟨uu⟩
theorem aa(ha:SE X e te)(hr:SA X es ts)(hs:noStar e=true:=by rfl):SA X (e::es) (lK te ts):=⟨lg ha.run hr.run (bX es X.env hs)⟩
theorem cM{vs:List V}(h:jm es=some vs):SA X es (tK vs):=⟨oi h⟩
theorem bg(h:SA X es ts):SE X (.Tuple es k pos) (Il ts):=⟨Io h.run⟩
theorem bM(h:SA X es ts):SE X (.List es pos) (Ah ts):=⟨Ip h.run⟩
theorem ah(i:Nat)(hN:X.N[i]?=some x:=by rfl)(hv:OW X.env.scope x:=by first | exact Or.inl rfl | exact Or.inr (Or.inl rfl) | exact Or.inr (Or.inr rfl))(hd:(x == ("__debug__":Str))=false:=by decide)(xU:(x == ("__classdict__":Str))=false:=by decide):SE X (.Name x pos) (Hu i):=⟨Hv hN hv hd xU⟩
theorem af{n:Int}:SE X (.Constant (.int n) j pos) (tC (.int n)):=⟨zG⟩
theorem rW{k:Bool}:SE X (.Constant (.bool k) j pos) (tC (.bl k)):=⟨FY⟩
theorem dJ:SE X (.Constant .none j pos) (tC .cD):=⟨zH⟩
theorem aE{s:Str}:SE X (.Constant (.str s) j pos) (tC (.str s)):=⟨zI⟩
theorem Mt{a:Addr}(hm:X.mg x=some (.ref a))(hg:Gl X x:=by rfl)(hd:(x == ("__debug__":Str))=false:=by decide):SE X (.Name x pos) (tC (.ref a)):=⟨v8 hg hm rfl hd⟩
theorem Gp{n:Int}{tk:Tok}(hm:X.mg x=some (.int n tk))(hg:Gl X x:=by rfl)(hd:(x == ("__debug__":Str))=false:=by decide):SE X (.Name x pos) (tC (.int n)):=⟨v8 hg hm ⟨tk,rfl⟩ hd⟩
theorem aQ{op:Operator}(ho:gq X (binaryOp op) r2)(ha:SE X l tl)(hb:SE X r tr):SE X (.BinOp l op r pos) (xZ r2 tl tr):=⟨LH ho ha.run hb.run⟩
theorem Mv{op:UnaryOp}{r1:V->Hp->VK->Prop}(ho:O3 X (unaryOp op) r1)(ha:SE X l tl):SE X (.UnaryOp op l pos) (O4 r1 tl):=⟨LJ ho ha.run⟩
theorem gw(ho:gq X (compareOp op) r2)(ha:SE X l tl)(hb:SE X r tr)(h1:op≠.In:=by decide)(h2:op≠.NotIn:=by decide):SE X (.Compare l [op] [r] pos) (xZ r2 tl tr):=⟨wj ho ha.run hb.run (Ac r h1 h2)⟩
theorem aF(ho:gq X (compareOp op) r2)(ha:SE X l tl)(hb:SE X r tr)(h1:op≠.In:=by decide)(h2:op≠.NotIn:=by decide):ST X (.Compare l [op] [r] pos) (wm (xZ r2 tl tr)):=⟨wu ho ha.run hb.run (Ac r h1 h2)⟩
theorem Mw(ho:gq X (compareOp op) r2)(ha:SE X l tl)(hb:SE X r tr)(hm:behindInMarks op r=false:=by with_unfolding_all rfl):SE X (.Compare l [op] [r] pos) (xZ r2 tl tr):=⟨wj ho ha.run hb.run hm⟩
theorem AL(ho:gq X (compareOp op) r2)(ha:SE X l tl)(hb:SE X r tr)(hm:behindInMarks op r=false:=by with_unfolding_all rfl):ST X (.Compare l [op] [r] pos) (wm (xZ r2 tl tr)):=⟨wu ho ha.run hb.run hm⟩
theorem Gq(ha:SE X l tl):SE X (.Compare l [.Is] [.Constant .none k pos'] pos) (Dq tl):=⟨Hw (zK ha.run)⟩
theorem iW(ha:SE X l tl):ST X (.Compare l [.Is] [.Constant .none k pos'] pos) (tB (Dq tl)):=⟨zL (zK ha.run)⟩
theorem lZ(ha:SE X l tl):ST X (.Compare l [.IsNot] [.Constant .none k pos'] pos) (tB (zJ tl)):=⟨zL (Dr ha.run)⟩
theorem Ed{Ie:CmpOp}{r1:R2}(ho:gq X (compareOp op) r1)(zE:gq X (compareOp Ie) r2)(ha:SE X l tl)(hb:SE X r tr)(hc:SE X c tc)(hm:lastMarks [op,Ie] [r,c]=false:=by with_unfolding_all rfl):SE X (.Compare l [op,Ie] [r,c] pos) (uk r1 r2 tl tr tc):=⟨Ad ho zE ha.run hb.run hc.run hm⟩
theorem dP(ha:ST X e tt):SW X (.BoolOp .And [e] pos) tt:=⟨Ds ha.run⟩
theorem rX(ha:ST X e tt):SW X (.BoolOp .Or [e] pos) tt:=⟨HA ha.run⟩
theorem w_and(ha:ST X e tt)(hb:SW X (.BoolOp .And (c::es) pos) tu):SW X (.BoolOp .And (e::c::es) pos) (Hy tt tu):=⟨HB ha.run hb.run⟩
theorem w_or(ha:ST X e tt)(hb:SW X (.BoolOp .Or (c::es) pos) tu):SW X (.BoolOp .Or (e::c::es) pos) (Qf tt tu):=⟨Lw ha.run hb.run⟩
theorem qW(h:SW X e tt):ST X e tt:=⟨h.run.pt⟩
theorem ku(ha:ST X e tt):ST X (.UnaryOp .Not e pos) (Hz tt):=⟨HC ha.run⟩
theorem pv(h:SE X e te)(he:∀ whole,isTrue e X.env whole=(do let v <- whole;standAt e.pos;holding [v] (truthy v)):=by intro _;rfl):ST X e (tB te):=⟨Hx h.run he⟩
theorem wL{op:BoolOp}(h:SE X e te):SE X (.BoolOp op [e] pos) te:=⟨HF h.run⟩
theorem AM(ha:SE X e te)(hb:SE X (.BoolOp .And (c::es) pos) tb):SE X (.BoolOp .And (e::c::es) pos) (zM te tb):=⟨HG ha.run hb.run⟩
theorem QM(ha:SE X e te)(hb:SE X (.BoolOp .Or (c::es) pos) tb):SE X (.BoolOp .Or (e::c::es) pos) (HE te tb):=⟨Lx ha.run hb.run⟩
theorem Mx(ha:SE X e te):SE X (.UnaryOp .Not e pos) (zN te):=⟨HH ha.run⟩
theorem px(hc:ST X c tt)(ha:SE X l tl)(hb:SE X r tr):SE X (.IfExp c l r pos) (Qg tt tl tr):=⟨zO hc.run ha.run hb.run⟩
theorem aj(ha:SE X l tl)(hb:SE X r tr)(hs:wD r:=by exact fun _ _=>rfl):SE X (.Subscript l r pos) (xZ (Pa X.K) tl tr):=⟨LY Iz ha.run hb.run hs⟩
theorem IY(ha:SE X l tl)(hb:SE X r tr)(hs:DH r:=by exact fun _ _=>rfl):SE X (.Subscript l r pos) (AH X.K X.w tl tr):=⟨D0 ha.run hb.run hs⟩
theorem l0:SO X none o7:=⟨DL⟩
theorem l4(h:SE X e te):SO X (some e) (Am te):=⟨DM h.run⟩
theorem AN{lo hi:Option Expr}{T8 T9:TO}{r4:V->ul->ul->Hp->VK->Prop}(hr:O9 X r4)(he:SE X e te)(hl:SO X lo T8)(hu:SO X hi T9):SE X (.Subscript e (.Slice lo hi none p) pos) (Qp r4 te T8 T9):=⟨An hr he.run hl.run hu.run⟩
theorem au{f:Addr}{fd:v6}{ps:ww}{sp:Sp}(D:Dn X.prog X.w X.K X.mg X.base k x f fd ps sp)(hr:cB j X.A)(ha:SA X (e::es) ts)(hk:k<=j:=by first | exact aae _ | decide | omega)(hs:(e::es).all noStar=true:=by rfl)(hg:Gl X x:=by rfl)(rG:(x == ("__debug__":Str))=false:=by decide):SE X (.Call (.Name x p) (e::es) [] pos) (wy sp [] E0 ts) :=
 ⟨AI D hr ha.run hk hg rG (bX es X.env (by rw[aaK,aas]at hs;exact hs.1)) (eI (by rw[aaK,aas]at hs;exact hs.2))⟩
theorem cE{id:String}{rr:List V->Hp->VK->Prop}(hc:eE X (.builtin id) rr)(hm:X.mg x=none)(hv:bootBuiltins x=some (.builtin id))(ha:SA X (e::es) ts)(hs:(e::es).all noStar=true:=by rfl)(hg:Gl X x:=by rfl)(hn:x ≠ "__name__":=by decide)(rG:(x == ("__debug__":Str))=false:=by decide) :
  SE X (.Call (.Name x p) (e::es) [] pos) (Ir rr ts) :=
 ⟨rJ hc hg hm hv ha.run hn rG (bX es X.env (by rw[aaK,aas]at hs;exact hs.1)) (eI (by rw[aaK,aas]at hs;exact hs.2))⟩
theorem cO{rr:List V->Hp->VK->Prop}(hc:eE X (.type T) rr)(hm:X.mg x=none)(hv:bootBuiltins x=some (.type T))(ha:SA X (e::es) ts)(hs:(e::es).all noStar=true:=by rfl)(hg:Gl X x:=by rfl)(hn:x ≠ "__name__":=by decide)(rG:(x == ("__debug__":Str))=false:=by decide) :
  SE X (.Call (.Name x p) (e::es) [] pos) (Ir rr ts) :=
 ⟨yd hc hg hm hv ha.run hn rG (bX es X.env (by rw[aaK,aas]at hs;exact hs.1)) (eI (by rw[aaK,aas]at hs;exact hs.2))⟩
theorem kO{name:Str}{id:String}{rr:V->List V->Hp->VK->Prop}(pa:PlainAttrs T)(slot:Slot T name id)(Qu:typeOf (.builtin id)=pure (.type "method_descriptor"))(hm:TY X id rr)(ho:SE X o to)(ha:SA X (e::es) ts)(hs:(e::es).all noStar=true:=by rfl)(Aq:attributeBase o name X.env (eval o X.env)=eval o X.env:=by rfl)(ID:((backTo eS (starEach (e::es) X.env)).all (fun x=>!x.1)&&(backToKw eS (keywordEach [] X.env)).all (fun x=>x.1.isSome)
   && decide ((e::es).length+([]:List Keyword).length+(if([]:List Keyword).isEmpty then 0 else 1) < 30))=true:=by rfl)(Ar:(apos.endLine == eS.line)=true:=by rfl):SE X (.Call (.Attribute o name apos) (e::es) [] eS) (Qt X.K T rr to ts) :=
 ⟨L4 pa slot Qu hm ho.run ha.run Aq ID Ar (bX es X.env (by rw[aaK,aas]at hs;exact hs.1)) (eI (by rw[aaK,aas]at hs;exact hs.2))⟩
theorem wM(mi:X.mg "isinstance"=none)(mT:X.mg x=none)(hb:bootBuiltins x=some (.type T))(he:SE X e te)(hT:T = "bool"\/T = "int"\/T = "str"\/T = "list"\/T = "tuple":=by simp)(h1:noStar e=true:=by rfl)(gi:Gl X "isinstance":=by rfl)(gT:Gl X x:=by rfl)(hn:x ≠ "__name__":=by decide)(hd:(x == ("__debug__":Str))=false:=by decide) :
  SE X (.Call (.Name "isinstance" pos') [e,.Name x p] [] pos) (Ir (Eb T) (lK te (lK (tC (.ty T)) o6))):=⟨IW T mi mT hb he.run hT gi gT hn hd (bX [.Name x p] X.env h1)⟩
end
theorem cA.K8{P:tz}{w:World}{K:zn}{mg:xL}{base:Heap}{x qual:Str}{st:Stmt}{f:Addr}{fd:v6}{N ps:ww}{sp:Sp}(F:cA K x qual st f fd)(S:ay N ps (defScope st))(len:∀ vs H Q E,sp vs H Q E->vs.length=ps.length)(cY:∀(bq:Value) (A:t0) (outer:List Env) (s:Shared) (H:Hp) (vs:List V) (Q:VK) (E:XK),cB k (A.deeper (envOfC qual (defScope st) s.heap.objs.size f bq))->sp vs H Q E ->
   ∃ t,rV (fj cI P w K mg base N qual (defScope st) f bq A outer s H E).zq (defBody st) t/\t { nx:=fun _ H'=>Q .cD H',rt:=Q } (start N vs) H):aW P w K mg base cI (k+1) f fd ps sp :=
 F.ok S len fun bq A outer s H vs Q E hr h=>by
  obtain⟨t,h1,h2⟩:=cY bq A outer s H vs Q E hr h;exact⟨t,h1.run,h2⟩
end L2
namespace L2
open PySem PySem.Spec PyProof.Rows
variable {env:Env}{scope:Scope}{cells:List (Str×Addr)}{x:Str}{c:Addr}{s:Shared}{X:Cx}{N':ww}{ix:List (Option Nat)}{pins:yp}{H H':Hp}{elt iter:Expr}{ifs:ut}{pos:Pos}{tt:TT}{g:TG}{te:TE}{A B p:Prop}
def gE(cells:List (Str×Addr)):List (Str×NameKind)->List (Str×Addr)->List (Str×Addr)
 | [],cs=>cs
 | (n,k)::r,cs=>gE cells r (if k == .free then(match cells.lookup n with | some a=>(n,a)::cs | none=>cs)else cs)
theorem oo{env:Env}:∀(ns:List (Str×NameKind)) (cs:List (Str×Addr)),(∀ y∈ns,y.2=.free->∃ c,env.cells.lookup y.1=some c) ->
  (forIn ns cs fun x r=>match x with | (name,kind)=>if(kind == NameKind.free)=true then do let a <- cellOf env name;pure (ForInStep.yield ((name,a)::r))else pure (ForInStep.yield r))=(pure (gE env.cells ns cs):Sem (List (Str×Addr)))
 | [],cs,_=>rfl
 | (n,k)::r,cs,h=>by
  have ih:=fun V3=>oo (env:=env) r V3 fun y hy=>h y (aan _ hy);rw[adb];cases hk:k == NameKind.free with
  | false =>
   have e:gE env.cells ((n,k)::r) cs=gE env.cells r cs:=by simp[gE,hk]
   rw[e,<- ih cs];simp[hk]
  | true =>
   have AO:k=.free:=by simpa using hk
   obtain⟨c,hc⟩:=h (n,k) aaw AO;have zF:env.cells.lookup n=some c:=hc;have e:gE env.cells ((n,k)::r) cs=gE env.cells r ((n,c)::cs):=by simp[gE,hk,zF]
   rw[e,<- ih ((n,c)::cs)];have V4:cellOf env n=pure c:=by unfold cellOf;rw[zF]
   simp[hk,V4]
theorem l5(h:∀ y∈scope.names,y.2=.free->∃ c,env.cells.lookup y.1=some c):closureFor scope env=pure (gE env.cells scope.names []):=by
 unfold closureFor;have:=oo (env:=env) scope.names [] h;simp only at this ⊢;rw[this]
 rfl
theorem pA{cells:List (Str×Addr)}{x:Str}{c:Addr}:∀(ns:List (Str×NameKind)) (cs:List (Str×Addr)),(∀ z d,cs.lookup z=some d->cells.lookup z=some d)->(gE cells ns cs).lookup x=some c->cells.lookup x=some c
 | [],cs,h,e=>h x c e
 | (n,k)::r,cs,h,e=>by
  refine pA r _ (fun z d=>?_) e;split
  ·split
   ·rename_i a ha;intro q;rw[aaM]at q;split at q
    ·rename_i hz;have:z=n:=by simpa using hz
     subst this;cases q;exact ha
    ·exact h z d q
   ·exact h z d
  ·exact h z d
theorem ll{cells:List (Str×Addr)}{x:Str}:∀(ns:List (Str×NameKind)) (cs:List (Str×Addr)),((cs.lookup x).isSome=true\/((x,NameKind.free)∈ns/\(cells.lookup x).isSome=true))->((gE cells ns cs).lookup x).isSome=true
 | [],cs,h=>by
  rcases h with h | ⟨h,_⟩
  ·exact h
  ·cases h
 | (n,k)::r,cs,h=>by
  refine ll r _ ?_;have keep:(cs.lookup x).isSome=true->((if k == .free then(match cells.lookup n with | some a=>(n,a)::cs | none=>cs)else cs).lookup x).isSome=true:=fun q=>by
   split
   ·split
    ·rw[aaM];split
     ·rfl
     ·exact q
    ·exact q
   ·exact q
  rcases h with h | ⟨h,hc⟩
  ·exact .inl (keep h)
  ·rcases aaf.mp h with e | e
   ·injection e with e1 e2
    subst e1;subst e2;left;cases q:cells.lookup x with
    | none=>rw[q]at hc;cases hc
    | some a=>simp
   ·exact .inr ⟨e,hc⟩
theorem jq{env:Env}{x:Str}{k':NameKind}:∀{names:List (Str×NameKind)},(names.map fun(n,k)=>if(k == NameKind.free&&env.scope.kind == .function&&env.kindOf n == some .cell) then(n,NameKind.cell) else(n,k)).lookup x=some k' ->
  ∃ k,(x,k)∈names/\(k'=k\/(k=.free/\k'=.cell))
 | [],h=>by simp at h
 | (n,k)::r,h=>by
  have ih:=@jq env x k' r;rw[aaQ]at h
  by_cases hc:(k == NameKind.free&&env.scope.kind == .function&&env.kindOf n == some .cell)=true
  ·simp only[hc,acq,aaM]at h;split at h
   ·rename_i hz;have:x=n:=by simpa using hz
    subst this;cases h;have hk:k=.free:=by
     rw[aas,aas]at hc;simpa using hc.1.1
    exact⟨k,aaw,.inr ⟨hk,rfl⟩⟩
   ·obtain⟨k2,m,q⟩:=ih h;exact⟨k2,aan _ m,q⟩
  ·simp only[hc,acn,adh,aaM]at h;split at h
   ·rename_i hz;have:x=n:=by simpa using hz
    subst this;cases h;exact⟨_,aaw,.inl rfl⟩
   ·obtain⟨k2,m,q⟩:=ih h;exact⟨k2,aan _ m,q⟩
theorem mem_of_lookup{x:Str}{k:NameKind}:∀(l:List (Str×NameKind)),l.lookup x=some k->(x,k)∈l
 | [],q=>by cases q
 | (n,k2)::r,q=>by
  rw[aaM]at q;split at q
  ·rename_i hz;have:x=n:=by simpa using hz
   subst this;cases q;exact aaw
  ·exact aan _ (mem_of_lookup r q)
theorem jQ{x:Str}{c:Addr}:∀(names:List (Str×NameKind)) (n:Nat) (acc:List (Str×Addr)),(cellsFrom n names acc).lookup x=some c->acc.lookup x=some c\/(n<=c/\(x,NameKind.cell)∈names)
 | [],_,_,h=>.inl h
 | (y,k)::r,n,acc,h=>by
  unfold cellsFrom at h;split at h
  ·rename_i hk;have AO:k=.cell:=by simpa using hk
   rcases jQ r _ _ h with q | ⟨q,m⟩
   ·rw[aaM]at q;split at q
    ·rename_i hz;have:x=y:=by simpa using hz
     subst this;subst AO;cases q;exact .inr ⟨aae _,aaw⟩
    ·exact .inl q
   ·exact .inr ⟨aam (abk _) q,aan _ m⟩
  ·exact(jQ r _ _ h).imp id fun⟨a,b⟩=>⟨a,aan _ b⟩
theorem hU{x:Str}:∀(names:List (Str×NameKind)) (n:Nat) (acc:List (Str×Addr)),(x,NameKind.cell) ∉ names->(cellsFrom n names acc).lookup x=acc.lookup x
 | [],_,_,_=>rfl
 | (y,k)::r,n,acc,h=>by
  have hr:(x,NameKind.cell) ∉ r:=fun z=>h (aan _ z);unfold cellsFrom;split
  ·rename_i hk;have AO:k=.cell:=by simpa using hk
   rw[hU r _ _ hr,aaM];split
   ·rename_i hz;have:x=y:=by simpa using hz
    subst this;subst AO;exact absurd aaw h
   ·rfl
  ·exact hU r _ _ hr
theorem uG{x:Str}:∀(names:List (Str×NameKind)) (n:Nat) (acc:List (Str×Addr)),((acc.lookup x).isSome=true\/(x,NameKind.cell)∈names)->((cellsFrom n names acc).lookup x).isSome=true
 | [],_,_,h=>h.elim id fun z=>nomatch z
 | (y,k)::r,n,acc,h=>by
  unfold cellsFrom;split
  ·rename_i hk;refine uG r _ _ ?_;rcases h with h | h
   ·left;rw[aaM];split
    ·rfl
    ·exact h
   ·rcases aaf.mp h with e | e
    ·injection e with e1 _
     left;rw[e1,aaM,ac5]
     rfl
    ·exact .inr e
  ·rename_i hk;refine uG r _ _ (h.imp id fun z=>?_);rcases aaf.mp z with e | e
   ·injection e with _ e2
    rw[<- e2]at hk;exact absurd rfl hk
   ·exact e
theorem uH{x:Str}{c:Addr}:∀(names:List (Str×NameKind)) (n:Nat) (acc:List (Str×Addr)),((x,NameKind.cell)∈names\/∀ d,acc.lookup x=some d->n<=d)->(cellsFrom n names acc).lookup x=some c->n<=c
 | [],_,_,h,e=>h.elim (fun z=>nomatch z) fun z=>z c e
 | (y,k)::r,n,acc,h,e=>by
  unfold cellsFrom at e;split at e
  ·rename_i hk
   by_cases hm:(x,NameKind.cell)∈r
   ·exact aam (abk _) (uH r _ _ (.inl hm) e)
   ·rw[hU r _ _ hm,aaM]at e;split at e
    ·cases e;exact aae _
    ·rename_i hz;rcases h with h | h
     ·rcases aaf.mp h with q | q
      ·injection q with q1 _
       rw[q1,ac5]at hz;cases hz
      ·exact absurd q hm
     ·exact h c e
  ·rename_i hk;refine uH r _ _ (h.imp (fun z=>?_) id) e;rcases aaf.mp z with q | q
   ·injection q with _ q2
    rw[<- q2]at hk;exact absurd rfl hk
   ·exact q
theorem uI{n0:Nat}:∀(names:List (Str×NameKind)) (n:Nat) (acc:List (Str×Addr)),(∀ p∈acc,p.2 < n)->(∀ p∈acc,∀ q∈acc,n0<=p.2->p.2=q.2->p.1=q.1)->∀ p∈cellsFrom n names acc,∀ q∈cellsFrom n names acc,n0<=p.2->p.2=q.2->p.1=q.1
 | [],_,_,_,h=>h
 | (y,k)::r,n,acc,hl,h=>by
  unfold cellsFrom;split
  ·refine uI r (n+1) ((y,n)::acc) (fun p hp=>?_) fun p hp q hq h0 he=>?_
   ·rcases aaf.mp hp with e | e
    ·rw[e];exact abv _
    ·exact acV (hl p e)
   ·rcases aaf.mp hp with e | e<;>rcases aaf.mp hq with e' | e'
    ·rw[e,e']
    ·rw[e]at he;exact absurd (hl q e') (by rw[<- he];exact aaP _)
    ·rw[e']at he;exact absurd (hl p e) (by rw[he];exact aaP _)
    ·exact h p e q e' h0 he
  ·exact uI r n acc hl h
theorem pB:∀(names:List (Str×NameKind)) (h:Heap) (acc:List (Str×Addr)) (p:Str×Addr),p∈cellsFrom h.objs.size names acc->p∈acc\/(pushCells h names).IsCell p.2 none
 | [],_,_,_,m=>.inl m
 | (y,k)::r,h,acc,p,m=>by
  unfold cellsFrom at m;unfold pushCells;split at m
  ·rename_i hk;rw[aau hk];have:=pB r (h.push { cls:=.type "cell",data:=.cell none }) ((y,h.objs.size)::acc) p (by rw[aaW];exact m);rcases this with q | q
   ·rcases aaf.mp q with e | e
    ·rw[e];exact .inr ⟨_,pushCells_keeps r _ _ _ (aai _ rfl),rfl⟩
    ·exact .inl e
   ·exact .inr q
  ·rename_i hk;rw[aao hk];exact pB r h acc p m
theorem lp{cells:List (Str×Addr)}{p:Str×Addr}:∀(ns:List (Str×NameKind)) (cs:List (Str×Addr)),p∈gE cells ns cs->p∈cs\/cells.lookup p.1=some p.2
 | [],_,h=>.inl h
 | (n,k)::r,cs,h=>by
  unfold gE at h;rcases lp r _ h with q | q
  ·split at q
   ·split at q
    ·rename_i a ha;rcases aaf.mp q with e | e
     ·rw[e];exact .inr ha
     ·exact .inl e
    ·exact .inl q
   ·exact .inl q
  ·exact .inr q
theorem mem_lookup{x:Str}{c:Addr}:∀{l:List (Str×Addr)},l.lookup x=some c->(x,c)∈l
 | [],q=>by cases q
 | (n,k2)::r,q=>by
  rw[aaM]at q;split at q
  ·rename_i hz;have:x=n:=by simpa using hz
   subst this;cases q;exact aaw
  ·exact aan _ (mem_lookup q)
theorem uJ{M:Model}{A:t0}{E:xz}{globals:Addr}{closure:List (Str×Addr)}{qual:Str}{Q:Env->Shared->Prop}(hQ:∀ h',h'=pushCells (s.heap.push { cls:=.type "dict",data:=.dict #[] }) scope.names->h'.Ns s.heap.objs.size (fun _=>none) ->
   Q (newEnv scope s.heap.objs.size globals (cellsFrom (s.heap.objs.size+1) scope.names closure) qual none .none (some env) builtinsNs) { s with heap:=h' }) :
  wpAny M A (newFunctionEnv scope globals closure [] qual none .none (some env)) Q E s:=by
 simp only[newFunctionEnv,Option.isSome_some,acq];refine aaa (wpAny_alloc ?_);refine aaa (wpAny_layCells _ (fun name kind cells=>by cases V5:kind == NameKind.cell<;>simp[V5]) _ _ _ _ ?_);rw[show({ s with heap:=s.heap.push { cls:=.type "dict",data:=.dict #[] } }:Shared).heap.objs.size=s.heap.objs.size+1 from aaW ..];refine aaa ?_;rw[adl];exact aad (aad (hQ _ rfl ((Heap.Ns.new s.heap (.type "dict")).keeps (pushCells_keeps _ _))))
def uK(X:Cx)(scope:Scope)(C:Addr):List (Str×Addr):=cellsFrom (C+1) scope.names (gE X.env.cells scope.names [])
def gF(X:Cx)(scope:Scope)(N':ww)(aT:Shared)(bj:Hp)(C:Addr)(ex:wE):Cx :=
 { X with N:=N',aT:=aT,bj:=bj,env:=compEnvC scope (uK X scope C) C X.env,outer:=X.stack,stack:=X.stack,ex:=ex,fn:=fun x=>scope.names.lookup x == some .cell,calm:=true,pn:=[],xe:=fun _ _=>False }
def blk(ix:List (Option Nat))(σ:St):St:=ix.map fun o=>match o with | none=>none | some j=>(σ[j]?).join
structure fQ(X:Cx)(scope:Scope)(N':ww)(ix:List (Option Nat)):Prop where
 kind:scope.kind=.function
 V6:scope.names.all (fun y=>y.2 != .cell||scope.names.lookup y.1 == some .cell)=true
 free:scope.names.all (fun y=>y.2 != .free||(X.env.scope.names.lookup y.1 == some .cell||X.env.scope.names.lookup y.1 == some .free))=true
 loc:scope.names.all (fun y=>y.2 != .local||scope.names.lookup y.1 == some .local)=true
 len:N'.length=ix.length
 ok:(N'.zip ix).all (fun p=>match p.2 with | none=>true | some j=>X.N[j]? == some p.1&&scope.names.lookup p.1 == some .free&&(X.env.scope.names.lookup p.1 == some .cell||X.env.scope.names.lookup p.1 == some .free))=true
section
variable {σ:St}{bb s₃:Shared}{fp:wE}{m:xL}{D C:Addr}
theorem fQ.has(B:fQ X scope N' ix)(ok:X.Ok):∀ y∈scope.names,y.2=.free->∃ c,X.env.cells.lookup y.1=some c:=fun y hy e=>by
 have:=(aa7.mp B.free) y hy;rw[e]at this;simp at this;rcases this with q | q
 ·exact ok.has y.1 (.inl q)
 ·exact ok.has y.1 (.inr q)
theorem fQ.Gr(B:fQ X scope N' ix)(h:scope.names.lookup x=some .free):(x,NameKind.cell) ∉ scope.names:=fun m=>by
 have:=(aa7.mp B.V6) _ m;simp[h]at this
theorem fQ.names(B:fQ X scope N' ix):∀ y∈scope.names,y.2=.local->scope.names.lookup y.1=some .local:=fun y hy e=>by
 have:=(aa7.mp B.loc) y hy;rw[e]at this;simpa using this
theorem Inv.block(I:Inv X pins σ H bb)(B:fQ X scope N' ix)(hc:X.calm=true)(Ee:∀ b∈fp,jd X pins H b)(V7:∀ b∈fp,∃ o,bb.heap.get? b=some o)(e3:s₃.os=bb.os)(hD:D=bb.heap.objs.size)(k3:∀ b o,bb.heap.get? b=some o->s₃.heap.get? b=some o)(hC:C=s₃.heap.objs.size)(Gs:D < C)(Pf:bb.heap.objs.size<=s₃.heap.objs.size)(eo:s.os=bb.os)(eg:s.gens=bb.gens)(k4:∀ b o,s₃.heap.get? b=some o->s.heap.get? b=some o)(hn:s.heap.Ns C m)(Ua:∀ p∈uK X scope C,p∈gE X.env.cells scope.names []\/s.heap.IsCell p.2 none):Inv (gF X scope N' s₃ H C (D::fp)) [] (blk ix σ) H s:=by
 have gn:=I.lt;have V8:(D:Nat)=bb.heap.objs.size:=hD;have My:(C:Nat)=s₃.heap.objs.size:=hC;have Mz:∀ x c,(gE X.env.cells scope.names []).lookup x=some c->X.env.cells.lookup x=some c:=fun x c e=>pA _ _ (fun z d q=>by cases q) e;have l6:∀ x c,X.env.cells.lookup x=some c->c < bb.heap.objs.size:=fun x c e=>let ⟨v,q⟩:=I.cell x c e;q.lt;have Ef:∀ b∈fp,b < bb.heap.objs.size:=fun b hb=>let ⟨o,q⟩:=V7 b hb;aah q;have K9:bb.heap.objs.size<=C:=aam Pf (abY My.symm);have jR:∀ x c,(uK X scope C).lookup x=some c->X.env.cells.lookup x=some c\/(C+1<=c/\s.heap.IsCell c none):=fun x c e=>by
  rcases jQ _ _ _ e with q | ⟨q,_⟩
  ·exact .inl (Mz x c q)
  ·rcases Ua _ (mem_lookup e)with z | z
   ·exfalso;have gn:∀ p∈gE X.env.cells scope.names [],p.2 < bb.heap.objs.size:=fun p hp=>by
     rcases lp _ _ hp with w | w
     ·cases w
     ·exact l6 p.1 p.2 w
    exact aaP _ (aat (gn _ z) (aam K9 (aam (abk _) q)))
   ·exact .inr ⟨q,z⟩
 have QN:∀ x y c,(uK X scope C).lookup x=some c->(uK X scope C).lookup y=some c->x=y:=fun x y c e1 e2=>by
  rcases jR x c e1 with q | ⟨q,_⟩
  ·rcases jR y c e2 with z | ⟨z,_⟩
   ·exact I.ok.inj x y c q z
   ·exact absurd (l6 x c q) (Nat.not_lt_of_le (aam K9 (aam (abk _) z)))
  ·refine uI (n0:=C+1) scope.names (C+1) _ (fun p hp=>?_) (fun p hp _ _ h0 _=>?_) (x,c) (mem_lookup e1) (y,c) (mem_lookup e2) q rfl
   ·rcases lp _ _ hp with w | w
    ·cases w
    ·exact aat (l6 p.1 p.2 w) (aam K9 (abk _))
   ·rcases lp _ _ hp with w | w
    ·cases w
    ·exact absurd (l6 p.1 p.2 w) (Nat.not_lt_of_le (aam K9 (aam (abk _) h0)))
 have nD:H D=none:=I.bN.fresh (abY V8.symm);have nC:H C=none:=I.bN.fresh (aam Pf (abY My.symm));have MA:s₃.heap.FunFrames X.base X.stack:=by
  have all:∀(l:List Env),bb.heap.FunFrames X.base l->s₃.heap.FunFrames X.base l:=by
   intro l;induction l with
   | nil=>intro _;trivial
   | cons env r ih =>
    intro hl;obtain⟨hk,⟨L,o,hf,hn,ho,hd⟩,hr⟩:=hl;exact⟨hk,⟨L,o,hf,hn,k3 L o ho,hd⟩,ih hr⟩
  exact all _ I.stack
 have QO:∀ b∈gm X.stack,b < bb.heap.objs.size:=fun b hb=>let ⟨_,o,ho,_⟩:=I.stack.mem hb;aah ho;refine⟨⟨I.ok.mod,B.kind,I.ok.glob,I.ok.blt,abY My.symm,QN,fun x hx=>?_,fun x c q e=>?_,fun _=>I.ok.hd hc,I.ok.frames,.inl rfl,fun b hb=>?_,fun b o e=>?_,?_,fun b o e hb=>?_,fun b hb=>?_,MA,I.oZ⟩,
  eo.trans e3.symm,by rw[eg];exact I.bare,Un.kept k4,⟨m,hn,fun i x v e1 e2 e3=>?_⟩,fun x c e=>?_,nC,fun x c e=>(jR x c e).elim (I.gp x c) fun z=>I.bN.fresh (aam K9 (aam (abk _) z.1)),fun p hp=>(nomatch hp),I.bN.kept fun b o e=>k4 b o (k3 b o e),?_⟩
 ·have fr:(x,NameKind.free)∈scope.names\/(x,NameKind.cell)∈scope.names:=by
   rcases hx with q | q
   ·obtain⟨k,hm,q⟩:=jq q;rcases q with q | ⟨q,_⟩
    ·rw[<- q]at hm;exact .inr hm
    ·rw[q]at hm;exact .inl hm
   ·left;obtain⟨k,hm,q⟩:=jq q;rcases q with q | ⟨_,q⟩
    ·rw[<- q]at hm;exact hm
    ·cases q
  refine aa9.mp (uG scope.names (C+1) _ (fr.imp (fun fr=>?_) id));obtain⟨c,q⟩:=B.has I.ok _ fr rfl;exact ll (cells:=X.env.cells) (x:=x) scope.names [] (.inr ⟨fr,by rw[q];rfl⟩)
 ·have q':scope.names.lookup x=some .cell:=by simpa [gF] using q
  have:=uH scope.names (C+1) _ (.inl (mem_of_lookup _ q')) e;show s₃.heap.objs.size<=c;exact aam (abY My.symm) (aam (abk _) this)
 ·rcases aaf.mp hb with e | hb
  ·refine⟨by rw[e];exact aaD Gs,fun x c q z=>?_⟩;rcases jR x c q with w | ⟨w,_⟩
   ·have l:=l6 x c w;rw[z,e,hD]at l;exact aaP _ l
   ·rw[z,e]at w;exact aaP _ (aat Gs (aam (abk _) w))
  ·have l:=Ef b hb;refine⟨aaD (aat l (aam Pf (abY My.symm))),fun x c q z=>?_⟩;rcases jR x c q with w | ⟨w,_⟩
   ·exact(Ee b hb).2.2.2.2.1 x c w z
   ·rw[z]at w;exact aaP _ (aat l (aam K9 (aam (abk _) w)))
 ·exact⟨k3 b o (I.bs b o e).1,(I.bs b o e).2⟩
 ·exact aam I.ok.FT (aam I.sz Pf)
 ·rcases aaf.mp hb with z | hb
  ·have l:=aah (I.bk b o e);rw[z,hD]at l;exact aaP _ l
  ·rcases (Ee b hb).2.2.2.1 with q | q
   ·exact I.ok.zC b o e q
   ·exact aaP _ (aat (aah (I.ok.bs b o e).1) q)
 ·rcases aaf.mp hb with z | hb
  ·intro q;have l:=QO b q;rw[z,hD]at l;exact aaP _ l
  ·intro q;rcases aaf.mp (I.uf b q)with z | z
   ·exact(Ee b hb).2.1 z
   ·exact(Ee b hb).2.2.1 z
 ·-- LD is MB
  have hi:∃ o,ix[i]?=some o/\(match o with | none=>none | some j=>(σ[j]?).join)=some v:=by
   unfold blk at e2;rw[aag]at e2;cases q:ix[i]? with
   | none=>rw[q]at e2;cases e2
   | some o=>rw[q]at e2;exact⟨o,rfl,aaF e2⟩
  obtain⟨o,ho,hv⟩:=hi;cases o with
  | none=>cases hv
  | some j =>
   have hz:(N'.zip ix)[i]?=some (x,some j):=by
    rw[aa3];exact⟨e1,ho⟩
   have:=(aa7.mp B.ok) _ (abe hz);simp only[aas,abT,Bool.or_eq_true]at this;obtain⟨⟨a1,a2⟩,a3⟩:=this;have hs:σ[j]?=some (some v):=by
    replace hv:(σ[j]?).join=some v:=hv;cases q:σ[j]? with
    | none=>rw[q]at hv;cases hv
    | some y=>rw[q]at hv;exact abz some hv
   obtain⟨mo,Qn,Pc⟩:=I.loc;obtain⟨u,ru,lu⟩:=Pc j x v a1 hs (a3.elim (fun a=>.inr (.inl a)) (fun a=>.inr (.inr a)));refine⟨u,ru,.inr ⟨?_,?_⟩⟩
   ·have hm:∃ k,(relabel scope X.env).names.lookup x=some k:=by
     rcases e3 with q | q | q<;>exact⟨_,q⟩
    obtain⟨k,hk⟩:=hm;obtain⟨k2,mem,q⟩:=jq (env:=X.env) hk;rcases e3 with z | z | z
    ·-- local: no
     have z':(relabel scope X.env).names.lookup x=some .local:=z;rw[hk]at z';cases z';rcases q with q | ⟨_,q⟩
     ·subst q;have:=B.names _ mem rfl;rw[show scope.names.lookup x=some .free from a2]at this;cases this
     ·cases q
    ·exact .inl z
    ·exact .inr z
   ·rcases lu with⟨q,_⟩ | ⟨_,c,Gu,zt⟩
    ·have q':X.env.scope.names.lookup x=some .local:=q;rcases a3 with a | a<;>(rw[a]at q';cases q')
    ·obtain⟨c',zF⟩:=aa9.mp (ll (cells:=X.env.cells) (x:=x) scope.names [] (.inr ⟨mem_of_lookup _ a2,by rw[Gu];rfl⟩));have:=Mz x c' zF;rw[Gu]at this;cases this;obtain⟨ob,Gv,jh⟩:=zt;exact⟨c,(hU _ _ _ (B.Gr a2)).trans zF,ob,k4 _ _ (k3 _ _ Gv),jh⟩
 ·rcases jR x c e with w | ⟨_,w⟩
  ·obtain⟨v,ob,Gv,jh⟩:=I.cell x c w;exact⟨v,ob,k4 _ _ (k3 _ _ Gv),jh⟩
  ·exact⟨none,w⟩
 ·show(blk ix σ).length=N'.length;unfold blk;rw[aab,B.len]
end
theorem yr{prog:tz}{w:World}{A:t0}{R:Result->Shared->Prop}{target:Expr}{it acc:Value}(I:Nat->Shared->Prop)(turn:∀ n s,I n s->wpAny (model prog w) A (pyNext it) (fun r bo=>match r with
   | none=>R (.ok .next) bo
   | some v=>wpAny (model prog w) A (letOwnedTupleGo target it v) (fun _ Gw=>wpAny (model prog w) A (assign target env v) (fun _ bb =>
     wpAny (model prog w) A (forIn ifs true fun c r=>if r=true then do let ok <- isTrue c env (eval c env);pure (ForInStep.yield ok)else pure (ForInStep.yield r)) (fun ok s₃ =>
      if ok=true then wpAny (model prog w) A (eval elt env) (fun x Eg =>
       wpAny (model prog w) A (call (.builtin "list.append") [acc,x]) (fun _ MC=>∃ m,m < n/\I m MC) (fun _ _=>False) Eg) (fun _ _=>False) s₃
      else ∃ m,m < n/\I m s₃) (fun _ _=>False) bb) (fun _ _=>False) Gw) (fun _ _=>False) bo) (fun _ _=>False) s)(n:Nat)(h:I n s) :
  codeAny (model prog w) A (.compLoop (.ListComp elt [⟨target,iter,ifs,0⟩] scope pos) 0 it acc env) R s:=by
 refine codeAny_loop rfl I (fun n s hI=>?_) n h;show wpAny _ A ((compTurn (.ListComp elt [⟨target,iter,ifs,0⟩] scope pos) 0 it acc env).onRaise (fun x=>do noteFrame x env;theTreesLotGoes x)) _ _ s;refine wpAny_noted ?_;rw[compTurn_list];refine aaa (ac0 (aaa (abd (turn n s hI) (fun r bo eF=>?_) fun _ _ h'=>h'.elim)));cases r with
 | none=>exact aad eF
 | some v =>
  refine aaa (abd eF (fun _ Gw eF=>?_) fun _ _ h'=>h'.elim);refine aaa (abd eF (fun _ bb gC=>aaa (abd gC (fun ok s₃ lO=>?_) fun _ _ h'=>h'.elim)) fun _ _ h'=>h'.elim);cases ok with
  | false=>exact aad ⟨rfl,lO⟩
  | true =>
   exact aaa (aaa (abd lO (fun x Eg Ax=>aaa (abd Ax (fun _ MC gr=>aad (aad ⟨rfl,gr⟩)) fun _ _ h'=>h'.elim)) fun _ _ h'=>h'.elim))
def IZ(X:Cx)(ifs:ut)(tt:TT):Prop :=
 ∀(pins:yp) (s:Shared) (σ:St) (H:Hp) (Q:Bool->Hp->Prop),Inv X pins σ H s->tt σ H Q ->
  wpAny (model X.prog X.w) X.A (forIn ifs true fun c r=>if r=true then do let ok <- isTrue c X.env (eval c X.env);pure (ForInStep.yield ok)else pure (ForInStep.yield r)) (TP X pins σ Q) X.xe s
def I0:TT:=fun _ H Q=>Q true H
theorem Eh:IZ X [] I0:=fun pins s σ H Q I h=>wpAny_tests_nil ⟨H,I,h⟩
theorem Ei{c:Expr}(h:PT X c tt):IZ X [c] tt:=fun pins s σ H Q I q=>wpAny_tests_one (h pins s σ H Q I q)
def Gx(J:It)(g:TG)(tt:TT)(te:TE)(bp:St)(H:Hp)(Q:List V->Hp->Prop):Prop :=
 ∃ W:Nat->Nat->List V->Hp->Prop,(∃ m,W 0 m [] H)/\∀ i m ys H,W i m ys H ->
  (J.stop i H/\Q ys H)\/(J.go i H/\ys.length < sizeLine/\∃(N:V->Hp->Prop) (M:Hp->Prop),(∀ y H',N y H'->∃ m',m' < m/\W (i+1) m' (ys++[y]) H')/\(∀ H',M H'->∃ m',m' < m/\W (i+1) m' ys H') /\
   ∀ x H',J.C3 i H x H'->g x bp H' fun zr H2=>tt zr H2 fun b H3=>if b=true then te zr H3 N else M H3)
def rY(wi:TI)(g:TG)(tt:TT)(te:TE)(ix:List (Option Nat)):TE:=fun σ H Q =>
 wi σ H fun J H1=>Gx J g tt te (blk ix σ) H1 fun ys H2=>∀ D,H2 D=none->Q (.ref D) (upd H2 D (.lst ys))
theorem fQ.Ja{σ:St}(B:fQ X scope N' ix)(I:Inv X pins σ H s){i:Nat}{v:V}(e1:N'[i]?=some x)(e2:(blk ix σ)[i]?=some (some v)) :
  ∃ u c,RelV v u/\(∀ n,(cellsFrom n scope.names (gE X.env.cells scope.names [])).lookup x=some c)/\X.env.cells.lookup x=some c/\s.heap.IsCell c (some u)/\(relabel scope X.env).names.lookup x≠some .local:=by
 have hi:∃ o,ix[i]?=some o/\(match o with | none=>none | some j=>(σ[j]?).join)=some v:=by
  unfold blk at e2;rw[aag]at e2;cases q:ix[i]? with
  | none=>rw[q]at e2;cases e2
  | some o=>rw[q]at e2;exact⟨o,rfl,aaF e2⟩
 obtain⟨o,ho,hv⟩:=hi;cases o with
 | none=>cases hv
 | some j =>
  have hz:(N'.zip ix)[i]?=some (x,some j):=by
   rw[aa3];exact⟨e1,ho⟩
  have:=(aa7.mp B.ok) _ (abe hz);simp only[aas,abT,Bool.or_eq_true]at this;obtain⟨⟨a1,a2⟩,a3⟩:=this;have hs:σ[j]?=some (some v):=by
   replace hv:(σ[j]?).join=some v:=hv;cases q:σ[j]? with
   | none=>rw[q]at hv;cases hv
   | some y=>rw[q]at hv;exact abz some hv
  obtain⟨mo,Qn,Pc⟩:=I.loc;obtain⟨u,ru,lu⟩:=Pc j x v a1 hs (a3.elim (fun a=>.inr (.inl a)) (fun a=>.inr (.inr a)));rcases lu with⟨q,_⟩ | ⟨_,c,Gu,zt⟩
  ·have q':X.env.scope.names.lookup x=some .local:=q;rcases a3 with a | a<;>(rw[a]at q';cases q')
  ·obtain⟨c',zF⟩:=aa9.mp (ll (cells:=X.env.cells) (x:=x) scope.names [] (.inr ⟨mem_of_lookup _ a2,by rw[Gu];rfl⟩));have:=pA _ _ (fun z d q=>by cases q) zF;rw[Gu]at this;cases this;refine⟨u,c,ru,fun n=>(hU _ _ _ (B.Gr a2)).trans zF,Gu,zt,fun q=>?_⟩;obtain⟨k2,mem,z⟩:=jq (env:=X.env) q;rcases z with z | ⟨_,z⟩
   ·subst z;have:=B.names _ mem rfl;rw[show scope.names.lookup x=some .free from a2]at this;cases this
   ·cases z
section
variable {tg:Expr}{σ:St}{bb:Shared}{fp:wE}{it:Addr}{tn:Nat->Heap->Prop}{J:It}
theorem l7{E:xz}{RR:Value->Addr->Result->Shared->Prop}(B:fQ X scope N' ix)(hc:X.calm=true)(I:Inv X pins σ H bb)(T:Turn X.prog X.w X.K tg J fp it tn)(st:tn 0 bb.heap)(Ee:∀ b∈fp,jd X pins H b)(hg:∀ aT bj C ex,PG (gF X scope N' aT bj C ex) tg g)(ht:∀ aT bj C ex,IZ (gF X scope N' aT bj C ex) ifs tt)(he:∀ aT bj C ex,PE (gF X scope N' aT bj C ex) elt te){Q:List V->Hp->Prop}(h:Gx J g tt te (blk ix σ) H Q)(V9:∀(D C:Addr) (ys:List V) (H':Hp) (s':Shared) (m:xL),Q ys H'->H' D=none->s'.heap.Ns C m->jd X pins (upd H' D (.lst ys)) C->Inv X pins σ (upd H' D (.lst ys)) s'->RR (.ref D) C (.ok .next) s') :
  wpAny (model X.prog X.w) X.A (newList []) (fun acc s₃=>wpAny (model X.prog X.w) X.A (newFunctionEnv scope X.env.globals (gE X.env.cells scope.names []) [] X.env.qual none .none (some X.env)) (fun MD Eg =>
   codeAny (model X.prog X.w) X.A (.compStart (.ListComp elt [⟨tg,iter,ifs,0⟩] scope pos) 0 (.ref it) acc { MD with scope:=relabel scope X.env }) (RR acc MD.locals) Eg) E s₃) E bb:=by
 refine aaX (uJ fun eF pC uL=>?_);dsimp only at uL pC ⊢;generalize QP:bb.heap.push { cls:=.type "list",dict:=none,data:=.seq ([]:wf).toArray }=H2 at uL pC ⊢;have hC:H2.objs.size=bb.heap.objs.size+1:=by rw[<- QP,aaW]
 have Jb:∀ b o,bb.heap.get? b=some o->H2.get? b=some o:=fun b o e=>QP▸aac _ e;have k34:∀ b o,H2.get? b=some o->eF.get? b=some o:=fun b o e=>by rw[pC];exact pushCells_keeps _ _ b o (aac _ e)
 have Wb:H2.get? bb.heap.objs.size=some { cls:=.type "list",dict:=none,data:=.seq ([]:wf).toArray }:=QP▸aai _ rfl;have Gs:bb.heap.objs.size < H2.objs.size:=by rw[hC];exact abv _
 have Ub:=T.obj 0 _ st;have Ef:∀ b∈fp,b < bb.heap.objs.size:=fun b hb=>let ⟨o,q,_⟩:=Ub b hb;aah q;have Uc:H bb.heap.objs.size=none:=I.bN.fresh (aae _);have Wc:H H2.objs.size=none:=I.bN.fresh (aaL Gs);have fD:=I.xW (aae bb.heap.objs.size) Uc;have fC:=I.xW (aaL Gs) Wc;have I3:Inv X pins σ H { bb with heap:=H2 }:=I.kept (t':=bb.toks) Jb;generalize hX:gF X scope N' { bb with heap:=H2 } H H2.objs.size (bb.heap.objs.size::fp)=X' at *;have I4:Inv X' [] (blk ix σ) H { bb with heap:=eF }:=by
  rw[<- hX];exact I.block (s₃:={ bb with heap:=H2 }) (s:={ bb with heap:=eF }) B hc Ee (fun b hb=>let ⟨o,q,_⟩:=Ub b hb;⟨o,q⟩) rfl rfl Jb rfl Gs (aaL Gs) rfl rfl k34 uL (fun p hp=>by show _\/eF.IsCell _ _;rw[pC];exact pB scope.names _ _ p (by rw[aaW];exact hp))
 have eP:X'.prog=X.prog:=by rw[<- hX];rfl
 have ew:X'.w=X.w:=by rw[<- hX];rfl
 have eK:X'.K=X.K:=by rw[<- hX];rfl
 have eA:X'.A=X.A:=by rw[<- hX];rfl
 have ec:X'.calm=true:=by rw[<- hX];rfl
 have OV:X'.xe=fun _ _=>False:=by rw[<- hX];rfl
 have AQ:X'.env=compEnvC scope (uK X scope H2.objs.size) H2.objs.size X.env:=by rw[<- hX];rfl
 have We:PG X' tg g:=hX▸hg _ _ _ _;have Wf:IZ X' ifs tt:=hX▸ht _ _ _ _;have QQ:PE X' elt te:=hX▸he _ _ _ _;have eL:X'.env.locals=H2.objs.size:=by rw[AQ];rfl
 have eX:X'.ex=bb.heap.objs.size::fp:=by rw[<- hX];rfl
 have eN:X'.N=N':=by rw[<- hX];rfl
 have ef:X'.fs=gm X.stack:=by rw[<- hX];rfl
 have es:X'.aT={ bb with heap:=H2 }:=by rw[<- hX];rfl
 have eH:X'.bj=H:=by rw[<- hX];rfl
 have QR:X'.pn=[]:=by rw[<- hX];rfl
 -- LD stays true of K4 records through K4 loop
 have uj:∀{H':Hp} {b:Addr},b∈bb.heap.objs.size::fp->H' b=none->jd X' [] H' b:=fun{H' b} hb hn=>by
  refine⟨hn,(I4.ok.OX b (by rw[eX];exact hb)).1,I4.ok.zD b (by rw[eX];exact hb),.inl (by rw[eX];exact hb),(I4.ok.OX b (by rw[eX];exact hb)).2,fun p hp=>?_⟩;rw[QR]at hp;cases hp
 obtain⟨W,⟨m0,w0⟩,turn⟩:=h;have loop:∀ s₃:Shared,s₃={ bb with heap:=eF } ->
   codeAny (model X.prog X.w) X.A (.compLoop (.ListComp elt [⟨tg,iter,ifs,0⟩] scope pos) 0 (.ref it) (.ref bb.heap.objs.size) (compEnvC scope (uK X scope H2.objs.size) H2.objs.size X.env)) (RR (.ref bb.heap.objs.size) H2.objs.size) s₃:=by
  intro s₃ Jc;rw[<- Jc]at I4;refine yr (fun n s'=>∃ i ys aL H',Inv X' [] (blk ix σ) H' s'/\tn i s'.heap/\(∀ b∈bb.heap.objs.size::fp,H' b=none)/\ys.length<=sizeLine/\Vals ys aL/\s'.heap.PlainList bb.heap.objs.size aL.toArray/\W i n ys H') ?_ m0
   ⟨0,[],[],H,I4,T.keep _ _ _ st (fun b hb o e=>by rw[Jc];exact k34 b o (Jb b o e)),(fun b hb=>?_),aaJ _,.nil,⟨_,by rw[Jc];exact k34 _ _ Wb⟩,w0⟩
  ·rintro n s5 ⟨i,ys,aL,H5,I5,K5,O2,Ud,Pg,Wh,w5⟩;obtain⟨nD,eD⟩:=id Wh;have Wi:∀ b∈[bb.heap.objs.size],∃ o,s5.heap.get? b=some o/\∀ v,o.data≠.cell v:=fun b hb=>by
    have e:b=bb.heap.objs.size:=by simpa using hb
    rw[e];exact⟨_,eD,fun v z=>by cases z⟩
   have memD:bb.heap.objs.size∈bb.heap.objs.size::fp:=aaw;have LF:=I5.pinned (fp:=[bb.heap.objs.size]) (fun b hb=>by
    have e:b=bb.heap.objs.size:=by simpa using hb
    rw[e];exact uj memD (O2 _ memD)) Wi
   rw[ada]at LF;have QS:∀{q:Addr×Obj},q∈eR [bb.heap.objs.size] s5.heap->q.1=bb.heap.objs.size:=fun hq=>by
    have:=(nU hq).1;simpa using this
   have Gy:∀{H':Hp} {b:Addr},b∈fp->H' b=none->jd X' (eR [bb.heap.objs.size] s5.heap) H' b:=fun{H' b} hb hn=>by
    obtain⟨f0,f1,f2,f3,f4,_⟩:=uj (aan _ hb) hn;refine⟨f0,f1,f2,f3,f4,fun p hp z=>?_⟩;rw[QR,ada]at hp;have q:=QS hp;rw[z]at q;exact absurd (Ef b hb) (by rw[q];exact aaP _)
   have ME:∀ b∈fp,jd X' (eR [bb.heap.objs.size] s5.heap) H5 b:=fun b hb=>Gy hb (O2 b (aan _ hb));have Ph:(bb.heap.objs.size,({ cls:=.type "list",data:=.seq aL.toArray nD }:Obj))∈eR [bb.heap.objs.size] s5.heap:=dN (by simp) eD;rcases turn i n ys H5 w5 with⟨stop,qn⟩ | ⟨go,gn,N,M,hN,hM,step⟩
   ·rw[<- eA];refine ck (T.done X' eP ew eK ec i _ s5 (blk ix σ) H5 _ LF ME K5 stop) fun r s6 ⟨hr,I6⟩=>?_;subst hr;have Wj:=(I6.pin _ (aav _ Ph)).1;have Ue:=(I6.pin _ (aav _ Ph)).2.1;obtain⟨mC,Ug,_⟩:=I6.loc;rw[eL]at Ug;have u6:=I6.base;rw[ef,eX,eH,es]at u6;have MF:=I6.bN;rw[eP,ew]at MF;have Uh:=I6.os;rw[es]at Uh;have IX:Inv X pins σ H5 s6:=I3.Lv (s':=s6) (ch:=bb.heap.objs.size::fp) Uh u6 MF I6.bare fun b hb=>by
     rcases aaf.mp hb with z | hb
     ·rw[z];exact⟨fD.2.2.2.1,fD.2.1,fD.2.2.2.2.1,fD.2.2.2.2.2⟩
     ·have f:=Ee b hb;exact⟨f.2.2.2.1,f.2.1,f.2.2.2.2.1,f.2.2.2.2.2⟩
    have Wk:H5 H2.objs.size=none:=by have:=I6.free;rw[eL]at this;exact this
    have Wl:H2.objs.size≠bb.heap.objs.size:=abA Gs;refine V9 _ _ ys H5 s6 mC qn Ue Ug ⟨by rw[bc Wl];exact Wk,fC.2⟩ ?_;exact IX.Gk (t':=s6.toks) ⟨Ue,fD.2⟩ ⟨Ud,aL,nD,Pg,Wj⟩
   ·rw[<- eA];refine ck (T.item X' eP ew eK ec i _ s5 (blk ix σ) H5 _ LF ME K5 go) fun r s6 ⟨u,hr,h6⟩=>?_;subst hr;dsimp only;refine ck h6 fun _ s7 ⟨x,H7,I7,r7,y7,QT,Wm⟩=>?_;have Wn:=I7.pinned (fp:=fp) (fun b hb=>Gy hb (Wm b hb)) (T.obj _ _ QT);rw[<- AQ,<- eP,<- ew];have q1:=We _ s7 (blk ix σ) H7 x u _ Wn r7 (step x H7 y7);rw[OV]at q1;refine ck q1 fun _ s8 ⟨Ui,H8,I8,q8⟩=>?_;have q2:=Wf _ s8 Ui H8 _ I8 q8;rw[OV]at q2;refine ck q2 fun b s9 ⟨H9,I9,q9⟩=>?_
    -- behind a turn
    have Gz:∀{bp:St} {H':Hp} {s':Shared},Inv X' (eR [bb.heap.objs.size] s5.heap++eR fp s7.heap) bp H' s'->s'.heap.get? bb.heap.objs.size=some { cls:=.type "list",data:=.seq aL.toArray nD }/\H' bb.heap.objs.size=none:=fun I' =>
     ⟨(I'.pin _ (aav _ (ab8 _ Ph))).1,(I'.pin _ (aav _ (ab8 _ Ph))).2.1⟩
    have GA:∀{bp:St} {H':Hp} {s':Shared},Inv X' (eR [bb.heap.objs.size] s5.heap++eR fp s7.heap) bp H' s'->tn (i+1) s'.heap/\∀ b∈fp,H' b=none:=fun{bp H' s'} I'=>by
     refine⟨T.keep _ _ _ QT fun b hb o e=>(I'.pin (b,o) (aav _ (aav _ (dN hb e)))).1,fun b hb=>?_⟩;obtain⟨o,e,d⟩:=T.obj _ _ QT b hb;exact(I'.pin (b,o) (aav _ (aav _ (dN hb e)))).2.1
    have drop:∀{bp:St} {H':Hp} {s':Shared} {ps:yp},Inv X' ps bp H' s'->Inv X' [] (blk ix σ) H' s':=fun{bp H' s' ps} I'=>by
     obtain⟨mL,cZ,_⟩:=I'.loc;refine⟨I'.ok,I'.os,I'.bare,I'.base,⟨mL,cZ,fun k x v e1 e2 e3=>?_⟩,I'.cell,I'.free,I'.gp,fun p hp=>?_,I'.bN,by rw[eN,<- B.len.symm];unfold blk;rw[aab]⟩
     ·rw[eN]at e1;obtain⟨u,c,ru,Gu,zt,⟨oc,Gv,jh⟩,hk⟩:=B.Ja I e1 e2;have Wo:OW (relabel scope X.env) x:=by rw[AQ]at e3;exact e3
      refine⟨u,ru,.inr ⟨?_,c,by rw[AQ];exact Gu _,?_⟩⟩
      ·rw[AQ];show(relabel scope X.env).names.lookup x=some .cell\/(relabel scope X.env).names.lookup x=some .free;rcases Wo with q | q | q
       ·exact absurd q hk
       ·exact .inl q
       ·exact .inr q
      ·have ub:=I'.base;rw[eX,eH,es]at ub;obtain⟨sl,zv⟩:=ub.any (b:=c) (Jb c oc Gv) (I.gp x c zt) (fun z=>by
        rcases aaf.mp z with z | z
        ·exact absurd (aah Gv) (by rw[z];exact aaP _)
        ·exact(Ee c z).2.2.2.2.1 x c zt rfl)
       exact⟨_,zv,jh⟩
     ·rw[QR]at hp;cases hp
    cases b with
    | false =>
     rw[aao aaj]at q9 ⊢;obtain⟨m',hm,w9⟩:=hM _ q9;obtain⟨kd,nd⟩:=Gz I9;obtain⟨kf,nf⟩:=GA I9;refine⟨m',hm,i+1,ys,aL,H9,drop I9,kf,fun b hb=>?_,Ud,Pg,⟨nD,kd⟩,w9⟩;rcases aaf.mp hb with z | hb
     ·rw[z];exact nd
     ·exact nf b hb
    | true =>
     rw[aau rfl]at q9 ⊢;have q3:=QQ _ s9 Ui H9 _ I9 q9;rw[OV]at q3;refine ck q3 fun v Uj ⟨y,Uk,QU,Pj,q10⟩=>?_;obtain⟨m',hm,Wq⟩:=hN _ _ q10;obtain⟨kd,nd⟩:=Gz QU;obtain⟨kf,nf⟩:=GA QU;have hlen:=Pg.length;refine wpAny_list_append_plain (items:=aL.toArray) ⟨nD,kd⟩ (fun h' La sb=>?_) (by rw[aap];omega);have Wt:Inv X' [] (blk ix σ) Uk { Uj with heap:=h' }:=by
      have f:=uj memD nd;exact(drop QU).turned (t':=Uj.toks) (fun b o hb e=>(sb.2 b hb).trans e) f.1 f.2.1 f.2.2.2.1 f.2.2.2.2.1 f.2.2.2.2.2
     refine⟨m',hm,i+1,ys++[y],aL++[v],Uk,Wt,T.keep _ _ _ kf (fun b hb o e=>(sb.2 b (aaD (Ef b hb))).trans e),fun b hb=>?_,by rw[aaB,List.length_singleton];omega,Pg.append (.cons Pj .nil),?_,Wq⟩
     ·rcases aaf.mp hb with z | hb
      ·rw[z];exact nd
      ·exact nf b hb
     ·simpa using La
  ·rcases aaf.mp hb with z | hb
   ·rw[z];exact Uc
   ·exact(Ee b hb).1
 exact codeAny_compStart_list (loop _ rfl) (T.self _ 0 _ _ _ (T.keep _ _ _ st fun b hb o e=>k34 b o (Jb b o e)) (loop _ rfl))
end
section
variable {tg:Expr}{wi:TI}
theorem Ej(B:fQ X scope N' ix)(hc:X.calm=true)(hi:PI X tg iter wi)(hg:∀ aT bj C ex,PG (gF X scope N' aT bj C ex) tg g)(ht:∀ aT bj C ex,IZ (gF X scope N' aT bj C ex) ifs tt)(he:∀ aT bj C ex,PE (gF X scope N' aT bj C ex) elt te)(hs:∀ x,foldedSetIterable iter X.env x=pure x:=by intro _;rfl):PE X (.ListComp elt [⟨tg,iter,ifs,0⟩] scope pos) (rY wi g tt te ix):=by
 intro pins s σ H Q I h;rw[eval_ListComp];refine wpAny_comprehension_free (use:=none) rfl hs (l5 (B.has I.ok)) B.kind B.names (abd (hi pins s σ H _ I h) (fun xv bo eF=>abd eF (fun O0 bb gC=>?_) fun _ _ e=>e) fun _ _ e=>e);obtain⟨it,fp,tn,J,H2,e,I2,T,nV,f2,q⟩:=gC;subst e;refine l7 (RR:=fun acc C=>compPost (model X.prog X.w) X.A X.xe none (EP X pins σ Q) acc C) B hc I2 T nV f2 hg ht he q ?_;intro D C ys H' s' m hq hD hn fC I';refine⟨m,hn,fun h' sb=>⟨.ref D,_,I'.turned (t':=s'.toks) (fun b o hb e=>(sb.2 b hb).trans e) fC.1 fC.2.1 fC.2.2.2.1 fC.2.2.2.2.1 fC.2.2.2.2.2,rfl,hq D hD⟩⟩
theorem Ek{i:Nat}{y:Str}{py AR:Pos}(B:fQ X scope N' ix)(hc:X.calm=true)(hN:X.N.Nodup)(hy:X.N[i]?=some y)(hx:X.env.scope.names.lookup y=some .local)(hi:PI X tg iter wi)(hg:∀ aT bj C ex,PG (gF X scope N' aT bj C ex) tg g)(ht:∀ aT bj C ex,IZ (gF X scope N' aT bj C ex) ifs tt)(he:∀ aT bj C ex,PE (gF X scope N' aT bj C ex) elt te)(C6:swapsWith (.ListComp elt [⟨tg,iter,ifs,0⟩] scope pos) (some (.Name y py)) AR.line X.env=pure true:=by rfl)(hs:∀ x,foldedSetIterable iter X.env x=pure x:=by intro _;rfl):PS X (.Assign [.Name y py] (.ListComp elt [⟨tg,iter,ifs,0⟩] scope pos) AR) (ug (rY wi g tt te ix) (lF i)):=by
 intro pins s σ H Dn I h;rw[exec_Assign_Name_used _ _ _ _ C6];refine aaa (ac0 (aaa ?_));show wpAny _ X.A (do let _ <- comprehension (.ListComp elt [⟨tg,iter,ifs,0⟩] scope pos) scope X.env _ (newList []) false (eval iter X.env) (some (assign (.Name y py) X.env))) _ _ s;refine aaa (abd (wpAny_comprehension_free (use:=some (assign (.Name y py) X.env)) (Q:=fun _ s'=>SP X pins Dn .next s') rfl hs (l5 (B.has I.ok)) B.kind B.names
  (abd (hi pins s σ H _ I h) (fun xv bo eF=>abd eF (fun O0 bb gC=>?_) fun _ _ e=>e) fun _ _ e=>e)) (fun _ s' hq=>aad (aad hq)) fun _ _ e=>e)
 obtain⟨it,fp,tn,J,H2,e,I2,T,nV,f2,q⟩:=gC;subst e;refine l7 (RR:=fun acc C=>compPost (model X.prog X.w) X.A X.xe (some (assign (.Name y py) X.env)) (fun _ s'=>SP X pins Dn .next s') acc C) B hc I2 T nV f2 hg ht he q ?_;intro D C ys H' s' m hq hD hn fC I';have Wu:∀ b∈[C],∃ o,s'.heap.get? b=some o/\∀ v,o.data≠.cell v:=fun b hb=>by
  have e:b=C:=by simpa using hb
  rw[e];obtain⟨o,es,ep,ho,hd,_⟩:=hn;exact⟨o,ho,fun v z=>by rw[hd]at z;cases z⟩
 have Wv:=I'.pinned (fp:=[C]) (fun b hb=>by
  have e:b=C:=by simpa using hb
  rw[e];exact fC) Wu
 show wpAny _ X.A (assign (.Name y py) X.env (.ref D)) _ _ _;refine wpAny_assign_Name (lD (v:=.ref D) Wv hN hy (.inl hx) rfl (fun K6 Ul=>?_) (.inr hx));have QV:K6.heap.Ns C m:=by
  obtain⟨o,es,ep,ho,r⟩:=hn;exact⟨o,es,ep,(Ul.pin (C,o) (aav _ (aav _ (dN (by simp) ho)))).1,r⟩
 refine⟨m,QV,fun h' sb=>⟨_,_,Ul.je.turned (t':=K6.toks) (fun b o hb e=>(sb.2 b hb).trans e) fC.1 fC.2.1 fC.2.2.2.1 fC.2.2.2.2.1 fC.2.2.2.2.2,hq D hD⟩⟩
end
structure Pk(X:Cx)(ifs:ut)(tt:TT):Prop where
 run:IZ X ifs tt
section
variable {tg c:Expr}{wi:TI}
theorem jS:Pk X [] I0:=⟨Eh⟩
theorem pD(h:ST X c tt):Pk X [c] tt:=⟨Ei h.run⟩
theorem i4{g:Shared->Hp->Addr->wE->TG}{tt:Shared->Hp->Addr->wE->TT}{te:Shared->Hp->Addr->wE->TE}(B:fQ X scope N' ix)(hi:SI X tg iter wi)(hg:∀ aT bj C ex,SG (gF X scope N' aT bj C ex) tg (g aT bj C ex))(ht:∀ aT bj C ex,Pk (gF X scope N' aT bj C ex) ifs (tt aT bj C ex))(he:∀ aT bj C ex,SE (gF X scope N' aT bj C ex) elt (te aT bj C ex))(eg:∀ aT bj C ex,g aT bj C ex=g X.aT X.bj 0 []:=by intro _ _ _ _;rfl)(et:∀ aT bj C ex,tt aT bj C ex=tt X.aT X.bj 0 []:=by intro _ _ _ _;rfl)(ee:∀ aT bj C ex,te aT bj C ex=te X.aT X.bj 0 []:=by intro _ _ _ _;rfl)(hc:X.calm=true:=by rfl)(hs:∀ x,foldedSetIterable iter X.env x=pure x:=by intro _;rfl):SE X (.ListComp elt [⟨tg,iter,ifs,0⟩] scope pos) (rY wi (g X.aT X.bj 0 []) (tt X.aT X.bj 0 []) (te X.aT X.bj 0 []) ix) :=
 ⟨Ej B hc hi.run (fun a b c d=>eg a b c d▸(hg a b c d).run) (fun a b c d=>et a b c d▸(ht a b c d).run) (fun a b c d=>ee a b c d▸(he a b c d).run) hs⟩
theorem uM(i:Nat){y:Str}{py AR:Pos}{g:Shared->Hp->Addr->wE->TG}{tt:Shared->Hp->Addr->wE->TT}{te:Shared->Hp->Addr->wE->TE}(B:fQ X scope N' ix)(hN:X.N.Nodup)(hi:SI X tg iter wi)(hg:∀ aT bj C ex,SG (gF X scope N' aT bj C ex) tg (g aT bj C ex))(ht:∀ aT bj C ex,Pk (gF X scope N' aT bj C ex) ifs (tt aT bj C ex))(he:∀ aT bj C ex,SE (gF X scope N' aT bj C ex) elt (te aT bj C ex))(eg:∀ aT bj C ex,g aT bj C ex=g X.aT X.bj 0 []:=by intro _ _ _ _;rfl)(et:∀ aT bj C ex,tt aT bj C ex=tt X.aT X.bj 0 []:=by intro _ _ _ _;rfl)(ee:∀ aT bj C ex,te aT bj C ex=te X.aT X.bj 0 []:=by intro _ _ _ _;rfl)(hy:X.N[i]?=some y:=by rfl)(hx:X.env.scope.names.lookup y=some .local:=by rfl)(hc:X.calm=true:=by rfl)(C6:swapsWith (.ListComp elt [⟨tg,iter,ifs,0⟩] scope pos) (some (.Name y py)) AR.line X.env=pure true:=by rfl)(hs:∀ x,foldedSetIterable iter X.env x=pure x:=by intro _;rfl):SS X (.Assign [.Name y py] (.ListComp elt [⟨tg,iter,ifs,0⟩] scope pos) AR) (ug (rY wi (g X.aT X.bj 0 []) (tt X.aT X.bj 0 []) (te X.aT X.bj 0 []) ix) (lF i)) :=
 ⟨Ek B hc hN hy hx hi.run (fun a b c d=>eg a b c d▸(hg a b c d).run) (fun a b c d=>et a b c d▸(ht a b c d).run) (fun a b c d=>ee a b c d▸(he a b c d).run) C6 hs⟩
end
section
variable {nx bk ct:St->Hp->Prop}{rt:VK}{t u:TS}{D:Ends}{σ:St}{Q:VK}{ta tb tc:TE}{c d:TT}{i j:Nat}{v x y:V}{r:R2}{B:Bool->Hp->Prop}{ts:TA}{tsr:TA}{R:List V->Hp->Prop}
theorem C7{B:Prop}(h:A):if true=true then A else B:=h
theorem wN{B:Prop}(h:B):if false=true then A else B:=h
theorem QW{B:Prop}(h:B):if(!true)=true then A else B:=h
theorem QX{B:Prop}(h:A):if(!false)=true then A else B:=h
theorem nN{B:Prop}[Decidable p](hp:p)(h:A):if decide p=true then A else B:=by rw[aau (abm hp)];exact h
theorem kP{B:Prop}[Decidable p](hp:¬ p)(h:B):if decide p=true then A else B:=by rw[aaq hp];exact h
theorem El{B:Prop}[Decidable p](hp:¬ p)(h:A):if(!decide p)=true then A else B:=by rw[aaq hp];exact h
theorem Em{B:Prop}[Decidable p](hp:p)(h:B):if(!decide p)=true then A else B:=by rw[abm hp];exact h
theorem gR{B:Prop}[Decidable p](h1:p->A)(h2:¬ p->B):if decide p=true then A else B:=by
 by_cases hp:p
 ·exact nN hp (h1 hp)
 ·exact kP hp (h2 hp)
theorem En{B:Prop}[Decidable p](h1:¬ p->A)(h2:p->B):if(!decide p)=true then A else B:=by
 by_cases hp:p
 ·exact Em hp (h2 hp)
 ·exact El hp (h1 hp)
end
def Tp(H H':Hp):Prop:=∀ b xs,H b=some (.tup xs)->H' b=some (.tup xs)
mutual
def Im:PyData->Bool
 | .tuple ds=>jr ds
 | .list _=>false
 | .dict _=>false
 | _=>true
def jr:wP->Bool
 | []=>true
 | d::ds=>Im d&&jr ds
end
mutual
theorem Rep.tp{H H':Hp}(k:Tp H H'):∀{d:PyData} {x:V},Im d=true->Rep H d x->Rep H' d x
 | .none,_,_,h=>h
 | .bool _,_,_,h=>h
 | .int _,_,_,h=>h
 | .str _,_,_,h=>h
 | .list _,_,i,_=>by simp[Im]at i
 | .dict _,_,i,_=>by simp[Im]at i
 | .tuple ds,_,i,⟨a,xs,e,h,r⟩=>⟨a,xs,e,k a xs h,ak.tp k (by simpa [Im] using i) r⟩
theorem ak.tp{H H':Hp}(k:Tp H H'):∀{ds:wP} {xs:List V},jr ds=true->ak H ds xs->ak H' ds xs
 | [],_,_,h=>h
 | d::ds,_,i,⟨y,ys,e,h,r⟩=>by
  have i':Im d=true/\jr ds=true:=by simpa [jr] using i
  exact⟨y,ys,e,Rep.tp k i'.1 h,ak.tp k i'.2 r⟩
end
mutual
theorem Rep.same{H H':Hp}(k:aJ H H'):∀{d:PyData} {x:V},Rep H d x->Rep H' d x
 | .none,_,h=>h
 | .bool _,_,h=>h
 | .int _,_,h=>h
 | .str _,_,h=>h
 | .list _,_,⟨a,xs,e,h,r⟩=>⟨a,xs,e,k a _ h,ak.same k r⟩
 | .dict _,_,h=>h
 | .tuple ds,_,⟨a,xs,e,h,r⟩=>⟨a,xs,e,k a _ h,ak.same k r⟩
theorem ak.same{H H':Hp}(k:aJ H H'):∀{ds:wP} {xs:List V},ak H ds xs->ak H' ds xs
 | [],_,h=>h
 | d::ds,_,⟨y,ys,e,h,r⟩=>⟨y,ys,e,Rep.same k h,ak.same k r⟩
end
def AS(K:zn):List V->Hp->VK->Prop:=fun xs H Q=>∃ p ys,xs=[.ref p]/\((eQ K H p ys/\∀ l,H l=none->Q (.ref l) (upd H l (.tup ys)))\/(eY K H p ys/\Q (.ref p) H))
def wO(K:zn):List V->Hp->VK->Prop:=fun xs H Q=>∃ p ys,xs=[.ref p]/\(eQ K H p ys\/eY K H p ys)/\∀ l,H l=none->Q (.ref l) (upd H l (.lst ys))
def AU(K:zn):List V->Hp->VK->Prop:=fun xs H Q=>∃ p ys,xs=[.ref p]/\(eQ K H p ys\/eY K H p ys)/\Q (.int ys.length) H
def GB:List V->Hp->VK->Prop:=fun xs H Q=>∃ i j,xs=[.int i,.int j]/\Q (.int (if j < i then j else i)) H
section
variable {K:zn}{Q:VK}{p:Addr}{ys:List V}{i j:Int}
theorem jT:eE X (.type "tuple") (AS X.K):=nK
theorem gG:eE X (.type "list") (wO X.K):=pf
theorem bZ:eE X (.builtin "len") (AU X.K):=pe
theorem yt(hc:X.calm=true):eE X (.builtin "min") GB:=x4 hc
end
end L2
namespace L2
open PySem PySem.Spec PyProof.Rows
variable {X:Cx}{w:World}{H:Hp}{p a f C:Addr}{P:tz}{mg:xL}{base:Heap}{N ps:ww}{qual:Str}{scope:Scope}{cd:Value}{A:t0}{outer:List Env}{s:Shared}{eS pos:Pos}{es:ut}{fd:v6}
def MG(K:zn):List V->Hp->VK->Prop:=fun xs H Q=>∃(p:Addr) (bs:List Bool),xs=[.ref p]/\eQ K H p (bs.map V.bl)/\Q (.bl (bs.any id)) H
theorem uN{bs:List Bool}{aL:wf}(rv:Vals (bs.map V.bl) aL){i:Nat}{v:Value}(h:aL[i]?=some v):∃ b,bs[i]?=some b/\v=.bool b:=by
 have hl:=rv.length;rw[aab]at hl;have hi:i < aL.length:=(aal.mp h).1;have hb:bs[i]?=some bs[i]:=aak (by omega);obtain⟨u,hu,ru⟩:=rv.get (x:=.bl bs[i]) (by rw[aag,hb];rfl);rw[h]at hu;cases hu;exact⟨_,hb,ru⟩
theorem oq(hc:X.calm=true):eE X (.builtin "any") (MG X.K):=by
 intro pins s σ H xs us Q I r h;obtain⟨p,bs,rfl,hq,q⟩:=h;obtain⟨u,rfl,ru⟩:=vals1 r;cases ru;obtain⟨aL,rv,pl,hz⟩:=I.list hq;have hl:=pl.isList;have gn:p < s.heap.objs.size:=by obtain⟨_,e,_⟩:=hl;exact aah e
 refine call_any_walk (abj hl ?_);refine⟨s.heap.objs.size,[s.heap.objs.size,p],[s.heap.objs.size],aL.toArray.size,_,_,fun i=>(bs[i]?).getD false,rfl,Walks.list (A:=X.A.in1) (I.ok.hd hc) _ p (aaD gn) aL.toArray,
  ⟨⟨_,aai _ rfl,rfl,rfl⟩,hl.push _⟩,fun i v s' Q' E' hP hQ=>?_,fun h' tk hk=>?_⟩
 ·obtain⟨b,e,rfl⟩:=uN rv (i:=i) (v:=v) (by simpa using hP);simp only[e,Option.getD_some]at hQ;exact abi hQ
 ·have hlen:=rv.length;rw[aab]at hlen;have e:((List.range aL.toArray.size).any fun i=>(bs[i]?).getD false)=bs.any id:=by
   rw[aap,<- hlen];exact LSm.range_any bs
  rw[e];exact⟨.bl _,H,I.kept (LSm.kept_iter hk),rfl,q⟩
def GC(K:zn):R2:=fun x y H Q=>∃ a b xs ys,x=.ref a/\y=.ref b/\eY K H a xs/\eY K H b ys/\xs.length+ys.length<=sizeLine /\
 (xs=[]->Q (.ref b) H)/\(xs≠[]->ys=[]->Q (.ref a) H)/\(xs≠[]->ys≠[]->∀ p,H p=none->Q (.ref p) (upd H p (.tup (xs++ys))))
theorem rZ:gq X (binaryOp .Add) (GC X.K):=by
 intro pins s σ H x y v u Q I rx ry h;obtain⟨a,b,xs,ys,rfl,rfl,ha,hb,hz,q0,q1,q2⟩:=h;cases rx;cases ry;obtain⟨aL,r1,p1,_⟩:=I.tuple ha;obtain⟨DZ,r2,p2,_⟩:=I.tuple hb
 by_cases e0:aL=[]
 ·obtain⟨⟨cls,dd,data,sl⟩,ho,hc,n,hd⟩:=id p1;obtain⟨⟨Qm,O6,data2,O7⟩,jh,zt,n2,hd2⟩:=id p2;simp only at hc hd zt hd2;subst hc hd zt hd2;exact concat_meets ⟨_,ho,rfl⟩ ⟨_,jh,rfl⟩ noFill_tuple_add seq_tuple_add acp ack (ach _ _)
   (tuple_addW0 a b aL.toArray DZ.toArray n n2 dd O6 sl O7 (by simp[e0])) ⟨ho,jh,.ref b,H,I,rfl,q0 (r1.lj.mp e0)⟩
 ·have hx:xs≠[]:=fun z=>e0 (r1.lj.mpr z);refine HT.DJ p1 p2 e0 (fun z=>⟨.ref a,H,I,rfl,q1 hx (r2.lj.mp z)⟩) (fun z=>?_) (by rw[<- r1.length,<- r2.length];exact hz);refine⟨.ref s.heap.objs.size,_,I.laid (t':=s.toks) (o:=.tup (xs++ys)) (fun b ob q=>aac _ q) (aae _) ?_,rfl,q2 hx (fun w=>z (r2.lj.mpr w)) _ (I.bN.fresh (aae _))⟩;exact⟨by rw[aaB];exact hz,_,r1.append r2,IsTup.new _ _⟩
def GD:List V->Hp->VK->Prop:=fun xs H Q=>(∃ i,xs=[.int i]/\Q (.int i) H)\/∃ k,xs=[.bl k]/\Q (.int (if k then 1 else 0)) H
theorem iN:eE X (.type "int") GD:=x5
theorem cn.there{h:Heap}{o:HO}(x:cn P w H h a o):∃ ob,h.get? a=some ob:=by
 cases o with
 | lst xs=>obtain⟨_,_,_,_,e⟩:=x;exact⟨_,e⟩
 | tup xs=>obtain⟨_,_,_,ob,e,_⟩:=x;exact⟨_,e⟩
 | dK bC=>obtain⟨_,_,_,_,o,_,_,e,_⟩:=x;exact⟨_,e⟩
 | dT bC=>obtain⟨_,_,_,_,o,_,_,e,_⟩:=x;exact⟨_,e⟩
 | set S n=>obtain⟨o,_,_,_,e,_⟩:=x;exact⟨_,e⟩
 | ins C dx fs=>obtain⟨_,_,_,e,_⟩:=x;exact⟨_,e⟩
 | own y=>exact x
 | xd fs=>obtain⟨_,⟨_,_,_,e,_⟩,_⟩:=x;exact⟨_,e⟩
 | OT lo hi=>obtain⟨_,_,_,e⟩:=x;exact⟨_,e⟩
 | jJ ob u=>obtain⟨e,_⟩:=x;exact⟨_,e⟩
 | FR ps=>exact⟨_,x⟩
 | met f y=>exact⟨_,x⟩
 | ext φ=>obtain⟨_,e,_⟩:=x;exact e
theorem dZ.stays{h h':Heap}(x:dZ P w H h)(k:∀ b u ob,H b=some u->h.get? b=some ob->h'.get? b=some ob):dZ P w H h':=fun a o e =>
 (x a o e).rq (fun b u hb q=>by
  rcases hb with rfl | hb
  ·exact k _ _ _ e q
  ·exact k _ _ _ hb q) (fun _ q=>q) fun _ _ q=>q
structure Jd(P:tz)(w:World)(outer:List Env)(H:Hp)(s:Shared)(E:XK)(a C:Addr)(H':Hp)(B:Heap)(a0:Value)(s':Shared):Prop where
 os:s'.os=s.os
 bare:AllBare s'.gens
 un:Un (gm outer) [] H H' s.heap s'.heap
 bN:dZ P w H' s'.heap
 new:H' a=none
 fly:Heap.FlyingW B outer a (.ref C) a0 s'.heap
 Pl:∀ b o,s.heap.get? b=some o->H b=none->b ∉ gm outer->B.get? b=some o
 Je:∀ b o u,s.heap.get? b=some o->H b=some u->∃ o',B.get? b=some o'
 Dl:∀ b u,H' b=some u->∃ o',B.get? b=some o'
 want:E (.ref C) none H'
def tX(P:tz)(w:World):yb:=fun outer H s E e s'=>∃(a C:Addr) (H':Hp) (B:Heap) (a0:Value),e=.ref a/\Jd P w outer H s E a C H' B a0 s'
section
variable {K:zn}{E:XK}
def pE(K:zn)(C:Addr):Prop:=∀ h:Heap,K.In h->∃(nm q:Str) (N:Addr) (bs bm:wf) (hdct:Bool) (sn:ww) (sub:wf) (ab:Bool) (col:Option Bool) (dd:wT) (k0 k1 k2 k3 k5:wS) (mN:xL),
 h.get? C=some (excClassObj nm q C N bs bm hdct sn sub ab col dd k0 k1 k2 k3 k5 "ValueError.__new__")/\h.Ns N mN/\mN "__init__"=none/\OwnTail h [.type "ValueError",.type "Exception",.type "BaseException",.type "object"] bm/\bm.contains (.type "BaseException")=true
def uO(C:Addr)(E:XK)(t:TA):TS:=fun _ σ H=>t σ H fun vs H1=>vs.length<=sizeLine/\E (.ref C) none H1
theorem AV{x:Str}{np:Pos}{e:Expr}{t:TA}(hk:pE K C)(hg:Gl (fj (tX P w) P w K mg base N qual scope f cd A outer s H E) x)(hm:mg x=some (.ref C))(ha:PA (fj (tX P w) P w K mg base N qual scope f cd A outer s H E) (e::es) t)(hd:(x == ("__debug__":Str))=false:=by decide)(he:starEach (e::es) (envOfC qual scope s.heap.objs.size f cd)=(false,eval e (envOfC qual scope s.heap.objs.size f cd))::starEach es (envOfC qual scope s.heap.objs.size f cd):=by rfl)(lL:(backTo eS (starEach es (envOfC qual scope s.heap.objs.size f cd))).any (·.1)=false:=by rfl) :
  PS (fj (tX P w) P w K mg base N qual scope f cd A outer s H E) (.Raise (some (.Call (.Name x np) (e::es) [] eS)) none pos) (uO C E t):=by
 intro pins s1 σ H1 D I h;obtain⟨nm,q,Nn,bs,bm,hdct,sn,sub,ab,col,dd,k0,k1,k2,k3,k5,mN,hC,hN,Pm,hT,hb⟩:=hk (fj (tX P w) P w K mg base N qual scope f cd A outer s H E).base I.ok.mod.K1;refine wpAny_Raise_call_subT (C:=C) (N:=Nn) (nm:=nm) (q:=q) (bs:=bs) (bm:=bm) (hdct:=hdct) (sn:=sn) (sub:=sub) (ab:=ab) (col:=col) (dd:=dd) (k0:=k0) (k1:=k1) (k2:=k2) (k3:=k3) (k5:=k5) PySem.F.excBase_ValueError hb (I.ok.hd rfl) (by
  show(backTo eS (starEach (e::es) (envOfC qual scope s.heap.objs.size f cd))).any (·.1)=false;rw[he];show(false||(backTo eS (starEach es (envOfC qual scope s.heap.objs.size f cd))).any (·.1))=false;rw[lL];rfl) Pm (kZ I hg hm ⟨rfl,?_⟩ hd)
 have qY:=ha eS pins s1 σ H1 _ I h;rw[show(fj (tX P w) P w K mg base N qual scope f cd A outer s H E).env=envOfC qual scope s.heap.objs.size f cd from rfl]at qY ⊢;rw[he]at qY ⊢;refine Calls.evalArgs_plain (ck qY fun us s2 ⟨vs,H2,I2,r2,q2⟩=>?_);have KB:=I2.bk;refine⟨rfl,by rw[<- r2.length];exact q2.1,KB _ _ hC,hN.keeps KB,hT.keeps KB,fun h' a hx=>?_⟩;have Eo:∀ en∈(envOfC qual scope s.heap.objs.size f cd::outer),∀ L,en.frame=some L->L∈gm (envOfC qual scope s.heap.objs.size f cd::outer):=fun en Ww L hL=>acM.mpr ⟨en,Ww,hL⟩;have Hs:s2.heap.FunFrames base (envOfC qual scope s.heap.objs.size f cd::outer):=I2.stack;have ub:Un (gm outer) [] H H2 s.heap s2.heap:=I2.base;have CW:∀ b∈gm outer,H b=none:=I2.ok.CW;have Wx:∀ b∈gm (envOfC qual scope s.heap.objs.size f cd::outer),H2 b=none:=I2.oZ;have Um:∀ b o,s.heap.get? b=some o->b ∉ gm outer->b ∉ gm (envOfC qual scope s.heap.objs.size f cd::outer):=fun b o q n z=>by
  rcases aaf.mp (show b∈s.heap.objs.size::gm outer from z)with e | e
  ·have h2:=aah q;rw[e]at h2;exact absurd h2 (aaP _)
  ·exact n e
 have QY:∀ b o,s2.heap.get? b=some o->b ∉ gm (envOfC qual scope s.heap.objs.size f cd::outer)->(PySem.W.hideAll s2.heap (gm (envOfC qual scope s.heap.objs.size f cd::outer))).get? b=some o:=fun b o q n=>PySem.W.hideAll_get _ q n;have Pl:∀ b o,s.heap.get? b=some o->H b=none->b ∉ gm outer->(PySem.W.hideAll s2.heap (gm (envOfC qual scope s.heap.objs.size f cd::outer))).get? b=some o:=fun b o q n nf=>QY b o (ub.keep b o q n nf (by simp)) (Um b o q nf);have Je:∀ b o u,s.heap.get? b=some o->H b=some u->∃ o',(PySem.W.hideAll s2.heap (gm (envOfC qual scope s.heap.objs.size f cd::outer))).get? b=some o':=fun b o u q n=>by
  obtain⟨o1,e1⟩:=ub.there b o q (by simp);exact⟨o1,QY b o1 e1 (Um b o q fun z=>by rw[CW b z]at n;cases n)⟩
 have Dl:∀ b u,H2 b=some u->∃ o',(PySem.W.hideAll s2.heap (gm (envOfC qual scope s.heap.objs.size f cd::outer))).get? b=some o'/\s2.heap.get? b=some o':=fun b u n=>by
  obtain⟨ob,e⟩:=(I2.bN b u n).there;exact⟨ob,QY b ob e (fun z=>by rw[Wx b z]at n;cases n),e⟩
 show wpAny _ _ (leaving _ _) _ _ _;refine wpAny_leaves_madeW (L:=s.heap.objs.size) (base:=PySem.W.hideAll s2.heap (gm (envOfC qual scope s.heap.objs.size f cd::outer))) (h:=s2.heap) (show(A.deeper (envOfC qual scope s.heap.objs.size f cd)).frames=some (envOfC qual scope s.heap.objs.size f cd::outer) from I2.ok.frames) rfl (fun b o q=>PySem.W.of_hideAll _ q) (PySem.W.funFrames_hide Hs Eo) hx fun Wy tt fl tu tn us=>?_;have GF:∀ b o,s.heap.get? b=some o->H b=none->b∈gm outer->∃ sl,Wy.get? b=some { o with slots:=sl }:=fun b o q n hb=>by
  obtain⟨sl,e1⟩:=ub.slot b o q n hb (by simp);obtain⟨_,o2,e2,nd⟩:=Hs.mem (show b∈(envOfC qual scope s.heap.objs.size f cd::outer).filterMap (·.frame) from aan _ hb);rw[e1]at e2;cases e2;obtain⟨P9,e3⟩:=us b _ (hx.keeps b _ e1) nd;exact⟨P9,e3⟩
 refine⟨a,C,H2,_,_,rfl,I2.os,I2.bare,⟨fun b o q n nf _=>fl.1 b o (Pl b o q n nf),fun b o q n hb _=>GF b o q n hb,ub.free,fun b o q _=>?_,ub.oW,ub.nG,ub.oX⟩,I2.bN.stays fun b u ob hb q=>?_,?_,fl,Pl,Je,fun b u n=>?_,q2.2⟩
 ·cases hH:H b with
  | some u =>
   obtain⟨o',e'⟩:=Je b o u q hH;exact⟨o',fl.1 b o' e'⟩
  | none =>
   by_cases hb:b∈gm outer
   ·obtain⟨sl,e3⟩:=GF b o q hH hb;exact⟨_,e3⟩
   ·exact⟨o,fl.1 b o (Pl b o q hH hb)⟩
 ·obtain⟨o',e',e2⟩:=Dl b u hb;rw[q]at e2;cases e2;exact fl.1 b _ e'
 ·cases n:H2 a with
  | none=>rfl
  | some u =>
   obtain⟨_,_,e2⟩:=Dl a u n;rw[hx.new]at e2;cases e2
 ·obtain⟨o',e',_⟩:=Dl b u n;exact⟨o',e'⟩
end
def Cx.MH(X:Cx)(xe:xz):Cx:={ X with xe:=xe }
def Cx.marked(X:Cx)(a:Addr)(xe:xz):Cx:={ X with A:=X.A.mark (some (.ref a)),calm:=false,xe:=xe }
def QZ(a:Addr)(cls:Value):HO:=.ext fun h=>∃ o,h.get? a=some o/\o.cls=cls
section
variable {K:zn}{E:XK}
theorem pG{x:Str}{np:Pos}{e:Expr}{t:TA}(hk:pE K C)(hm:mg x=some (.ref C))(ha:SA (fj (tX P w) P w K mg base N qual scope f cd A outer s H E) (e::es) t)(hs:(e::es).all noStar=true:=by rfl)(hg:Gl (fj (tX P w) P w K mg base N qual scope f cd A outer s H E) x:=by rfl)(hd:(x == ("__debug__":Str))=false:=by decide) :
  SS (fj (tX P w) P w K mg base N qual scope f cd A outer s H E) (.Raise (some (.Call (.Name x np) (e::es) [] eS)) none pos) (uO C E t) :=
 ⟨AV hk hg hm ha.run hd (bX es _ (by rw[aaK,aas]at hs;exact hs.1)) (eI (by rw[aaK,aas]at hs;exact hs.2))⟩
end
theorem cA.WA{K:zn}{x:Str}{st:Stmt}{k:Nat}{sp:Sp}(F:cA K x qual st f fd)(S:ay N ps (defScope st))(len:∀ vs H Q E,sp vs H Q E->vs.length=ps.length)(cY:∀(bq:Value) (A:t0) (outer:List Env) (s:Shared) (H:Hp) (vs:List V) (Q:VK) (E:XK),cB k (A.deeper (envOfC qual (defScope st) s.heap.objs.size f bq))->sp vs H Q E ->
   ∃ t,rV (fj (tX P w) P w K mg base N qual (defScope st) f bq A outer s H E) (defBody st) t/\t { nx:=fun _ H'=>Q .cD H',rt:=Q } (start N vs) H):aW P w K mg base (tX P w) (k+1) f fd ps sp:=by
 obtain⟨oc,od,kV,doc,pm,an,bq,ct,ux,rfl,lk,xU⟩:=F.ex;refine Gd lk xU S len fun A outer s H vs Q E hr wz=>?_;obtain⟨t,h,q⟩:=cY bq A outer s H vs Q E hr wz;exact⟨t,h.run,q⟩
structure Q0(P:tz)(w:World)(K:zn)(mg:xL)(base:Heap)(k:Nat)(x:Str)(f:Addr)(fd:v6)(ps:ww)(sp:Sp):Prop where
 ok:aW P w K mg base (tX P w) k f fd ps sp
 b:Binds K fd ps []
 kp:PySem.W.keepIn K (.ref f)=true
 m:mg x=some (.ref f)
inductive DV where
 | im (d:PyData) | pt (p:Addr) | cst (xs:List V) | rf (a:Addr) | ty (n:String) | uP (c:Addr) | raw (xs:List V) | iO (ns:wn) | tp (xs:List (PyData ⊕ Addr))
inductive Cell where
 | lst (xs:List DV) | aM (g:Addr) (n:Nat) | part | dk (bC:List (Key×DV)) | dt (bC:List (List Key×DV)) | ob (k d:Addr) (fs:List (Str×DV))
variable {c:Cell}
abbrev Wd:=Addr->Option Cell
variable {W:Wd}
def aG(W:Wd)(p:Addr)(c:Cell):Wd:=fun a=>if a=p then some c else W a
def pH(W:Wd)(p:Addr):Wd:=fun a=>if a=p then none else W a
theorem ar:aG W p c p=some c:=by unfold aG;rw[aau rfl]
theorem aA(h:a≠p):aG W p c a=W a:=by unfold aG;rw[aao h]
theorem jU{c':Cell}:aG (aG W p c) p c'=aG W p c':=by funext a;unfold aG;split<;>rfl
theorem gx:pH W p p=none:=by unfold pH;rw[aau rfl]
theorem gH(h:a≠p):pH W p a=W a:=by unfold pH;rw[aao h]
open Classical in
noncomputable def hide (O:Addr->Prop) (H:Hp):Hp:=fun a=>if O a then none else H a
theorem av{O:Addr->Prop}{o:HO}:hide O H a=some o↔¬ O a/\H a=some o:=by
 unfold hide
 by_cases h:O a
 ·rw[aau h];exact⟨(fun z=>by cases z),(fun z=>absurd h z.1)⟩
 ·rw[aao h];exact⟨fun z=>⟨h,z⟩,fun z=>z.2⟩
def Mu(o:Option HO):Prop:=∃ u,o=some u/\∀ xs,u≠.tup xs
theorem Mu.ne{o:Option HO}(h:Mu o):o≠none:=by obtain⟨u,e,_⟩:=h;rw[e];exact fun z=>nomatch z
structure DC where
 K:zn
 Rs:Hp->Addr->Addr->Nat->Prop
 H0:Hp
 T:Addr->Prop
 O:Addr->Prop
 E:XK
 ex:Addr->Prop
structure DC.Ok(C:DC):Prop where
 rs:∀{H H':Hp} {t g:Addr} {n:Nat},C.Rs H t g n->H' t=H t->H' g=H g->C.Rs H' t g n
 rn:∀{H:Hp} {t g:Addr} {n:Nat},C.Rs H t g n->Mu (H t)/\Mu (H g)
 ex:∀ c,C.ex c->∀ H',(∀ a o,C.H0 a=some o->¬ C.T a->H' a=some o)->C.E (.ref c) none H'
noncomputable def Fz (C:DC) (W:Wd) (H:Hp):Hp:=hide (fun a=>C.O a\/(W a).isSome=true) H
def ft(F:Hp):List (PyData ⊕ Addr)->List V->Prop
 | [],vs=>vs=[]
 | .inl d::r,vs=>∃ y ys,vs=y::ys/\Rep F d y/\ft F r ys
 | .inr p::r,vs=>∃ ys,vs=.ref p::ys/\ft F r ys
theorem ft.same{F F':Hp}(s:aJ F F'):∀{ts:List (PyData ⊕ Addr)} {vs:List V},ft F ts vs->ft F' ts vs
 | [],_,h=>h
 | .inl _::_,_,⟨y,ys,e,h,r⟩=>⟨y,ys,e,Rep.same s h,ft.same s r⟩
 | .inr _::_,_,⟨ys,e,r⟩=>⟨ys,e,ft.same s r⟩
def dG(C:DC)(F:Hp):DV->V->Prop
 | .im d,x=>Rep F d x
 | .pt p,x=>x=.ref p
 | .cst xs,x=>∃ a,x=.ref a/\∀ H,eY C.K H a xs
 | .rf a,x=>x=.ref a
 | .ty n,x=>x=.ty n
 | .uP c,x=>∃ a,x=.ref a/\F a=some (QZ a (.ref c))
 | .raw xs,x=>∃ a,x=.ref a/\F a=some (.tup xs)
 | .iO ns,x=>∃ a,x=.ref a/\eQ C.K F a (ns.map V.int)
 | .tp ts,x=>∃ a vs,x=.ref a/\F a=some (.tup vs)/\ft F ts vs
def aD(C:DC)(F:Hp):List DV->List V->Prop
 | [],xs=>xs=[]
 | d::ds,xs=>∃ y ys,xs=y::ys/\dG C F d y/\aD C F ds ys
def Jg:PyData ⊕ Addr->DV
 | .inl d=>.im d
 | .inr p=>.pt p
theorem l9{C:DC}{F:Hp}:∀{ts:List (PyData ⊕ Addr)} {vs:List V},ft F ts vs->aD C F (ts.map Jg) vs
 | [],_,h=>h
 | .inl _::_,_,⟨y,ys,e,h,r⟩=>⟨y,ys,e,h,l9 r⟩
 | .inr _::_,_,⟨ys,e,r⟩=>⟨_,ys,e,rfl,l9 r⟩
theorem uQ{C:DC}{F:Hp}:∀{ts:List (PyData ⊕ Addr)} {vs:List V},aD C F (ts.map Jg) vs->ft F ts vs
 | [],_,h=>h
 | .inl _::_,_,⟨y,ys,e,h,r⟩=>⟨y,ys,e,h,uQ r⟩
 | .inr _::_,_,⟨y,ys,e,h,r⟩=>⟨ys,by rw[e,show y=V.ref _ from h],uQ r⟩
def cb(C:DC)(W:Wd)(H:Hp)(p:Addr):Cell->Prop
 | .lst aI=>∃ xs,H p=some (.lst xs)/\aD C (Fz C W H) aI xs
 | .aM g n=>C.Rs H p g n/\W g=some .part/\∀ t' g' n',W t'=some (.aM g' n')->t'=p
 | .part=>Mu (H p)
 | .dk bC=>∃ uR,H p=some (.dK uR)/\uR.map (·.1)=bC.map (·.1)/\aD C (Fz C W H) (bC.map (·.2)) (uR.map (·.2))
 | .dt bC=>∃ uR,H p=some (.dT uR)/\uR.map (·.1)=bC.map (·.1)/\aD C (Fz C W H) (bC.map (·.2)) (uR.map (·.2))
 | .ob k d fs=>∃ eW,H p=some (.ins k d eW)/\eW.map (·.1)=fs.map (·.1)/\aD C (Fz C W H) (fs.map (·.2)) (eW.map (·.2))
abbrev bD:=List (Option DV)
def Slots(C:DC)(F:Hp):bD->St->Prop
 | [],[]=>True
 | none::ρ,_::σ=>Slots C F ρ σ
 | some dv::ρ,some v::σ=>dG C F dv v/\Slots C F ρ σ
 | _,_=>False
structure DR(C:DC)(σ:St)(H:Hp)(ρ:bD)(W:Wd):Prop where
 ok:C.Ok
 fr:∀ a o,C.H0 a=some o->¬ C.T a->H a=some o
 ho:∀ a,C.O a->H a≠none
 th:∀ a,C.T a->H a≠none
 sl:Slots C (Fz C W H) ρ σ
 ce:∀ p c,W p=some c->(C.H0 p=none\/C.T p)/\¬ C.O p/\cb C W H p c
section
variable {C:DC}{F F':Hp}{σ:St}{ρ:bD}{H':Hp}{W':Wd}{dv:DV}{x:V}{aI:List DV}{xs:List V}
theorem dG.mono(s:aJ F F'):∀{dv:DV},dG C F dv x->dG C F' dv x
 | .im _,h=>Rep.same s h
 | .pt _,h=>h
 | .cst _,h=>h
 | .rf _,h=>h
 | .ty _,h=>h
 | .uP _,⟨a,e,h⟩=>⟨a,e,s _ _ h⟩
 | .raw _,⟨a,e,h⟩=>⟨a,e,s _ _ h⟩
 | .iO _,⟨a,e,h⟩=>⟨a,e,s.seq h⟩
 | .tp _,⟨a,vs,e,h,r⟩=>⟨a,vs,e,s _ _ h,r.same s⟩
theorem aD.mono(s:aJ F F'):∀{aI:List DV} {xs:List V},aD C F aI xs->aD C F' aI xs
 | [],_,h=>h
 | _::_,_,⟨y,ys,e,h,r⟩=>⟨y,ys,e,h.mono s,aD.mono s r⟩
theorem aD.length:∀{aI:List DV} {xs:List V},aD C F aI xs->aI.length=xs.length
 | [],_,h=>by cases h;rfl
 | _::_,_,⟨y,ys,e,_,r⟩=>by subst e;simp[aD.length r]
theorem aD.get:∀{aI:List DV} {xs:List V} {i:Nat} {dv:DV},aD C F aI xs->aI[i]?=some dv->∃ x,xs[i]?=some x/\dG C F dv x
 | [],_,_,_,_,e=>by simp at e
 | _::_,_,0,_,⟨y,ys,e1,r,_⟩,e=>by simp at e;subst e e1;exact⟨y,rfl,r⟩
 | _::_,_,i+1,d,⟨y,ys,e1,_,rs⟩,e=>by
  obtain⟨x,h1,h2⟩:=aD.get (i:=i) (dv:=d) rs (by simpa using e);subst e1;exact⟨x,by simpa using h1,h2⟩
theorem aD.get'{i:Nat}(r:aD C F aI xs)(e:xs[i]?=some x):∃ dv,aI[i]?=some dv/\dG C F dv x:=by
 have hl:=r.length;have hi:i < xs.length:=(aal.mp e).1;obtain⟨y,h1,h2⟩:=r.get (i:=i) (dv:=aI[i]) (by simp[hl,hi]);rw[e]at h1;cases h1;exact⟨_,by simp[hl,hi],h2⟩
theorem aD.append:∀{aI:List DV} {xs:List V} {MI:List DV} {C5:List V},aD C F aI xs->aD C F MI C5->aD C F (aI++MI) (xs++C5)
 | [],_,_,_,h,h'=>by cases h;exact h'
 | _::_,_,_,_,⟨y,ys,e,h,r⟩,h'=>by subst e;exact⟨y,_,rfl,h,aD.append r h'⟩
theorem aD.one(h:dG C F dv x):aD C F [dv] [x]:=⟨x,[],rfl,h,rfl⟩
theorem aD.set:∀{aI:List DV} {xs:List V} (i:Nat),aD C F aI xs->dG C F dv x->aD C F (aI.set i dv) (xs.set i x)
 | [],_,_,h,_=>by cases h;exact rfl
 | _::_,_,0,⟨y,ys,e,h,r⟩,h'=>by subst e;exact⟨x,ys,rfl,h',r⟩
 | _::_,_,i+1,⟨y,ys,e,h,r⟩,h'=>by subst e;exact⟨y,_,rfl,h,aD.set i r h'⟩
theorem aD.take:∀{aI:List DV} {xs:List V} (i:Nat),aD C F aI xs->aD C F (aI.take i) (xs.take i)
 | [],_,_,h=>by cases h;simp[aD]
 | _::_,_,0,_=>by simp[aD]
 | _::_,_,i+1,⟨y,ys,e,h,r⟩=>by subst e;exact⟨y,_,rfl,h,aD.take i r⟩
theorem aD.drop:∀{aI:List DV} {xs:List V} (i:Nat),aD C F aI xs->aD C F (aI.drop i) (xs.drop i)
 | [],_,_,h=>by cases h;simp[aD]
 | _::_,_,0,h=>h
 | _::_,_,i+1,⟨y,ys,e,h,r⟩=>by subst e;exact aD.drop i r
theorem aD.erase:∀{aI:List DV} {xs:List V} (i:Nat),aD C F aI xs->aD C F (aI.eraseIdx i) (xs.eraseIdx i)
 | [],_,_,h=>by cases h;exact rfl
 | _::_,_,0,⟨y,ys,e,h,r⟩=>by subst e;exact r
 | _::_,_,i+1,⟨y,ys,e,h,r⟩=>by subst e;exact⟨y,_,rfl,h,aD.erase i r⟩
theorem aD.rep(k:Nat)(h:aD C F aI xs):aD C F (List.replicate k aI).flatten (List.replicate k xs).flatten:=by
 induction k with
 | zero=>exact rfl
 | succ k ih=>rw[abl,abl,abN,abN];exact h.append ih
theorem aD.fu:∀{ds:wP} {xs:List V},ak F ds xs->aD C F (ds.map .im) xs
 | [],_,h=>h
 | _::_,_,⟨y,ys,e,h,r⟩=>⟨y,ys,e,h,aD.fu r⟩
theorem aD.r6:∀{ds:wP} {xs:List V},aD C F (ds.map .im) xs->ak F ds xs
 | [],_,h=>h
 | _::_,_,⟨y,ys,e,h,r⟩=>⟨y,ys,e,h,aD.r6 r⟩
theorem Slots.mono(s:aJ F F'):∀{ρ:bD} {σ:St},Slots C F ρ σ->Slots C F' ρ σ
 | [],[],h=>h
 | none::ρ,_::σ,h=>Slots.mono (ρ:=ρ) (σ:=σ) s h
 | some _::_,some _::_,h=>⟨h.1.mono s,Slots.mono s h.2⟩
 | some _::_,none::_,h=>h.elim
 | [],_::_,h=>h.elim
 | none::_,[],h=>h.elim
 | some _::_,[],h=>h.elim
theorem Slots.get:∀{ρ:bD} {σ:St} {i:Nat} {dv:DV},Slots C F ρ σ->ρ[i]?=some (some dv)->∃ v,σ[i]?=some (some v)/\dG C F dv v
 | [],[],_,_,_,e=>by simp at e
 | none::_,_::_,0,_,_,e=>by simp at e
 | none::ρ,_::σ,i+1,_,h,e=>by
  obtain⟨v,h1,h2⟩:=Slots.get (ρ:=ρ) (σ:=σ) (i:=i) h (by simpa using e);exact⟨v,by simpa using h1,h2⟩
 | some _::_,some v::_,0,_,h,e=>by simp at e;subst e;exact⟨v,rfl,h.1⟩
 | some _::_,some _::_,i+1,_,h,e=>by
  obtain⟨v,h1,h2⟩:=Slots.get (i:=i) h.2 (by simpa using e);exact⟨v,by simpa using h1,h2⟩
 | some _::_,none::_,_,_,h,_=>h.elim
 | [],_::_,_,_,h,_=>h.elim
 | none::_,[],_,_,h,_=>h.elim
 | some _::_,[],_,_,h,_=>h.elim
theorem Slots.set{v:V}(hv:dG C F dv v):∀{ρ:bD} {σ:St} (i:Nat),Slots C F ρ σ->Slots C F (ρ.set i (some dv)) (σ.set i (some v))
 | [],[],_,h=>by cases ‹Nat›<;>exact h
 | none::_,_::_,0,h=>⟨hv,h⟩
 | none::ρ,_::σ,i+1,h=>Slots.set (ρ:=ρ) (σ:=σ) hv i h
 | some _::_,some _::_,0,h=>⟨hv,h.2⟩
 | some _::_,some _::_,i+1,h=>⟨h.1,Slots.set hv i h.2⟩
 | some _::_,none::_,_,h=>h.elim
 | [],_::_,_,h=>h.elim
 | none::_,[],_,h=>h.elim
 | some _::_,[],_,h=>h.elim
theorem Slots.at(h:Slots C F ρ σ)(i:Nat):Slots C F [(ρ[i]?).join] [(σ[i]?).join]:=by
 cases e:(ρ[i]?).join with
 | none=>exact trivial
 | some dv =>
  have e':ρ[i]?=some (some dv):=by
   cases q:ρ[i]? with
   | none=>rw[q]at e;cases e
   | some o=>rw[q]at e;exact abz some e
  obtain⟨v,h1,h2⟩:=h.get e';rw[h1];exact⟨h2,trivial⟩
def yu(ix:List (Option Nat))(ρ:bD):bD:=ix.map fun o=>match o with | none=>none | some j=>(ρ[j]?).join
theorem Slots.blk(h:Slots C F ρ σ):∀ ix:List (Option Nat),Slots C F (yu ix ρ) (L2.blk ix σ)
 | []=>trivial
 | none::r=>by show Slots C F (none::yu r ρ) (none::L2.blk r σ);exact Slots.blk h r
 | some j::r=>by
  have h1:=h.at j;have h2:=Slots.blk h r;show Slots C F ((ρ[j]?).join::yu r ρ) ((σ[j]?).join::L2.blk r σ);cases e:(ρ[j]?).join with
  | none=>exact h2
  | some dv =>
   rw[e]at h1;cases e2:(σ[j]?).join with
   | none=>rw[e2]at h1;exact h1.elim
   | some v=>rw[e2]at h1;exact⟨h1.1,h2⟩
theorem Fz.le{o:HO}(h:Fz C W H a=some o):H a=some o:=(av.mp h).2
theorem Fz.sm:aJ (Fz C W H) H:=fun _ _ h=>Fz.le h
theorem Fz.same(hW:∀ a,(W' a).isSome=true->(W a).isSome=true\/H a=none)(hH:∀ a o,H a=some o->W a=none->H' a=some o):aJ (Fz C W H) (Fz C W' H'):=fun a o h=>by
 obtain⟨h1,h2⟩:=av.mp h;refine av.mpr ⟨fun z=>?_,hH a o h2 ?_⟩
 ·rcases z with z | z
  ·exact h1 (.inl z)
  ·rcases hW a z with q | q
   ·exact h1 (.inr q)
   ·rw[q]at h2;cases h2
 ·cases e:W a with
  | none=>rfl
  | some c=>exact absurd (.inr (by rw[e];rfl)) h1
theorem cb.mono{c:Cell}(s:aJ (Fz C W H) (Fz C W' H'))(ok:C.Ok)(hp:H' p=H p)(hg:∀ g,W g=some .part->W' g=some .part/\H' g=H g)(ht:∀ t' g' n',W' t'=some (.aM g' n')->∃ n,W t'=some (.aM g' n))(h:cb C W H p c):cb C W' H' p c:=by
 cases c with
 | lst aI=>obtain⟨xs,e,r⟩:=h;exact⟨xs,by rw[hp];exact e,r.mono s⟩
 | aM g n =>
  obtain⟨r,e,u⟩:=h;refine⟨ok.rs r hp (hg g e).2,(hg g e).1,fun t' g' n' q=>?_⟩;obtain⟨m,q⟩:=ht t' g' n' q;exact u t' g' m q
 | part=>show Mu (H' p);rw[hp];exact h
 | dk bC=>obtain⟨ks,e,k,r⟩:=h;exact⟨ks,by rw[hp];exact e,k,r.mono s⟩
 | dt bC=>obtain⟨ks,e,k,r⟩:=h;exact⟨ks,by rw[hp];exact e,k,r.mono s⟩
 | ob _ _ bC=>obtain⟨ks,e,k,r⟩:=h;exact⟨ks,by rw[hp];exact e,k,r.mono s⟩
theorem cb.there(ok:C.Ok)(h:cb C W H p c):H p≠none:=by
 cases c with
 | lst aI=>obtain⟨xs,e,r⟩:=h;rw[e];exact fun z=>nomatch z
 | aM g n=>exact(ok.rn h.1).1.ne
 | part=>exact h.ne
 | dk bC=>obtain⟨ks,e,k,r⟩:=h;rw[e];exact fun z=>nomatch z
 | dt bC=>obtain⟨ks,e,k,r⟩:=h;rw[e];exact fun z=>nomatch z
 | ob _ _ bC=>obtain⟨ks,e,k,r⟩:=h;rw[e];exact fun z=>nomatch z
theorem cb.mu(ok:C.Ok)(h:cb C W H p c):Mu (H p):=by
 cases c with
 | lst aI=>obtain⟨xs,e,r⟩:=h;exact⟨_,e,fun _ z=>nomatch z⟩
 | aM g n=>exact(ok.rn h.1).1
 | part=>exact h
 | dk bC=>obtain⟨ks,e,k,r⟩:=h;exact⟨_,e,fun _ z=>nomatch z⟩
 | dt bC=>obtain⟨ks,e,k,r⟩:=h;exact⟨_,e,fun _ z=>nomatch z⟩
 | ob _ _ bC=>obtain⟨ks,e,k,r⟩:=h;exact⟨_,e,fun _ z=>nomatch z⟩
theorem DR.there(D:DR C σ H ρ W)(h:W p=some c):H p≠none:=(D.ce p c h).2.2.there D.ok
theorem DR.fresh(D:DR C σ H ρ W)(h:H p=none):W p=none:=by
 cases e:W p with
 | none=>rfl
 | some c=>exact absurd h (D.there e)
theorem DR.nO(D:DR C σ H ρ W)(h:H p=none):¬ C.O p:=fun z=>D.ho p z h
theorem DR.Jh(D:DR C σ H ρ W)(h:H p=none):C.H0 p=none:=by
 cases e:C.H0 p with
 | none=>rfl
 | some o =>
  by_cases ht:C.T p
  ·exact absurd h (D.th p ht)
  ·rw[D.fr p o e ht]at h;cases h
theorem DR.step(D:DR C σ H ρ W)(hW:∀ a,(W' a).isSome=true->(W a).isSome=true\/H a=none)(hH:∀ a o,H a=some o->W a=none->H' a=some o)(hn:∀ a,H a≠none->H' a≠none)(hc:aJ (Fz C W H) (Fz C W' H')->∀ p c,W' p=some c->(C.H0 p=none\/C.T p)/\¬ C.O p/\cb C W' H' p c):DR C σ H' ρ W'/\aJ (Fz C W H) (Fz C W' H'):=by
 have s:=Fz.same (C:=C) hW hH;refine⟨⟨D.ok,fun a o e ht=>?_,fun a ha=>hn a (D.ho a ha),fun a ha=>hn a (D.th a ha),D.sl.mono s,hc s⟩,s⟩;refine hH a o (D.fr a o e ht) ?_;cases q:W a with
 | none=>rfl
 | some c =>
  rcases (D.ce a c q).1 with z | z
  ·rw[e]at z;cases z
  ·exact absurd z ht
end
end L2
namespace L2
open PySem PySem.Spec PyProof.Rows
variable {H F:Hp}{d dx:PyData}
def Cell.plain:Cell->Bool
 | .aM _ _=>false
 | .part=>false
 | _=>true
section
variable {C:DC}{σ:St}{ρ:bD}{H':Hp}{W W':Wd}{p:Addr}{dv:DV}{x:V}{aI Q1:List DV}{xs:List V}
theorem r8{a:Addr}{o u:HO}(h:H p=none)(e:H a=some o):upd H p u a=some o:=by rw[bc (bH e h)];exact e
theorem uS{a:Addr}{o:HO}(h:H a≠none):upd H p o a≠none:=by
 unfold upd;split
 ·exact fun z=>nomatch z
 ·exact h
theorem DR.AX(D:DR C σ H ρ W)(h:H p=none)(o:HO):DR C σ (upd H p o) ρ W/\aJ (Fz C W H) (Fz C W (upd H p o))/\Fz C W (upd H p o) p=some o:=by
 have np:∀ a,H a≠none->a≠p:=fun a ha z=>ha (by rw[z];exact h);obtain⟨d,s⟩:=D.step (W':=W) (H':=upd H p o) (fun a z=>.inl z) (fun a u e _=>r8 h e) (fun a ha=>uS ha) fun s q c e=>by
  obtain⟨h1,h2,h3⟩:=D.ce q c e;exact⟨h1,h2,h3.mono s D.ok (bc (np q (D.there e))) (fun g hg=>⟨hg,bc (np g (D.there hg))⟩) fun t' g' n' z=>⟨n',z⟩⟩
 refine⟨d,s,av.mpr ⟨fun z=>?_,cK⟩⟩;rcases z with z | z
 ·exact D.nO h z
 ·rw[D.fresh h]at z;cases z
theorem DR.MJ{c:Cell}{o:HO}(D:DR C σ H ρ W)(h:H p=none)(hp:c.plain=true)(hc:aJ (Fz C W H) (Fz C (aG W p c) (upd H p o))->cb C (aG W p c) (upd H p o) p c):DR C σ (upd H p o) ρ (aG W p c)/\aJ (Fz C W H) (Fz C (aG W p c) (upd H p o)):=by
 have np:∀ a,H a≠none->a≠p:=fun a ha z=>ha (by rw[z];exact h);refine D.step (fun a z=>?_) (fun a u e _=>r8 h e) (fun a ha=>uS ha) fun s q c' e=>?_
 ·by_cases hq:a=p
  ·exact .inr (by rw[hq];exact h)
  ·rw[aA hq]at z;exact .inl z
 ·by_cases hq:q=p
  ·subst hq;rw[ar]at e;cases e;exact⟨.inl (D.Jh h),D.nO h,hc s⟩
  ·rw[aA hq]at e;obtain⟨h1,h2,h3⟩:=D.ce q c' e;refine⟨h1,h2,h3.mono s D.ok (bc hq) (fun g hg=>?_) fun t' g' n' z=>?_⟩
   ·have:=np g (D.there hg);exact⟨by rw[aA this];exact hg,bc this⟩
   ·by_cases ht:t'=p
    ·subst ht;rw[ar]at z;cases z;cases hp
    ·rw[aA ht]at z;exact⟨n',z⟩
theorem DR.Q2(D:DR C σ H ρ W)(h:H p=none)(r:aD C (Fz C W H) aI xs):DR C σ (upd H p (.lst xs)) ρ (aG W p (.lst aI))/\aJ (Fz C W H) (Fz C (aG W p (.lst aI)) (upd H p (.lst xs))) :=
 D.MJ h rfl fun s=>⟨xs,cK,r.mono s⟩
theorem DR.Uo{c c0:Cell}{o:HO}(D:DR C σ H ρ W)(e:W p=some c0)(h0:c0.plain=true)(h1:c.plain=true)(hc:aJ (Fz C W H) (Fz C (aG W p c) (upd H p o))->cb C (aG W p c) (upd H p o) p c):DR C σ (upd H p o) ρ (aG W p c)/\aJ (Fz C W H) (Fz C (aG W p c) (upd H p o)):=by
 refine D.step (fun a z=>?_) (fun a u q w=>?_) (fun a ha=>uS ha) fun s q c' e'=>?_
 ·by_cases hq:a=p
  ·exact .inl (by rw[hq,e];rfl)
  ·rw[aA hq]at z;exact .inl z
 ·rw[bc (fun z=>by rw[z,e]at w;cases w)];exact q
 ·by_cases hq:q=p
  ·subst hq;rw[ar]at e';cases e';exact⟨(D.ce q c0 e).1,(D.ce q c0 e).2.1,hc s⟩
  ·rw[aA hq]at e';obtain⟨C8,h2,h3⟩:=D.ce q c' e';refine⟨C8,h2,h3.mono s D.ok (bc hq) (fun g hg=>?_) fun t' g' n' z=>?_⟩
   ·have:g≠p:=fun z=>by rw[z,e]at hg;cases hg;cases h0
    exact⟨by rw[aA this];exact hg,bc this⟩
   ·by_cases ht:t'=p
    ·subst ht;rw[ar]at z;cases z;cases h1
    ·rw[aA ht]at z;exact⟨n',z⟩
theorem DR.wr(D:DR C σ H ρ W)(e:W p=some (.lst Q1))(r:aD C (Fz C W H) aI xs):DR C σ (upd H p (.lst xs)) ρ (aG W p (.lst aI))/\aJ (Fz C W H) (Fz C (aG W p (.lst aI)) (upd H p (.lst xs))) :=
 D.Uo e rfl rfl fun s=>⟨xs,cK,r.mono s⟩
theorem DR.del{c0:Cell}(D:DR C σ H ρ W)(e:W p=some c0)(h0:c0.plain=true):DR C σ H ρ (pH W p)/\aJ (Fz C W H) (Fz C (pH W p) H):=by
 refine D.step (fun a z=>?_) (fun a u q w=>q) (fun a ha=>ha) fun s q c' e'=>?_
 ·by_cases hq:a=p
  ·rw[hq,gx]at z;cases z
  ·rw[gH hq]at z;exact .inl z
 ·by_cases hq:q=p
  ·subst hq;rw[gx]at e';cases e'
  ·rw[gH hq]at e';obtain⟨C8,h2,h3⟩:=D.ce q c' e';refine⟨C8,h2,h3.mono s D.ok rfl (fun g hg=>?_) fun t' g' n' z=>?_⟩
   ·have:g≠p:=fun z=>by rw[z,e]at hg;cases hg;cases h0
    exact⟨by rw[gH this];exact hg,rfl⟩
   ·by_cases ht:t'=p
    ·subst ht;rw[gx]at z;cases z
    ·rw[gH ht]at z;exact⟨n',z⟩
theorem fT{a:Addr}(s:aJ H H')(h:H a≠none):H' a=H a:=by
 cases e:H a with
 | none=>exact absurd e h
 | some o=>exact s a o e
theorem pI(s:aJ H H'):∀ a,H a≠none->H' a≠none:=fun a h=>by rw[fT s h];exact h
theorem DR.same(D:DR C σ H ρ W)(s:aJ H H'):DR C σ H' ρ W/\aJ (Fz C W H) (Fz C W H'):=by
 refine D.step (fun a z=>.inl z) (fun a u q _=>s a u q) (pI s) fun s' q c e=>?_;obtain⟨h1,h2,h3⟩:=D.ce q c e;exact⟨h1,h2,h3.mono s' D.ok (fT s (D.there e)) (fun g hg=>⟨hg,fT s (D.there hg)⟩) fun t' g' n' z=>⟨n',z⟩⟩
theorem DR.kp{t g:Addr}{n n':Nat}(D:DR C σ H ρ W)(e:W t=some (.aM g n))(k:Kp t g H H')(r:C.Rs H' t g n'):DR C σ H' ρ (aG W t (.aM g n'))/\aJ (Fz C W H) (Fz C (aG W t (.aM g n')) H'):=by
 obtain⟨_,eg,uq⟩:=(D.ce t _ e).2.2;have keep:∀ a,a≠t->a≠g->H a≠none->H' a=H a:=fun a h1 h2 h=>by
  cases q:H a with
  | none=>exact absurd q h
  | some o=>exact k a o q h1 h2
 have gt:g≠t:=fun z=>by rw[z,e]at eg;cases eg
 refine D.step (fun a z=>?_) (fun a u q w=>?_) (fun a ha=>?_) fun s q c e'=>?_
 ·by_cases hq:a=t
  ·exact .inl (by rw[hq,e];rfl)
  ·rw[aA hq]at z;exact .inl z
 ·exact k a u q (fun z=>by rw[z,e]at w;cases w) (fun z=>by rw[z,eg]at w;cases w)
 ·by_cases h1:a=t
  ·rw[h1];exact(D.ok.rn r).1.ne
  by_cases h2:a=g
  ·rw[h2];exact(D.ok.rn r).2.ne
  rw[keep a h1 h2 ha];exact ha
 ·by_cases hq:q=t
  ·subst hq;rw[ar]at e';cases e';refine⟨(D.ce q _ e).1,(D.ce q _ e).2.1,r,by rw[aA gt];exact eg,fun t' g' m z=>?_⟩
   by_cases ht:t'=q
   ·exact ht
   ·rw[aA ht]at z;exact uq t' g' m z
  ·rw[aA hq]at e';obtain⟨C8,h2,h3⟩:=D.ce q c e';refine⟨C8,h2,?_⟩
   by_cases yv:q=g
   ·subst yv;rw[eg]at e';cases e';exact(D.ok.rn r).2
   ·cases c with
    | aM g2 n2=>exact absurd (uq q g2 n2 e') hq
    | part=>show Mu (H' q);rw[keep q hq yv (D.there e')];exact h3
    | lst ds=>obtain⟨xs,z,rr⟩:=h3;exact⟨xs,k q _ z hq yv,rr.mono s⟩
    | dk ds=>obtain⟨xs,z,kk,rr⟩:=h3;exact⟨xs,k q _ z hq yv,kk,rr.mono s⟩
    | dt ds=>obtain⟨xs,z,kk,rr⟩:=h3;exact⟨xs,k q _ z hq yv,kk,rr.mono s⟩
    | ob _ _ ds=>obtain⟨xs,z,kk,rr⟩:=h3;exact⟨xs,k q _ z hq yv,kk,rr.mono s⟩
theorem DR.set(D:DR C σ H ρ W)(i:Nat)(h:dG C (Fz C W H) dv x):DR C (σ.set i (some x)) H (ρ.set i (some dv)) W:=⟨D.ok,D.fr,D.ho,D.th,D.sl.set h i,D.ce⟩
theorem DR.slots{bp:St}{bP:bD}(D:DR C σ H ρ W)(h:Slots C (Fz C W H) bP bp):DR C bp H bP W:=⟨D.ok,D.fr,D.ho,D.th,h,D.ce⟩
def eJ(f:DV->Option PyData):List DV->Option wP
 | []=>some []
 | x::r=>(f x).bind fun d=>(eJ f r).map (d::·)
def dat:Nat->Wd->DV->Option PyData
 | _,_,.im d=>some d
 | n+1,W,.pt p=>match W p with
  | some (.lst xs)=>(eJ (dat n W) xs).map .list
  | _=>none
 | n+1,W,.tp ts=>(eJ (dat n W) (ts.map Jg)).map .tuple
 | _,_,_=>none
theorem js{f:DV->Option PyData}(hf:∀ d,f (.im d)=some d):∀ ds:List PyData,eJ f (ds.map .im)=some ds
 | []=>rfl
 | d::r=>by rw[aaQ];unfold eJ;rw[hf,js hf r];rfl
theorem fv{F:Hp}{f:DV->Option PyData}(hf:∀ dv x d,dG C (Fz C W H) dv x->f dv=some d->Rep F d x):∀{aI:List DV} {xs:List V} {ds:wP},aD C (Fz C W H) aI xs->eJ f aI=some ds->ak F ds xs
 | [],_,_,h,e=>by cases h;cases e;exact rfl
 | d::r,_,ds,⟨y,ys,e1,h,hr⟩,e=>by
  unfold eJ at e;cases q:f d with
  | none=>rw[q]at e;cases e
  | some d' =>
   rw[q]at e;cases q2:eJ f r with
   | none=>rw[q2]at e;cases e
   | some zw =>
    rw[q2]at e;cases e;exact⟨y,ys,e1,hf _ _ _ h q,fv hf hr q2⟩
def de:Option Cell->Prop
 | some (.aM _ _)=>True
 | some .part=>True
 | _=>False
theorem fk{o:Option Cell}(h:de o):∃ c,o=some c:=by
 cases o with
 | none=>exact h.elim
 | some c=>exact⟨c,rfl⟩
theorem DR.dat(D:DR C σ H ρ W):∀(n:Nat) {dv:DV} {x:V} {d:PyData},dG C (Fz C W H) dv x->dat n W dv=some d->Rep (hide (fun a=>C.O a\/de (W a)) H) d x
 | n,.im d',x,d,h,e=>by
  have e':d'=d:=by cases n<;>exact aaF e
  subst e';exact Rep.same (fun a o z=>by obtain⟨z1,z2⟩:=av.mp z;exact av.mpr ⟨fun w=>z1 (w.elim .inl fun w=>.inr (by obtain⟨c,e⟩:=fk w;rw[e];rfl)),z2⟩) h
 | 0,.pt p,_,_,_,e=>by cases e
 | n+1,.pt p,x,d,h,e=>by
  unfold L2.dat at e;cases q:W p with
  | none=>rw[q]at e;cases e
  | some c =>
   rw[q]at e;cases c with
   | lst ys =>
    cases q2:eJ (L2.dat n W) ys with
    | none=>simp[q2]at e
    | some ds =>
     simp[q2]at e;subst e;obtain⟨_,h2,xs,hx,hr⟩:=D.ce p _ q;exact⟨p,xs,h,av.mpr ⟨fun w=>w.elim h2 fun w=>by rw[q]at w;exact w,hx⟩,fv (fun dv x d h e=>DR.dat D n h e) hr q2⟩
   | aM _ _=>cases e
   | part=>cases e
   | dk _=>cases e
   | dt _=>cases e
   | ob _ _ _=>cases e
 | 0,.cst _,_,_,_,e=>by cases e
 | n+1,.cst _,_,_,_,e=>by cases e
 | 0,.rf _,_,_,_,e=>by cases e
 | n+1,.rf _,_,_,_,e=>by cases e
 | 0,.ty _,_,_,_,e=>by cases e
 | n+1,.ty _,_,_,_,e=>by cases e
 | 0,.uP _,_,_,_,e=>by cases e
 | n+1,.uP _,_,_,_,e=>by cases e
 | 0,.raw _,_,_,_,e=>by cases e
 | n+1,.raw _,_,_,_,e=>by cases e
 | 0,.iO _,_,_,_,e=>by cases e
 | n+1,.iO _,_,_,_,e=>by cases e
 | 0,.tp _,_,_,_,e=>by cases e
 | n+1,.tp ts,x,d,h,e=>by
  unfold L2.dat at e;cases q2:eJ (L2.dat n W) (ts.map Jg) with
  | none=>simp[q2]at e
  | some ds =>
   simp[q2]at e;subst e;obtain⟨p,vs,e1,h1,r⟩:=h;exact⟨p,vs,e1,av.mpr ⟨fun w=>(av.mp h1).1 (w.elim .inl fun w=>.inr (by obtain⟨c,e⟩:=fk w;rw[e];rfl)),(av.mp h1).2⟩,fv (fun dv x d h e=>DR.dat D n h e) (l9 r) q2⟩
theorem Ep{O:Addr->Prop}:aJ (hide O H) H:=fun a o h=>(av.mp h).2
theorem DR.pJ(D:DR C σ H ρ W){n:Nat}(h:dG C (Fz C W H) dv x)(e:L2.dat n W dv=some d):Rep H d x:=(D.dat n h e).same Ep
def gU(f:Wd->DV->Option (PyData×Wd)):Wd->List DV->Option (List PyData×Wd)
 | W,[]=>some ([],W)
 | W,x::r=>(f W x).bind fun(d,W1)=>(gU f W1 r).map fun(ds,W2)=>(d::ds,W2)
def jJ:Nat->Wd->DV->Option (PyData×Wd)
 | _,W,.im d=>some (d,W)
 | n+1,W,.pt p=>match W p with
  | some (.lst xs)=>(gU (jJ n) (pH W p) xs).map fun(ds,W1)=>(.list ds,W1)
  | _=>none
 | _,_,_=>none
theorem fU{f:Wd->DV->Option (PyData×Wd)}{W:Wd}(hf:∀ W d,f W (.im d)=some (d,W)):∀ ds:List PyData,gU f W (ds.map .im)=some (ds,W)
 | []=>rfl
 | d::r=>by rw[aaQ];unfold gU;rw[hf];show(gU f W (r.map .im)).map _=_;rw[fU hf r];rfl
def GG(C:DC)(σ:St)(ρ:bD)(f:Wd->DV->Option (PyData×Wd)):Prop:=∀{H:Hp} {W W':Wd} {dv:DV} {x:V} {d:PyData},DR C σ H ρ W->dG C (Fz C W H) dv x->f W dv=some (d,W')->DR C σ H ρ W'/\aJ (Fz C W H) (Fz C W' H)/\Rep (Fz C W' H) d x/\∀ a,W a=none->W' a=none
theorem fV{f:Wd->DV->Option (PyData×Wd)}(hf:GG C σ ρ f):∀{aI:List DV} {W:Wd} {xs:List V} {ds:wP} {W':Wd},DR C σ H ρ W->aD C (Fz C W H) aI xs->gU f W aI=some (ds,W')->DR C σ H ρ W'/\aJ (Fz C W H) (Fz C W' H)/\ak (Fz C W' H) ds xs/\∀ a,W a=none->W' a=none
 | [],W,_,_,_,D,h,e=>by cases h;cases e;exact⟨D,aJ.refl _,rfl,fun _ z=>z⟩
 | d::r,W,_,ds,W',D,⟨y,ys,e1,h,hr⟩,e=>by
  unfold gU at e;cases q:f W d with
  | none=>rw[q]at e;cases e
  | some dw =>
   obtain⟨d',W1⟩:=dw;rw[q]at e;cases q2:gU f W1 r with
   | none=>simp[q2]at e
   | some Q3 =>
    obtain⟨zw,W2⟩:=Q3;simp[q2]at e;obtain⟨e3,e4⟩:=e;subst e3 e4;obtain⟨D1,s1,r1,k1⟩:=hf D h q;obtain⟨D2,s2,r2,k2⟩:=fV hf D1 (hr.mono s1) q2;exact⟨D2,s1.trans s2,⟨y,ys,e1,r1.same s2,r2⟩,fun a z=>k2 a (k1 a z)⟩
theorem i5:∀ n:Nat,GG C σ ρ (jJ n)
 | n,H,W,W',.im d',x,d,D,h,e=>by
  have e':(d',W)=(d,W'):=by cases n<;>exact aaF e
  cases e';exact⟨D,aJ.refl _,h,fun _ z=>z⟩
 | 0,_,_,_,.pt p,_,_,_,_,e=>by cases e
 | n+1,H,W,W',.pt p,x,d,D,h,e=>by
  unfold jJ at e;cases q:W p with
  | none=>rw[q]at e;cases e
  | some c =>
   rw[q]at e;cases c with
   | lst ys =>
    cases q2:gU (jJ n) (pH W p) ys with
    | none=>simp[q2]at e
    | some dw =>
     obtain⟨ds,W1⟩:=dw;simp[q2]at e;obtain⟨e3,e4⟩:=e;subst e3 e4;obtain⟨_,h2,xs,hx,hr⟩:=D.ce p _ q;obtain⟨D1,s1⟩:=D.del q rfl;obtain⟨D2,s2,r2,k2⟩:=fV (i5 n) D1 (hr.mono s1) q2;refine⟨D2,s1.trans s2,⟨p,xs,h,av.mpr ⟨fun z=>?_,hx⟩,r2⟩,fun a z=>k2 a ?_⟩
     ·rcases z with z | z
      ·exact h2 z
      ·rw[k2 p gx]at z;cases z
     ·by_cases ha:a=p
      ·rw[ha];exact gx
      ·rw[gH ha];exact z
   | aM _ _=>cases e
   | part=>cases e
   | dk _=>cases e
   | dt _=>cases e
   | ob _ _ _=>cases e
 | 0,_,_,_,.cst _,_,_,_,_,e=>by cases e
 | n+1,_,_,_,.cst _,_,_,_,_,e=>by cases e
 | 0,_,_,_,.rf _,_,_,_,_,e=>by cases e
 | n+1,_,_,_,.rf _,_,_,_,_,e=>by cases e
 | 0,_,_,_,.ty _,_,_,_,_,e=>by cases e
 | n+1,_,_,_,.ty _,_,_,_,_,e=>by cases e
 | 0,_,_,_,.uP _,_,_,_,_,e=>by cases e
 | n+1,_,_,_,.uP _,_,_,_,_,e=>by cases e
 | 0,_,_,_,.raw _,_,_,_,_,e=>by cases e
 | n+1,_,_,_,.raw _,_,_,_,_,e=>by cases e
 | 0,_,_,_,.iO _,_,_,_,_,e=>by cases e
 | n+1,_,_,_,.iO _,_,_,_,_,e=>by cases e
 | 0,_,_,_,.tp _,_,_,_,_,e=>by cases e
 | n+1,_,_,_,.tp _,_,_,_,_,e=>by cases e
end
abbrev DK:=DV->Wd->Prop
abbrev cq:=bD->Wd->DK->Prop
abbrev md:=bD->Wd->(Bool->Wd->Prop)->Prop
abbrev kx:=bD->Wd->(List DV->Wd->Prop)->Prop
abbrev Ji:=bD->Wd->(Option Int->Wd->Prop)->Prop
abbrev pK:=DV->DV->Wd->DK->Prop
def KE(C:DC)(σ:St)(ρ:bD)(W:Wd)(H:Hp)(Qd:DK)(Q:VK):Prop:=∀ x dv H' W',DR C σ H' ρ W'->aJ (Fz C W H) (Fz C W' H')->dG C (Fz C W' H') dv x->Qd dv W'->Q x H'
def Pn(C:DC)(σ:St)(ρ:bD)(W:Wd)(H:Hp)(Qd:Bool->Wd->Prop)(Q:Bool->Hp->Prop):Prop:=∀ b H' W',DR C σ H' ρ W'->aJ (Fz C W H) (Fz C W' H')->Qd b W'->Q b H'
def KA(C:DC)(σ:St)(ρ:bD)(W:Wd)(H:Hp)(Qd:List DV->Wd->Prop)(Q:List V->Hp->Prop):Prop:=∀ xs aI H' W',DR C σ H' ρ W'->aJ (Fz C W H) (Fz C W' H')->aD C (Fz C W' H') aI xs->Qd aI W'->Q xs H'
def KO(C:DC)(σ:St)(ρ:bD)(W:Wd)(H:Hp)(Qd:ul->Wd->Prop)(Q:ul->Hp->Prop):Prop:=∀ o H' W',DR C σ H' ρ W'->aJ (Fz C W H) (Fz C W' H')->Qd o W'->Q o H'
class mf (C:DC) (K:zn):Prop where
 eq:C.K=K
instance {K:zn}{Rs:Hp->Addr->Addr->Nat->Prop}{H0:Hp}{T O:Addr->Prop}{E:XK}{ex:Addr->Prop}:mf ⟨K,Rs,H0,T,O,E,ex⟩ K:=⟨rfl⟩
class Jj (C:DC) (Rs:Hp->Addr->Addr->Nat->Prop):Prop where
 eq:C.Rs=Rs
instance {K:zn}{Rs:Hp->Addr->Addr->Nat->Prop}{H0:Hp}{T O:Addr->Prop}{E:XK}{ex:Addr->Prop}:Jj ⟨K,Rs,H0,T,O,E,ex⟩ Rs:=⟨rfl⟩
class Up (C:DC) (E:XK) (X:outParam (Addr->Prop)):Prop where
 e:C.E=E
 x:C.ex=X
instance {K:zn}{Rs:Hp->Addr->Addr->Nat->Prop}{H0:Hp}{T O:Addr->Prop}{E:XK}{ex:Addr->Prop}:Up ⟨K,Rs,H0,T,O,E,ex⟩ E ex:=⟨rfl,rfl⟩
class LE (C:DC) (t:TE) (d:outParam cq):Prop where
 go:∀{σ:St} {H:Hp} {ρ:bD} {W:Wd} {Qd:DK} {Q:VK},DR C σ H ρ W->d ρ W Qd->KE C σ ρ W H Qd Q->t σ H Q
class LT (C:DC) (t:TT) (d:outParam md):Prop where
 go:∀{σ:St} {H:Hp} {ρ:bD} {W:Wd} {Qd:Bool->Wd->Prop} {Q:Bool->Hp->Prop},DR C σ H ρ W->d ρ W Qd->Pn C σ ρ W H Qd Q->t σ H Q
class LA (C:DC) (t:TA) (d:outParam kx):Prop where
 go:∀{σ:St} {H:Hp} {ρ:bD} {W:Wd} {Qd:List DV->Wd->Prop} {Q:List V->Hp->Prop},DR C σ H ρ W->d ρ W Qd->KA C σ ρ W H Qd Q->t σ H Q
class LO (C:DC) (t:TO) (d:outParam Ji):Prop where
 go:∀{σ:St} {H:Hp} {ρ:bD} {W:Wd} {Qd:ul->Wd->Prop} {Q:ul->Hp->Prop},DR C σ H ρ W->d ρ W Qd->KO C σ ρ W H Qd Q->t σ H Q
class zx (C:DC) (r:R2) (d:outParam pK):Prop where
 go:∀{σ:St} {H:Hp} {ρ:bD} {W:Wd} {Qd:DK} {Q:VK} {a b:DV} {x y:V},DR C σ H ρ W->dG C (Fz C W H) a x->dG C (Fz C W H) b y->d a b W Qd->KE C σ ρ W H Qd Q->r x y H Q
class Q4 (C:DC) (r:V->Hp->VK->Prop) (d:outParam (DV->Wd->DK->Prop)):Prop where
 go:∀{σ:St} {H:Hp} {ρ:bD} {W:Wd} {Qd:DK} {Q:VK} {a:DV} {x:V},DR C σ H ρ W->dG C (Fz C W H) a x->d a W Qd->KE C σ ρ W H Qd Q->r x H Q
class GH (C:DC) (r:List V->Hp->VK->Prop) (d:outParam (List DV->Wd->DK->Prop)):Prop where
 go:∀{σ:St} {H:Hp} {ρ:bD} {W:Wd} {Qd:DK} {Q:VK} {as:List DV} {xs:List V},DR C σ H ρ W->aD C (Fz C W H) as xs->d as W Qd->KE C σ ρ W H Qd Q->r xs H Q
class Po (C:DC) (r:V->List V->Hp->VK->Prop) (d:outParam (DV->List DV->Wd->DK->Prop)):Prop where
 go:∀{σ:St} {H:Hp} {ρ:bD} {W:Wd} {Qd:DK} {Q:VK} {a:DV} {x:V} {as:List DV} {xs:List V},DR C σ H ρ W->dG C (Fz C W H) a x->aD C (Fz C W H) as xs->d a as W Qd->KE C σ ρ W H Qd Q->r x xs H Q
section
variable {C:DC}{ta tb tc te:TE}{da db dc:cq}{r r':R2}{dr Q5:pK}{c c':TT}{dt MK:md}{ts:TA}{ds:kx}{σ:St}{H':Hp}{ρ:bD}{W W':Wd}{Qd:DK}{Q:VK}{x:V}{dv:DV}
theorem KE.mono(k:KE C σ ρ W H Qd Q)(s:aJ (Fz C W H) (Fz C W' H')):KE C σ ρ W' H' Qd Q:=fun x dv H2 W2 D s2 v q=>k x dv H2 W2 D (s.trans s2) v q
theorem KE.now(k:KE C σ ρ W H Qd Q)(D:DR C σ H ρ W)(v:dG C (Fz C W H) dv x)(q:Qd dv W):Q x H:=k x dv H W D (aJ.refl _) v q
theorem KE.to(k:KE C σ ρ W H Qd Q)(D:DR C σ H' ρ W'/\aJ (Fz C W H) (Fz C W' H'))(v:dG C (Fz C W' H') dv x)(q:Qd dv W'):Q x H':=k x dv H' W' D.1 D.2 v q
def ML(i:Nat):cq:=fun ρ W Q=>∃ v,ρ[i]?=some (some v)/\Q v W
instance {i:Nat}:LE C (Hu i) (ML i):=⟨fun D ⟨v,e,q⟩ k=>by obtain⟨u,h1,h2⟩:=D.sl.get e;exact⟨u,h1,k.now D h2 q⟩⟩
def dC(v:DV):cq:=fun _ W Q=>Q v W
instance {n:Int}:LE C (tC (.int n)) (dC (.im (.int n))):=⟨fun D h k=>k.now (dv:=.im (.int n)) D rfl h⟩
instance {b:Bool}:LE C (tC (.bl b)) (dC (.im (.bool b))):=⟨fun D h k=>k.now (dv:=.im (.bool b)) D rfl h⟩
instance {s:Str}:LE C (tC (.str s)) (dC (.im (.str s))):=⟨fun D h k=>k.now (dv:=.im (.str s)) D rfl h⟩
instance:LE C (tC .cD) (dC (.im .none)):=⟨fun D h k=>k.now (dv:=.im .none) D rfl h⟩
instance {n:String}:LE C (tC (.ty n)) (dC (.ty n)):=⟨fun D h k=>k.now (dv:=.ty n) D rfl h⟩
def Uq(dr:pK)(da db:cq):cq:=fun ρ W Q=>da ρ W fun v W1=>db ρ W1 fun u W2=>dr v u W2 Q
instance [ir:zx C r dr][ia:LE C ta da][ib:LE C tb db]:LE C (xZ r ta tb) (Uq dr da db):=⟨fun D h k=>ia.go D h fun x dv H1 W1 D1 s1 v1 h1=>ib.go D1 h1 fun y du H2 W2 D2 s2 v2 h2=>ir.go D2 (v1.mono s2) v2 h2 (k.mono (s1.trans s2))⟩
def Ur(f:DV->Wd->DK->Prop)(da:cq):cq:=fun ρ W Q=>da ρ W fun v W1=>f v W1 Q
instance {u:V->Hp->VK->Prop}{f:DV->Wd->DK->Prop}[iu:Q4 C u f][ia:LE C ta da]:LE C (O4 u ta) (Ur f da):=⟨fun D h k=>ia.go D h fun x dv H1 W1 D1 s1 v1 h1=>iu.go D1 v1 h1 (k.mono s1)⟩
def Q6(da:cq):md:=fun ρ W Q=>da ρ W fun v W1=>∃ b,v=.im (.bool b)/\Q b W1
instance [ia:LE C ta da]:LT C (tB ta) (Q6 da):=⟨fun D h k=>ia.go D h fun x dv H1 W1 D1 s1 v1 ⟨b,e,q⟩=>by subst e;exact⟨b,v1,k b H1 W1 D1 s1 q⟩⟩
instance [ia:LE C ta da]:LT C (wm ta) (Q6 da):=⟨fun D h k=>ia.go D h fun x dv H1 W1 D1 s1 v1 ⟨b,e,q⟩=>by subst e;exact⟨b,v1,k b H1 W1 D1 s1 q⟩⟩
def MM(a b:md):md:=fun ρ W Q=>a ρ W fun c W1=>if c=true then b ρ W1 Q else Q false W1
def Us(a b:md):md:=fun ρ W Q=>a ρ W fun c W1=>if c=true then Q true W1 else b ρ W1 Q
def MN(a:md):md:=fun ρ W Q=>a ρ W fun c W1=>Q (!c) W1
theorem Pn.mono{Qd:Bool->Wd->Prop}{Q:Bool->Hp->Prop}(k:Pn C σ ρ W H Qd Q)(s:aJ (Fz C W H) (Fz C W' H')):Pn C σ ρ W' H' Qd Q:=fun b H2 W2 D s2 q=>k b H2 W2 D (s.trans s2) q
instance [it:LT C c dt][AY:LT C c' MK]:LT C (Hy c c') (MM dt MK):=⟨fun D h k=>it.go D h fun b H1 W1 D1 s1 h1=>by
 cases b with
 | true=>exact AY.go D1 h1 (k.mono s1)
 | false=>exact k false H1 W1 D1 s1 h1⟩
instance [it:LT C c dt][AY:LT C c' MK]:LT C (Qf c c') (Us dt MK):=⟨fun D h k=>it.go D h fun b H1 W1 D1 s1 h1=>by
 cases b with
 | true=>exact k true H1 W1 D1 s1 h1
 | false=>exact AY.go D1 h1 (k.mono s1)⟩
instance [it:LT C c dt]:LT C (Hz c) (MN dt):=⟨fun D h k=>it.go D h fun b H1 W1 D1 s1 h1=>k (!b) H1 W1 D1 s1 h1⟩
def GI(a b:cq):cq:=fun ρ W Q=>a ρ W fun v W1=>∃ c,v=.im (.bool c)/\if c=true then b ρ W1 Q else Q (.im (.bool false)) W1
def MO(a b:cq):cq:=fun ρ W Q=>a ρ W fun v W1=>∃ c,v=.im (.bool c)/\if c=true then Q (.im (.bool true)) W1 else b ρ W1 Q
def GJ(a:cq):cq:=fun ρ W Q=>a ρ W fun v W1=>∃ c,v=.im (.bool c)/\Q (.im (.bool (!c))) W1
instance [ia:LE C ta da][ib:LE C tb db]:LE C (zM ta tb) (GI da db):=⟨fun D h k=>ia.go D h fun x dv H1 W1 D1 s1 v1 ⟨b,e,q⟩=>by
 subst e;refine⟨b,v1,?_⟩;cases b with
 | true=>exact ib.go D1 q (k.mono s1)
 | false=>exact(k.mono s1).now (dv:=.im (.bool _)) D1 rfl q⟩
instance [ia:LE C ta da][ib:LE C tb db]:LE C (HE ta tb) (MO da db):=⟨fun D h k=>ia.go D h fun x dv H1 W1 D1 s1 v1 ⟨b,e,q⟩=>by
 subst e;refine⟨b,v1,?_⟩;cases b with
 | true=>exact(k.mono s1).now (dv:=.im (.bool _)) D1 rfl q
 | false=>exact ib.go D1 q (k.mono s1)⟩
instance [ia:LE C ta da]:LE C (zN ta) (GJ da):=⟨fun D h k=>ia.go D h fun x dv H1 W1 D1 s1 v1 ⟨b,e,q⟩=>by subst e;exact⟨b,v1,(k.mono s1).now (dv:=.im (.bool _)) D1 rfl q⟩⟩
def Ut(c:md)(a b:cq):cq:=fun ρ W Q=>c ρ W fun k W1=>if k=true then a ρ W1 Q else b ρ W1 Q
instance [it:LT C c dt][ia:LE C ta da][ib:LE C tb db]:LE C (Qg c ta tb) (Ut dt da db):=⟨fun D h k=>it.go D h fun b H1 W1 D1 s1 h1=>by
 cases b with
 | true=>exact ia.go D1 h1 (k.mono s1)
 | false=>exact ib.go D1 h1 (k.mono s1)⟩
def isNone:DV->Bool
 | .im .none=>true
 | _=>false
theorem ot:∀{dv:DV} {x:V},dG C F dv x->decide (x=.cD)=isNone dv
 | .im .none,x,h=>by rw[show x=.cD from h];rfl
 | .im (.bool _),x,h=>by rw[show x=.bl _ from h];rfl
 | .im (.int _),x,h=>by rw[show x=.int _ from h];exact aaq (fun z=>nomatch z)
 | .im (.str _),x,h=>by rw[show x=.str _ from h];exact aaq (fun z=>nomatch z)
 | .im (.list _),x,⟨a,_,e,_⟩=>by rw[e];exact aaq (fun z=>nomatch z)
 | .im (.tuple _),x,⟨a,_,e,_⟩=>by rw[e];exact aaq (fun z=>nomatch z)
 | .im (.dict _),x,h=>h.elim
 | .pt _,x,h=>by rw[show x=.ref _ from h];exact aaq (fun z=>nomatch z)
 | .cst _,x,⟨a,e,_⟩=>by rw[e];exact aaq (fun z=>nomatch z)
 | .rf _,x,h=>by rw[show x=.ref _ from h];exact aaq (fun z=>nomatch z)
 | .ty _,x,h=>by rw[show x=.ty _ from h];exact aaq (fun z=>nomatch z)
 | .uP _,x,⟨a,e,_⟩=>by rw[e];exact aaq (fun z=>nomatch z)
 | .raw _,x,⟨a,e,_⟩=>by rw[e];exact aaq (fun z=>nomatch z)
 | .iO _,x,⟨a,e,_⟩=>by rw[e];exact aaq (fun z=>nomatch z)
 | .tp _,x,⟨a,_,e,_⟩=>by rw[e];exact aaq (fun z=>nomatch z)
def MP(a:cq):cq:=fun ρ W Q=>a ρ W fun v W1=>Q (.im (.bool (isNone v))) W1
def GK(a:cq):cq:=fun ρ W Q=>a ρ W fun v W1=>Q (.im (.bool (!isNone v))) W1
instance [ia:LE C ta da]:LE C (Dq ta) (MP da):=⟨fun D h k=>ia.go D h fun x dv H1 W1 D1 s1 v1 q=>by rw[ot v1];exact(k.mono s1).now (dv:=.im (.bool _)) D1 rfl q⟩
instance [ia:LE C ta da]:LE C (zJ ta) (GK da):=⟨fun D h k=>ia.go D h fun x dv H1 W1 D1 s1 v1 q=>by rw[ot v1];exact(k.mono s1).now (dv:=.im (.bool _)) D1 rfl q⟩
def AZ(r r':pK)(a b c:cq):cq:=fun ρ W Q=>a ρ W fun x W1=>b ρ W1 fun y W2=>r x y W2 fun z W3=>∃ k,z=.im (.bool k)/\if k=true then c ρ W3 fun w W4=>r' y w W4 Q else Q (.im (.bool false)) W3
instance [ir:zx C r dr][WB:zx C r' Q5][ia:LE C ta da][ib:LE C tb db][ic:LE C tc dc]:LE C (uk r r' ta tb tc) (AZ dr Q5 da db dc):=⟨fun D h k=>ia.go D h fun x dv H1 W1 D1 s1 v1 h1=>ib.go D1 h1 fun y du H2 W2 D2 s2 v2 h2=>ir.go D2 (v1.mono s2) v2 h2 fun z dz H3 W3 D3 s3 v3 ⟨b,e,q⟩=>by
 subst e;refine⟨b,v3,?_⟩;cases b with
 | true=>exact ic.go D3 q fun w dw H4 W4 D4 s4 v4 h4=>WB.go D4 ((v2.mono s3).mono s4) v4 h4 (k.mono (((s1.trans s2).trans s3).trans s4))
 | false=>exact(k.mono ((s1.trans s2).trans s3)).now (dv:=.im (.bool _)) D3 rfl q⟩
def MQ:kx:=fun _ W Q=>Q [] W
def GL(a:cq)(b:kx):kx:=fun ρ W Q=>a ρ W fun v W1=>b ρ W1 fun vs W2=>Q (v::vs) W2
instance:LA C o6 MQ:=⟨fun D h k=>k [] [] _ _ D (aJ.refl _) rfl h⟩
instance [ia:LE C ta da][is:LA C ts ds]:LA C (lK ta ts) (GL da ds):=⟨fun D h k=>ia.go D h fun x dv H1 W1 D1 s1 v1 h1=>is.go D1 h1 fun xs aI H2 W2 D2 s2 v2 h2=>k (x::xs) (dv::aI) H2 W2 D2 (s1.trans s2) ⟨x,xs,rfl,v1.mono s2,v2⟩ h2⟩
def MR:V->DV
 | .cD=>.im .none
 | .bl b=>.im (.bool b)
 | .int i=>.im (.int i)
 | .str s=>.im (.str s)
 | .ref a=>.rf a
 | .ty n=>.ty n
 | _=>.im (.dict [])
theorem Jk:∀{x:V},cU x=true->dG C F (MR x) x
 | .cD,_=>rfl
 | .bl _,_=>rfl
 | .int _,_=>rfl
 | .str _,_=>rfl
 | .ref _,h=>by cases h
 | .ty _,h=>by cases h
 | .vY _,h=>by cases h
 | .Dk _,h=>by cases h
theorem lq{F:Hp}:∀{xs:List V},xs.all cU=true->aD C F (xs.map MR) xs
 | [],_=>rfl
 | x::r,h=>by
  rw[aaK,aas]at h;exact⟨x,r,rfl,Jk h.1,lq h.2⟩
def Uu(vs:List V):kx:=fun _ W Q=>vs.all cU=true/\Q (vs.map MR) W
instance {vs:List V}:LA C (tK vs) (Uu vs):=⟨fun D h k=>k vs _ _ _ D (aJ.refl _) (lq h.1) h.2⟩
def Jl:DV->Option V
 | .rf a=>some (.ref a)
 | .ty n=>some (.ty n)
 | _=>none
def A0:List DV->Option (List V)
 | []=>some []
 | x::r=>(Jl x).bind fun v=>(A0 r).map (v::·)
theorem Er{v:V}:∀{dv:DV} {x:V},dG C F dv x->Jl dv=some v->x=v
 | .rf a,x,h,e=>by cases e;exact h
 | .ty a,x,h,e=>by cases e;exact h
 | .im _,_,_,e=>by cases e
 | .pt _,_,_,e=>by cases e
 | .cst _,_,_,e=>by cases e
 | .uP _,_,_,e=>by cases e
 | .raw _,_,_,e=>by cases e
 | .iO _,_,_,e=>by cases e
 | .tp _,_,_,e=>by cases e
theorem wQ{F:Hp}:∀{aI:List DV} {xs vs:List V},aD C F aI xs->A0 aI=some vs->xs=vs
 | [],_,_,h,e=>by cases h;cases e;rfl
 | d::r,_,_,⟨y,ys,e1,h,hr⟩,e=>by
  unfold A0 at e;cases q:Jl d with
  | none=>rw[q]at e;cases e
  | some v =>
   rw[q]at e;cases q2:A0 r with
   | none=>simp[q2]at e
   | some vs =>
    simp[q2]at e;subst e;rw[e1,Er h q,wQ hr q2]
def wR(vs:List DV)(W1:Wd)(Q:DK):Prop:=vs.length<=sizeLine/\((∃ ds W2,gU (jJ 3) W1 vs=some (ds,W2)/\Q (.im (.tuple ds)) W2)\/(∃ us,A0 vs=some us/\Q (.raw us) W1)\/∃ ts,vs=ts.map Jg/\Q (.tp ts) W1)
def MS(a:kx):cq:=fun ρ W Q=>a ρ W fun vs W1=>wR vs W1 Q
instance [is:LA C ts ds]:LE C (Il ts) (MS ds):=⟨fun D h k=>is.go D h fun xs aI H1 W1 D1 s1 v1 ⟨hl,h1⟩=>⟨by rw[<- v1.length];exact hl,fun p hp=>by
 rcases h1 with⟨ds,W2,e,q⟩ | ⟨us,e,q⟩ | ⟨WC,e,q⟩
 ·obtain⟨D2,s2,r2,k2⟩:=fV (i5 3) D1 v1 e;obtain⟨D3,s3,e3⟩:=D2.AX hp (.tup xs);exact k _ (.im (.tuple ds)) _ _ D3 ((s1.trans s2).trans s3) ⟨p,xs,rfl,e3,ak.same s3 r2⟩ q
 ·obtain⟨D3,s3,e3⟩:=D1.AX hp (.tup xs);exact k _ (.raw us) _ _ D3 (s1.trans s3) ⟨p,rfl,by rw[e3,wQ v1 e]⟩ q
 ·subst e;obtain⟨D3,s3,e3⟩:=D1.AX hp (.tup xs);exact k _ (.tp WC) _ _ D3 (s1.trans s3) ⟨p,xs,rfl,e3,(uQ v1).same s3⟩ q⟩⟩
def iU(vs:List DV)(W:Wd)(Q:DK):Prop:=(∀ p,W p=none->Q (.pt p) (aG W p (.lst vs)))\/∃ ds,vs=ds.map .im/\Q (.im (.list ds)) W
theorem gJ{vs:List DV}{xs:List V}{p:Addr}(D:DR C σ H ρ W)(r:aD C (Fz C W H) vs xs)(hp:H p=none)(h:iU vs W Qd)(k:KE C σ ρ W H Qd Q):Q (.ref p) (upd H p (.lst xs)):=by
 rcases h with h | ⟨ds,rfl,h⟩
 ·exact k.to (dv:=.pt p) (D.Q2 hp r) rfl (h p (D.fresh hp))
 ·obtain⟨D3,s3,e3⟩:=D.AX hp (.lst xs);exact k _ (.im (.list ds)) _ _ D3 s3 ⟨p,xs,rfl,e3,ak.same s3 r.r6⟩ h
def wU(vs:List DV)(W:Wd)(Q:DK):Prop:=vs.length<=sizeLine/\iU vs W Q
def MT(a:kx):cq:=fun ρ W Q=>a ρ W fun vs W1=>wU vs W1 Q
instance [is:LA C ts ds]:LE C (Ah ts) (MT ds):=⟨fun D h k=>is.go D h fun xs aI H1 W1 D1 s1 v1 ⟨hl,h1⟩=>⟨by rw[<- v1.length];exact hl,fun p hp=>by
 exact gJ D1 v1 hp h1 (k.mono s1)⟩⟩
class wV (f:Int->Int->V) (g:outParam (Int->Int->PyData)):Prop where
 at_:∀ i j F,Rep F (g i j) (f i j)
instance:wV (fun i j=>.int (i+j)) (fun i j=>.int (i+j)):=⟨fun _ _ _=>rfl⟩
instance:wV (fun i j=>.int (i - j)) (fun i j=>.int (i - j)):=⟨fun _ _ _=>rfl⟩
instance:wV (fun i j=>.int (i * j)) (fun i j=>.int (i * j)):=⟨fun _ _ _=>rfl⟩
instance:wV (fun i j=>.int (i / j)) (fun i j=>.int (i / j)):=⟨fun _ _ _=>rfl⟩
instance:wV (fun i j=>.int (i % j)) (fun i j=>.int (i % j)):=⟨fun _ _ _=>rfl⟩
instance:wV (fun i j=>.int (i ^ j.toNat)) (fun i j=>.int (i ^ j.toNat)):=⟨fun _ _ _=>rfl⟩
instance:wV (fun i j=>.bl (decide (i < j))) (fun i j=>.bool (decide (i < j))):=⟨fun _ _ _=>rfl⟩
instance:wV (fun i j=>.bl (decide (i<=j))) (fun i j=>.bool (decide (i<=j))):=⟨fun _ _ _=>rfl⟩
instance:wV (fun i j=>.bl (decide (j < i))) (fun i j=>.bool (decide (j < i))):=⟨fun _ _ _=>rfl⟩
instance:wV (fun i j=>.bl (decide (j<=i))) (fun i j=>.bool (decide (j<=i))):=⟨fun _ _ _=>rfl⟩
def Uv(g:Int->Int->PyData):pK:=fun a b W Q=>∃ i j,a=.im (.int i)/\b=.im (.int j)/\Q (.im (g i j)) W
def dI(P:Int->Int->Prop)(g:Int->Int->PyData):pK:=fun a b W Q=>∃ i j,a=.im (.int i)/\b=.im (.int j)/\P i j/\Q (.im (g i j)) W
instance {f:Int->Int->V}{g:Int->Int->PyData}[wV f g]:zx C (C4 f) (Uv g):=⟨fun D h1 h2 ⟨i,j,e1,e2,q⟩ k=>by subst e1 e2;exact⟨i,j,h1,h2,k.now (dv:=.im (g i j)) D (wV.at_ (f:=f) i j _) q⟩⟩
instance {P:Int->Int->Prop}{f:Int->Int->V}{g:Int->Int->PyData}[wV f g]:zx C (rI P f) (dI P g):=⟨fun D h1 h2 ⟨i,j,e1,e2,p,q⟩ k=>by subst e1 e2;exact⟨i,j,h1,h2,p,k.now (dv:=.im (g i j)) D (wV.at_ (f:=f) i j _) q⟩⟩
def dU(g:Int->PyData):DV->Wd->DK->Prop:=fun a W Q=>∃ i,a=.im (.int i)/\Q (.im (g i)) W
instance:Q4 C (rU fun i=>.int (-i)) (dU fun i=>.int (-i)):=⟨fun D h1 ⟨i,e1,q⟩ k=>by subst e1;exact⟨i,h1,k.now (dv:=.im (.int (-i))) D rfl q⟩⟩
end
mutual
theorem Rep.inj{H:Hp}:∀{d d':PyData} {v:V},Rep H d v->Rep H d' v->d=d'
 | .none,d',v,h,h'=>by
  rw[show v=.cD from h]at h';cases d' with
  | none=>rfl
  | bool _=>cases (show V.cD=.bl _ from h')
  | int _=>cases (show V.cD=.int _ from h')
  | str _=>cases (show V.cD=.str _ from h')
  | list _=>obtain⟨a,xs,e,_⟩:=h';cases e
  | tuple _=>obtain⟨a,xs,e,_⟩:=h';cases e
  | dict _=>exact h'.elim
 | .bool b,d',v,h,h'=>by
  rw[show v=.bl b from h]at h';cases d' with
  | none=>cases (show V.bl b=.cD from h')
  | bool _=>cases (show V.bl b=.bl _ from h');rfl
  | int _=>cases (show V.bl b=.int _ from h')
  | str _=>cases (show V.bl b=.str _ from h')
  | list _=>obtain⟨a,xs,e,_⟩:=h';cases e
  | tuple _=>obtain⟨a,xs,e,_⟩:=h';cases e
  | dict _=>exact h'.elim
 | .int b,d',v,h,h'=>by
  rw[show v=.int b from h]at h';cases d' with
  | none=>cases (show V.int b=.cD from h')
  | bool _=>cases (show V.int b=.bl _ from h')
  | int _=>cases (show V.int b=.int _ from h');rfl
  | str _=>cases (show V.int b=.str _ from h')
  | list _=>obtain⟨a,xs,e,_⟩:=h';cases e
  | tuple _=>obtain⟨a,xs,e,_⟩:=h';cases e
  | dict _=>exact h'.elim
 | .str b,d',v,h,h'=>by
  rw[show v=.str b from h]at h';cases d' with
  | none=>cases (show V.str b=.cD from h')
  | bool _=>cases (show V.str b=.bl _ from h')
  | int _=>cases (show V.str b=.int _ from h')
  | str _=>cases (show V.str b=.str _ from h');rfl
  | list _=>obtain⟨a,xs,e,_⟩:=h';cases e
  | tuple _=>obtain⟨a,xs,e,_⟩:=h';cases e
  | dict _=>exact h'.elim
 | .list ds,d',v,⟨a,xs,e,ha,r⟩,h'=>by
  subst e;cases d' with
  | none=>cases (show V.ref a=.cD from h')
  | bool _=>cases (show V.ref a=.bl _ from h')
  | int _=>cases (show V.ref a=.int _ from h')
  | str _=>cases (show V.ref a=.str _ from h')
  | list _=>obtain⟨a',C5,e,qY,r'⟩:=h';cases e;rw[ha]at qY;cases qY;rw[ak.inj r r']
  | tuple _=>obtain⟨a',C5,e,qY,r'⟩:=h';cases e;rw[ha]at qY;cases qY
  | dict _=>exact h'.elim
 | .tuple ds,d',v,⟨a,xs,e,ha,r⟩,h'=>by
  subst e;cases d' with
  | none=>cases (show V.ref a=.cD from h')
  | bool _=>cases (show V.ref a=.bl _ from h')
  | int _=>cases (show V.ref a=.int _ from h')
  | str _=>cases (show V.ref a=.str _ from h')
  | list _=>obtain⟨a',C5,e,qY,r'⟩:=h';cases e;rw[ha]at qY;cases qY
  | tuple _=>obtain⟨a',C5,e,qY,r'⟩:=h';cases e;rw[ha]at qY;cases qY;rw[ak.inj r r']
  | dict _=>exact h'.elim
 | .dict _,_,_,h,_=>h.elim
theorem ak.inj{H:Hp}:∀{ds zw:wP} {xs:List V},ak H ds xs->ak H zw xs->ds=zw
 | [],zw,xs,h,h'=>by
  cases h;cases zw with
  | nil=>rfl
  | cons _ _=>obtain⟨_,_,e,_⟩:=h';cases e
 | d::ds,zw,xs,⟨y,ys,e,h,r⟩,h'=>by
  subst e;cases zw with
  | nil=>cases (show y::ys=[] from h')
  | cons d' r'=>obtain⟨_,_,e,h2,r2⟩:=h';cases e;rw[Rep.inj h h2,ak.inj r r2]
end
open Classical in
noncomputable def wW (H:Hp) (v:V):Option PyData:=if h:∃ d,Rep H d v then some (Classical.choose h)else none
theorem A1{v:V}(h:Rep H d v):wW H v=some d:=by
 unfold wW;rw[dif_pos ⟨d,h⟩];exact abz some (Rep.inj (Classical.choose_spec (⟨d,h⟩:∃ d,Rep H d v)) h)
noncomputable def iV (H:Hp) (dx:PyData) (u:Value):Bool:=match Ly u with
 | some v=>match wW H v with
  | some d=>PyData.eqv d dx
  | none=>false
 | none=>false
theorem wX{u:Value}{v:V}(r:RelV v u)(h:Rep H d v):iV H dx u=PyData.eqv d dx:=by
 unfold iV;rw[r.abs];show(match wW H v with | some d=>PyData.eqv d dx | none=>false)=_;rw[A1 h]
theorem hV{H:Hp}{dx:PyData}:∀{ds:wP} {xs:List V} {us:wf},ak H ds xs->Vals xs us->us.any (iV H dx)=ds.any fun d=>PyData.eqv d dx
 | [],_,_,h,r=>by cases h;cases r;rfl
 | d::ds,_,_,⟨y,ys,e,h,hr⟩,r=>by
  subst e;cases r with
  | cons r1 r2=>rw[abR,abR,wX r1 h,hV hr r2]
section
variable {X:Cx}{C:DC}
theorem hZ{pins:yp}{s:Shared}{σ:St}{H:Hp}{x:V}{v:Value}{dx:PyData}(I:Inv X pins σ H s)(hu:X.A.units+64 < cLine)(rx:RelV x v)(hx:Rep H dx x)(cx:dx.canLay0=true)(hd:dx.depth<=62) :
  ∀{ds:wP} {xs:List V} {us:wf},ak H ds xs->Vals xs us->PyData.canLayAll0 ds=true->∀ u∈us,SeqAt.EqAt X.A.in1 s u v (iV H dx u)
 | [],_,_,h,r,_=>fun u hu=>by cases h;cases r;cases hu
 | d::ds,_,_,⟨y,ys,e,h,hr⟩,r,cl=>fun u Q7=>by
  subst e;have Uw:d.canLay0=true/\PyData.canLayAll0 ds=true:=by simpa [PyData.canLayAll0] using cl
  cases r with
  | cons r1 r2 =>
   rcases aaf.mp Q7 with e | Q7
   ·subst e;rw[wX r1 h];obtain⟨as,q1⟩:=h.reads I.bN r1;obtain⟨bs,q2⟩:=hx.reads I.bN rx;exact SeqAt.eqAt_reads d dx X.A.in1 s u v as bs q1 q2 Uw.1 cx (by
     have:X.A.in1.units<=X.A.units+1:=by first | exact aae _ | (simp[Around.in1]) | omega
     omega)
   ·exact hZ I hu rx hx cx hd hr r2 Uw.2 u Q7
def Jm(K:zn)(neg:Bool):R2:=fun x y H Q=>∃ p xs dx ds,y=.ref p/\(eQ K H p xs\/eY K H p xs)/\Rep H dx x/\ak H ds xs/\dx.canLay0=true/\PyData.canLayAll0 ds=true/\dx.depth<=62/\Q (.bl (if neg then !ds.any (fun d=>PyData.eqv d dx)else ds.any fun d=>PyData.eqv d dx)) H
theorem Jn(hu:X.A.units+64 < cLine):gq X (compareOp .In) (Jm X.K false):=by
 intro pins s σ H x y v u Q I rx ry h;obtain⟨p,xs,dx,ds,rfl,hq,hx,hs,cx,cs,hd,q⟩:=h;cases ry;rcases hq with hq | hq
 ·obtain⟨aL,r,pl,hz⟩:=I.list hq;refine SeqAt.in_listAt (iV H dx) pl.isList (fun w hw=>hZ I hu rx hx cx hd hs r cs w (by simpa using hw)) ⟨.bl _,H,I,rfl,?_⟩;rw[show aL.toArray.any (iV H dx)=aL.any (iV H dx) by simp,hV hs r];exact q
 ·obtain⟨aL,r,pl,hz⟩:=I.tuple hq;refine SeqAt.in_tupleAt (iV H dx) pl (fun w hw=>hZ I hu rx hx cx hd hs r cs w (by simpa using hw)) ⟨.bl _,H,I,rfl,?_⟩;rw[show aL.toArray.any (iV H dx)=aL.any (iV H dx) by simp,hV hs r];exact q
theorem yw(hu:X.A.units+64 < cLine):gq X (compareOp .NotIn) (Jm X.K true):=by
 intro pins s σ H x y v u Q I rx ry h;obtain⟨p,xs,dx,ds,rfl,hq,hx,hs,cx,cs,hd,q⟩:=h;cases ry;rcases hq with hq | hq
 ·obtain⟨aL,r,pl,hz⟩:=I.list hq;refine SeqAt.notIn_listAt (iV H dx) pl.isList (fun w hw=>hZ I hu rx hx cx hd hs r cs w (by simpa using hw)) ⟨.bl _,H,I,rfl,?_⟩;rw[show aL.toArray.any (iV H dx)=aL.any (iV H dx) by simp,hV hs r];exact q
 ·obtain⟨aL,r,pl,hz⟩:=I.tuple hq;refine SeqAt.notIn_tupleAt (iV H dx) pl (fun w hw=>hZ I hu rx hx cx hd hs r cs w (by simpa using hw)) ⟨.bl _,H,I,rfl,?_⟩;rw[show aL.toArray.any (iV H dx)=aL.any (iV H dx) by simp,hV hs r];exact q
def Jo:R2:=fun x y H Q=>TQ x y H Q\/Md x y H Q
def Jp:R2:=fun x y H Q=>TR x y H Q\/Me x y H Q
theorem aB(hu:X.A.units+64 < cLine):gq X (compareOp .Eq) Jo:=fun pins s σ H x y v u Q I rx ry h=>h.elim (LL pins s σ H x y v u Q I rx ry) (IK hu pins s σ H x y v u Q I rx ry)
theorem eT(hu:X.A.units+64 < cLine):gq X (compareOp .NotEq) Jp:=fun pins s σ H x y v u Q I rx ry h=>h.elim (LM pins s σ H x y v u Q I rx ry) (IL hu pins s σ H x y v u Q I rx ry)
def Jq(K:zn)(neg:Bool):R2:=fun x y H Q=>Qq K neg x y H Q\/Jm K neg x y H Q
theorem mh(hu:X.A.units+64 < cLine):gq X (compareOp .In) (Jq X.K false):=fun pins s σ H x y v u Q I rx ry h=>h.elim (ye pins s σ H x y v u Q I rx ry) (Jn hu pins s σ H x y v u Q I rx ry)
theorem ou(hu:X.A.units+64 < cLine):gq X (compareOp .NotIn) (Jq X.K true):=fun pins s σ H x y v u Q I rx ry h=>h.elim (pd pins s σ H x y v u Q I rx ry) (yw hu pins s σ H x y v u Q I rx ry)
end
end L2
namespace L2
open PySem PySem.Spec PyProof.Rows
variable {C:DC}{σ:St}{H H' F:Hp}{ρ:bD}{W W':Wd}{Qd Q:DK}{x qual:Str}{vs us as:List DV}{xs:List V}{ds:wP}{v dv:DV}{da:cq}{T:String}{hi:ul}{a p f t g:Addr}{n k:Nat}{kp:Wd->Prop}{X:Cx}{E:XK}{N ps:ww}{P:tz}{w:World}{mg:xL}{base:Heap}{st:Stmt}{fd:v6}{c:Cell}{pos:Pos}{es:ut}{ns:wn}{nx bk ct Qs:bD->Wd->Prop}{m:Int}{d:PyData}{items:Array Value}{rt:DV->Wd->Prop}
def wY:PyData->Bool
 | .none=>true
 | .bool _=>true
 | .int _=>true
 | .str _=>true
 | _=>false
def Es:V->PyData
 | .cD=>.none
 | .bl b=>.bool b
 | .int i=>.int i
 | .str s=>.str s
 | _=>.dict []
def dH(W:Wd):DV->Option (List DV)
 | .im (.list ds)=>some (ds.map .im)
 | .pt p=>match W p with
  | some (.lst xs)=>some xs
  | _=>none
 | _=>none
def jt:DV->Option (List DV)
 | .im (.tuple ds)=>some (ds.map .im)
 | .cst xs=>if xs.all cU=true then some (xs.map MR)else none
 | .tp ts=>some (ts.map Jg)
 | _=>none
def nP:DV->Option (List DV)
 | .iO ns=>some (ns.map fun n=>.im (.int n))
 | _=>none
def gy(W:Wd)(dv:DV):Option (List DV):=match dH W dv with
 | some vs=>some vs
 | none=>match nP dv with
  | some vs=>some vs
  | none=>jt dv
section
variable {Q:VK}{x y:V}{a b:DV}
theorem DR.dH(D:DR C σ H ρ W)(h:dG C (Fz C W H) a x)(e:L2.dH W a=some vs):∃ p xs,x=.ref p/\H p=some (.lst xs)/\aD C (Fz C W H) vs xs:=by
 cases a with
 | im d =>
  cases d with
  | list ds=>cases e;obtain⟨p,xs,e1,h1,r⟩:=h;exact⟨p,xs,e1,Fz.le h1,.fu r⟩
  | _=>cases e
 | pt p =>
  unfold L2.dH at e;cases q:W p with
  | none=>simp[q]at e
  | some c =>
   cases c with
   | lst ys=>simp[q]at e;subst e;obtain⟨_,_,xs,h1,r⟩:=D.ce p _ q;exact⟨p,xs,h,h1,r⟩
   | _=>simp[q]at e
 | _=>cases e
theorem DR.jt(D:DR C σ H ρ W)(h:dG C (Fz C W H) a x)(e:L2.jt a=some vs):∃ p xs,x=.ref p/\eY C.K H p xs/\aD C (Fz C W H) vs xs:=by
 cases a with
 | im d =>
  cases d with
  | tuple ds=>cases e;obtain⟨p,xs,e1,h1,r⟩:=h;exact⟨p,xs,e1,eY.of (Fz.le h1),.fu r⟩
  | _=>cases e
 | cst ys =>
  obtain⟨p,e1,h1⟩:=h;unfold L2.jt at e
  by_cases q:ys.all cU=true
  ·simp only[q,acq]at e;cases e;exact⟨p,ys,e1,h1 H,lq q⟩
  ·simp only[q]at e;cases e
 | tp ts=>cases e;obtain⟨p,yx,e1,h1,r⟩:=h;exact⟨p,yx,e1,eY.of (Fz.le h1),l9 r⟩
 | _=>cases e
theorem ij{F:Hp}:∀ ns:List Int,aD C F (ns.map fun n=>.im (.int n)) (ns.map V.int)
 | []=>rfl
 | n::r=>⟨.int n,r.map V.int,rfl,rfl,ij r⟩
theorem DR.nP(D:DR C σ H ρ W)(h:dG C (Fz C W H) a x)(e:L2.nP a=some vs):∃ p xs,x=.ref p/\eQ C.K H p xs/\eQ C.K (Fz C W H) p xs/\aD C (Fz C W H) vs xs:=by
 cases a with
 | iO ns=>cases e;obtain⟨p,e1,h1⟩:=h;exact⟨p,_,e1,(Fz.sm (C:=C) (W:=W)).seq h1,h1,ij ns⟩
 | _=>cases e
theorem DR.gy(D:DR C σ H ρ W)(h:dG C (Fz C W H) a x)(e:L2.gy W a=some vs):∃ p xs,x=.ref p/\(eQ C.K H p xs\/eY C.K H p xs)/\aD C (Fz C W H) vs xs:=by
 unfold L2.gy at e;cases q:L2.dH W a with
 | some us=>rw[q]at e;cases e;obtain⟨p,xs,e1,h1,r⟩:=D.dH h q;exact⟨p,xs,e1,.inl (eQ.of h1),r⟩
 | none =>
  rw[q]at e;cases q2:L2.nP a with
  | some us=>rw[q2]at e;cases e;obtain⟨p,xs,e1,h1,_,r⟩:=D.nP h q2;exact⟨p,xs,e1,.inl h1,r⟩
  | none=>rw[q2]at e;obtain⟨p,xs,e1,h1,r⟩:=D.jt h e;exact⟨p,xs,e1,.inr h1,r⟩
theorem aD.gX{F:Hp}{i:Int}(r:aD C F vs xs)(e:L2.gX vs i=some a):∃ x,L2.gX xs i=some x/\dG C F a x:=by
 unfold L2.gX at e ⊢;rw[<- r.length];cases q:uA vs.length i with
 | none=>rw[q]at e;cases e
 | some j=>rw[q]at e;exact r.get e
def Jr(d1 d2:PyData):Prop:=(∃ a b,d1=.str a/\d2=.str b)\/(d1.canLay0=true/\d2.canLay0=true/\min d1.depth d2.depth<=64)
def A2:pK:=fun a b W Q=>∃ d1 d2,dat 4 W a=some d1/\dat 4 W b=some d2/\Jr d1 d2/\Q (.im (.bool (PyData.eqv d1 d2))) W
def A3:pK:=fun a b W Q=>∃ d1 d2,dat 4 W a=some d1/\dat 4 W b=some d2/\Jr d1 d2/\Q (.im (.bool (!PyData.eqv d1 d2))) W
instance:zx C Jo A2:=⟨fun D h1 h2 ⟨d1,d2,e1,e2,ok,q⟩ k=>by
 have r1:=D.pJ h1 e1;have r2:=D.pJ h2 e2;rcases ok with⟨a,b,rfl,rfl⟩ | ⟨c1,c2,hd⟩
 ·cases r1;cases r2;refine .inl ⟨rfl,k.now (dv:=.im (.bool _)) D ?_ q⟩;show V.bl _=V.bl _;congr 1;show _=(a == b);rw[show decide (V.str a=V.str b)=decide (a=b) by simp]
  by_cases e:a=b<;>simp[e]
 ·exact .inr ⟨d1,d2,r1,r2,c1,c2,hd,k.now (dv:=.im (.bool _)) D rfl q⟩⟩
instance:zx C Jp A3:=⟨fun D h1 h2 ⟨d1,d2,e1,e2,ok,q⟩ k=>by
 have r1:=D.pJ h1 e1;have r2:=D.pJ h2 e2;rcases ok with⟨a,b,rfl,rfl⟩ | ⟨c1,c2,hd⟩
 ·cases r1;cases r2;refine .inl ⟨rfl,k.now (dv:=.im (.bool _)) D ?_ q⟩;show V.bl _=V.bl _;congr 1;show _=!(a == b);rw[show decide (V.str a=V.str b)=decide (a=b) by simp]
  by_cases e:a=b<;>simp[e]
 ·exact .inr ⟨d1,d2,r1,r2,c1,c2,hd,k.now (dv:=.im (.bool _)) D rfl q⟩⟩
def gh(W:Wd)(dv:DV):Option (List PyData):=(gy W dv).bind fun vs=>eJ (dat 3 W) vs
theorem DR.gh{ds:wP}(D:DR C σ H ρ W)(h:dG C (Fz C W H) a x)(e:L2.gh W a=some ds):∃ p xs,x=.ref p/\(eQ C.K H p xs\/eY C.K H p xs)/\ak H ds xs:=by
 unfold L2.gh at e;cases q:L2.gy W a with
 | none=>rw[q]at e;cases e
 | some vs =>
  rw[q]at e;obtain⟨p,xs,e1,h1,r⟩:=D.gy h q;exact⟨p,xs,e1,h1,fv (fun dv x d h e=>D.pJ h e) r e⟩
def Q8(dx:PyData)(ds:wP):Prop:=(wY dx=true/\ds.all wY=true)\/(dx.canLay0=true/\PyData.canLayAll0 ds=true/\dx.depth<=62)
theorem r9:∀{d:PyData} {x:V},wY d=true->Rep F d x->cU x=true/\d=Es x
 | .none,_,_,h=>by cases h;exact⟨rfl,rfl⟩
 | .bool _,_,_,h=>by cases h;exact⟨rfl,rfl⟩
 | .int _,_,_,h=>by cases h;exact⟨rfl,rfl⟩
 | .str _,_,_,h=>by cases h;exact⟨rfl,rfl⟩
 | .list _,_,h,_=>by cases h
 | .tuple _,_,h,_=>by cases h
 | .dict _,_,h,_=>by cases h
theorem Et:∀{x y:V},cU x=true->cU y=true->DS y x=PyData.eqv (Es y) (Es x):=by
 intro x y hx hy;cases x<;>cases y<;>first | rfl | cases hx | cases hy
theorem sd{F:Hp}:∀{ds:wP} {xs:List V},ds.all wY=true->ak F ds xs->xs.all cU=true/\∀ x,cU x=true->Pb x xs=ds.any fun d=>PyData.eqv d (Es x)
 | [],_,_,h=>by cases h;exact⟨rfl,fun _ _=>rfl⟩
 | d::ds,_,hf,⟨y,ys,e,h,r⟩=>by
  subst e;rw[aaK,aas]at hf;obtain⟨f1,e1⟩:=r9 hf.1 h;obtain⟨f2,e2⟩:=sd hf.2 r;refine⟨by rw[aaK,f1,f2];rfl,fun x hx=>?_⟩;have:=e2 x hx;unfold Pb at this ⊢;rw[abR,abR,this,Et hx f1,e1]
def yy(neg:Bool):pK:=fun a b W Q=>∃ dx ds,dat 3 W a=some dx/\gh W b=some ds/\Q8 dx ds/\Q (.im (.bool (if neg then !ds.any (fun d=>PyData.eqv d dx)else ds.any fun d=>PyData.eqv d dx))) W
instance {K:zn}[hk:mf C K]{neg:Bool}:zx C (Jq K neg) (yy neg):=by
 obtain⟨rfl⟩:=hk;exact⟨fun D h1 h2 ⟨dx,ds,e1,e2,ok,q⟩ k=>by
 have r1:=D.pJ h1 e1;obtain⟨p,xs,rfl,hq,r2⟩:=D.gh h2 e2;rcases ok with⟨f1,f2⟩ | ⟨c1,c2,hd⟩
 ·obtain⟨g1,g2⟩:=r9 f1 r1;obtain⟨g3,g4⟩:=sd f2 r2;refine .inl ⟨p,xs,rfl,hq,g1,g3,?_⟩;rw[g4 _ g1,<- g2];exact k.now (dv:=.im (.bool _)) D rfl q
 ·exact .inr ⟨p,xs,dx,ds,rfl,hq,r1,r2,c1,c2,hd,k.now (dv:=.im (.bool _)) D rfl q⟩⟩
def Js(W:Wd)(a:DV)(i:Int):Option DV:=match a with
 | .im (.str z)=>if z.length<=sizeLine then(gX z.cps.toList i).map fun c=>.im (.str ⟨#[c]⟩)else none
 | a=>(gy W a).bind fun vs=>gX vs i
def Jt:pK:=fun a b W Q=>∃ i v,b=.im (.int i)/\Js W a i=some v/\Q v W
theorem A4(D:DR C σ H ρ W)(h1:dG C (Fz C W H) a x){i:Int}{Q':VK}(e:((gy W a).bind fun vs=>gX vs i)=some v)(q:∀ z,dG C (Fz C W H) v z->Q' z H):Pa C.K x (.int i) H Q':=by
 cases q1:gy W a with
 | none=>rw[q1]at e;cases e
 | some vs =>
  rw[q1]at e;obtain⟨p,xs,rfl,hq,r⟩:=D.gy h1 q1;obtain⟨z,hz,rz⟩:=r.gX e;rcases hq with hq | hq
  ·exact .inl ⟨p,xs,i,z,rfl,rfl,hq,hz,q z rz⟩
  ·exact .inr (.inl ⟨p,xs,i,z,rfl,rfl,hq,hz,q z rz⟩)
instance {K:zn}[hk:mf C K]:zx C (Pa K) Jt:=by
 obtain⟨rfl⟩:=hk;exact⟨fun{σ H ρ W Qd Q a b x y} D h1 h2 ⟨i,v,e1,e2,q⟩ k=>by
 subst e1;cases (show y=V.int i from h2);cases a with
 | im d =>
  cases d with
  | str z =>
   cases (show x=V.str z from h1)
   by_cases hz:z.length<=sizeLine
   ·simp only[Js,hz,acq]at e2;cases q2:gX z.cps.toList i with
    | none=>simp[q2]at e2
    | some c=>simp[q2]at e2;subst e2;exact .inr (.inr ⟨z,i,c,rfl,rfl,hz,q2,k.now (dv:=.im (.str _)) D rfl q⟩)
   ·simp only[Js,hz]at e2;cases e2
  | _=>exact A4 D h1 e2 fun z hz=>k.now D hz q
 | _=>exact A4 D h1 e2 fun z hz=>k.now D hz q⟩
def MU:pK:=fun a b W Q=>∃ vs n,dH W a=some vs/\b=.im (.int n)/\-(2 ^ 63)<=n/\n < 2 ^ 63/\vs.length * n.toNat<=sizeLine/\iU (List.replicate n.toNat vs).flatten W Q
instance:zx C L6 MU:=⟨fun D h1 h2 ⟨vs,n,e1,e2,l1,l2,hl,q⟩ k=>by
 obtain⟨p1,xs,rfl,hx,rx⟩:=D.dH h1 e1;subst e2;exact⟨p1,n,xs,rfl,h2,hx,l1,l2,by rw[<- rx.length];exact hl,fun p hp=>gJ D (rx.rep n.toNat) hp q k⟩⟩
theorem ak.append{F:Hp}:∀{ds:wP} {xs:List V} {zw:wP} {C5:List V},ak F ds xs->ak F zw C5->ak F (ds++zw) (xs++C5)
 | [],_,_,_,h,h'=>by cases h;exact h'
 | _::_,_,_,_,⟨y,ys,e,h,r⟩,h'=>by subst e;exact⟨y,_,rfl,h,ak.append r h'⟩
def MV:pK:=fun a b W Q=>∃ ds es,a=.im (.tuple ds)/\b=.im (.tuple es)/\ds.length+es.length<=sizeLine/\Q (.im (.tuple (ds++es))) W
instance {K:zn}[hk:mf C K]:zx C (GC K) MV:=by
 obtain⟨rfl⟩:=hk;exact⟨fun D h1 h2 ⟨ds,es,e1,e2,hl,q⟩ k=>by
 subst e1 e2;obtain⟨p1,xs,rfl,hx,rx⟩:=h1;obtain⟨p2,ys,rfl,hy,ry⟩:=h2;refine⟨p1,p2,xs,ys,rfl,rfl,eY.of (Fz.le hx),eY.of (Fz.le hy),by rw[<- rx.length,<- ry.length];exact hl,fun e=>?_,fun _ e=>?_,fun _ _ p hp=>?_⟩
 ·subst e;have:ds=[]:=abp.mp (by rw[rx.length];rfl);subst this;exact k.now (dv:=.im (.tuple es)) D ⟨p2,ys,rfl,hy,ry⟩ q
 ·subst e;have:es=[]:=abp.mp (by rw[ry.length];rfl);subst this;rw[abZ]at q;exact k.now (dv:=.im (.tuple ds)) D ⟨p1,xs,rfl,hx,rx⟩ q
 ·obtain⟨D3,s3,e3⟩:=D.AX hp (.tup (xs++ys));exact k _ (.im (.tuple (ds++es))) _ _ D3 s3 ⟨p,_,rfl,e3,ak.same s3 (rx.append ry)⟩ q⟩
end
section
variable {Q:VK}{x y:V}{a b:DV}{te:TE}{ts:TA}{ds:kx}
theorem aD.df(h:aD C F [a] xs):∃ x,xs=[x]/\dG C F a x:=by
 obtain⟨y,ys,e,h1,h2⟩:=h;cases h2;exact⟨y,e,h1⟩
theorem aD.pL(h:aD C F [a,b] xs):∃ x y,xs=[x,y]/\dG C F a x/\dG C F b y:=by
 obtain⟨y,ys,e,h1,h2⟩:=h;obtain⟨z,rfl,h3⟩:=h2.df;exact⟨y,z,e,h1,h3⟩
def Q9(f:List DV->Wd->DK->Prop)(d:kx):cq:=fun ρ W Q=>d ρ W fun vs W1=>f vs W1 Q
instance {rr:List V->Hp->VK->Prop}{f:List DV->Wd->DK->Prop}[ir:GH C rr f][is:LA C ts ds]:LE C (Ir rr ts) (Q9 f ds):=⟨fun D h k=>is.go D h fun xs aI H1 W1 D1 s1 v1 h1=>ir.go D1 v1 h1 (k.mono s1)⟩
def Eu:List DV->Wd->DK->Prop:=fun as W Q=>∃ a vs,as=[a]/\gy W a=some vs/\Q (.im (.int vs.length)) W
instance {K:zn}[hk:mf C K]:GH C (AU K) Eu:=by
 obtain⟨rfl⟩:=hk;exact⟨fun D h ⟨a,vs,e,e2,q⟩ k=>by
 subst e;obtain⟨x,rfl,hx⟩:=h.df;obtain⟨p,xs,rfl,hq,r⟩:=D.gy hx e2;refine⟨p,xs,rfl,hq,?_⟩;rw[<- r.length];exact k.now (dv:=.im (.int _)) D rfl q⟩
def pM:List DV->Wd->DK->Prop:=fun as W Q=>∃ a vs,as=[a]/\gy W a=some vs/\iU vs W Q
instance {K:zn}[hk:mf C K]:GH C (wO K) pM:=by
 obtain⟨rfl⟩:=hk;exact⟨fun D h ⟨a,vs,e,e2,q⟩ k=>by
 subst e;obtain⟨x,rfl,hx⟩:=h.df;obtain⟨p,xs,rfl,hq,r⟩:=D.gy hx e2;exact⟨p,xs,rfl,hq,fun l hl=>gJ D r hl q k⟩⟩
def Ju:List DV->Wd->DK->Prop:=fun as W Q=>∃ a,as=[a]/\((∃ vs ds W2,dH W a=some vs/\gU (jJ 3) W vs=some (ds,W2)/\Q (.im (.tuple ds)) W2)\/∃ ds,a=.im (.tuple ds)/\Q a W)
instance {K:zn}[hk:mf C K]:GH C (AS K) Ju:=by
 obtain⟨rfl⟩:=hk;exact⟨fun D h ⟨a,e,q⟩ k=>by
 subst e;obtain⟨x,rfl,hx⟩:=h.df;rcases q with⟨vs,ds,W2,e2,e3,q⟩ | ⟨ds,e2,q⟩
 ·obtain⟨p,xs,rfl,hq,r⟩:=D.dH hx e2;obtain⟨D2,s2,r2,k2⟩:=fV (i5 3) D r e3;refine⟨p,xs,rfl,.inl ⟨eQ.of hq,fun l hl=>?_⟩⟩;obtain⟨D3,s3,e4⟩:=D2.AX hl (.tup xs);exact k _ (.im (.tuple ds)) _ _ D3 (s2.trans s3) ⟨l,xs,rfl,e4,ak.same s3 r2⟩ q
 ·subst e2;obtain⟨p,xs,rfl,h1,r⟩:=hx;exact⟨p,xs,rfl,.inr ⟨eY.of (Fz.le h1),k.now (dv:=.im (.tuple ds)) D ⟨p,xs,rfl,h1,r⟩ q⟩⟩⟩
def GN:List DV->Wd->DK->Prop:=fun as W Q=>∃ i j,as=[.im (.int i),.im (.int j)]/\Q (.im (.int (if j < i then j else i))) W
instance:GH C GB GN:=⟨fun D h ⟨i,j,e,q⟩ k=>by
 subst e;obtain⟨x,y,rfl,hx,hy⟩:=h.pL;cases hx;cases hy;exact⟨i,j,rfl,k.now (dv:=.im (.int _)) D rfl q⟩⟩
def A5:List DV->Wd->DK->Prop:=fun as W Q=>(∃ i,as=[.im (.int i)]/\Q (.im (.int i)) W)\/∃ b,as=[.im (.bool b)]/\Q (.im (.int (if b then 1 else 0))) W
instance:GH C GD A5:=⟨fun D h q k=>by
 rcases q with⟨i,e,q⟩ | ⟨b,e,q⟩
 ·subst e;obtain⟨x,rfl,hx⟩:=h.df;cases hx;exact .inl ⟨i,rfl,k.now (dv:=.im (.int _)) D rfl q⟩
 ·subst e;obtain⟨x,rfl,hx⟩:=h.df;cases hx;exact .inr ⟨b,rfl,k.now (dv:=.im (.int _)) D rfl q⟩⟩
def ik:List DV->Option (List Bool)
 | []=>some []
 | .im (.bool b)::r=>(ik r).map (b::·)
 | _=>none
theorem ox{F:Hp}:∀{vs:List DV} {xs:List V} {bs:List Bool},aD C F vs xs->ik vs=some bs->xs=bs.map V.bl
 | [],_,_,h,e=>by cases h;cases e;rfl
 | .im (.bool b)::r,_,bs,⟨y,ys,e1,h,hr⟩,e=>by
  unfold ik at e;cases q:ik r with
  | none=>rw[q]at e;cases e
  | some cs =>
   rw[q]at e;cases e;rw[e1,show y=V.bl b from h,ox hr q];rfl
 | .im .none::_,_,_,_,e=>by cases e
 | .im (.int _)::_,_,_,_,e=>by cases e
 | .im (.str _)::_,_,_,_,e=>by cases e
 | .im (.list _)::_,_,_,_,e=>by cases e
 | .im (.tuple _)::_,_,_,_,e=>by cases e
 | .im (.dict _)::_,_,_,_,e=>by cases e
 | .pt _::_,_,_,_,e=>by cases e
 | .cst _::_,_,_,_,e=>by cases e
 | .rf _::_,_,_,_,e=>by cases e
 | .ty _::_,_,_,_,e=>by cases e
 | .uP _::_,_,_,_,e=>by cases e
 | .raw _::_,_,_,_,e=>by cases e
 | .iO _::_,_,_,_,e=>by cases e
 | .tp _::_,_,_,_,e=>by cases e
theorem uT(bs:List Bool):ik (bs.map fun b=>.im (.bool b))=some bs:=by
 induction bs with
 | nil=>rfl
 | cons b r ih=>rw[aaQ];unfold ik;rw[ih];rfl
def Ra:List DV->Wd->DK->Prop:=fun as W Q=>∃ a vs bs,as=[a]/\dH W a=some vs/\ik vs=some bs/\Q (.im (.bool (bs.any id))) W
instance {K:zn}[hk:mf C K]:GH C (MG K) Ra:=by
 obtain⟨rfl⟩:=hk;exact⟨fun D h ⟨a,vs,bs,e,e1,e2,q⟩ k=>by
 subst e;obtain⟨x,rfl,hx⟩:=h.df;obtain⟨p,xs,rfl,hq,r⟩:=D.dH hx e1;rw[ox r e2]at hq;exact⟨p,bs,rfl,eQ.of hq,k.now (dv:=.im (.bool _)) D rfl q⟩⟩
def MW(T:String):List DV->Wd->DK->Prop:=fun as W Q=>∃ a d,as=[a,.ty T]/\dat 4 W a=some d/\Q (.im (.bool (Mr d T))) W
instance {T:String}:GH C (Eb T) (MW T):=⟨fun D h ⟨a,d,e,e1,q⟩ k=>by
 subst e;obtain⟨x,y,rfl,hx,hy⟩:=h.pL;cases hy;exact⟨x,d,rfl,D.pJ hx e1,k.now (dv:=.im (.bool _)) D rfl q⟩⟩
def yz(T:String)(a:DV)(W:Wd):Prop:=(T = "list"/\∃ vs,dH W a=some vs)\/(T = "str"/\∃ s,a=.im (.str s))\/(T = "dict"/\∃ p,a=.pt p/\((∃ bC,W p=some (.dk bC))\/∃ bC,W p=some (.dt bC)))
theorem Ew(D:DR C σ H ρ W)(h:dG C (Fz C W H) a x)(e:yz T a W):Qr C.K T x H:=by
 rcases e with⟨rfl,vs,e⟩ | ⟨rfl,s,rfl⟩ | ⟨rfl,p,rfl,e⟩
 ·obtain⟨p,xs,rfl,hq,r⟩:=D.dH h e;exact .inl ⟨rfl,xs,eQ.of hq⟩
 ·cases h;exact rfl
 ·cases h;rcases e with⟨bC,e⟩ | ⟨bC,e⟩
  ·obtain⟨_,_,ks,h1,_⟩:=D.ce p _ e;exact .inr (.inr (.inl ⟨rfl,.inl ⟨ks,h1⟩⟩))
  ·obtain⟨_,_,ks,h1,_⟩:=D.ce p _ e;exact .inr (.inr (.inl ⟨rfl,.inr ⟨ks,h1⟩⟩))
def Ux(T:String)(f:DV->List DV->Wd->DK->Prop)(d:cq)(e:kx):cq:=fun ρ W Q=>d ρ W fun a W1=>yz T a W1/\e ρ W1 fun vs W2=>f a vs W2 Q
instance {K:zn}[hk:mf C K]{T:String}{rr:V->List V->Hp->VK->Prop}{f:DV->List DV->Wd->DK->Prop}[ir:Po C rr f][ia:LE C te da][is:LA C ts ds]:LE C (Qt K T rr te ts) (Ux T f da ds):=by
 obtain⟨rfl⟩:=hk;exact⟨fun D h k=>ia.go D h fun x dv H1 W1 D1 s1 v1 ⟨ht,h1⟩=>⟨Ew D1 v1 ht,is.go D1 h1 fun xs aI H2 W2 D2 s2 v2 h2=>ir.go D2 (v1.mono s2) v2 h2 (k.mono (s1.trans s2))⟩⟩
def pO:DV->List DV->Wd->DK->Prop:=fun a as W Q=>∃ p vs v,a=.pt p/\as=[v]/\W p=some (.lst vs)/\vs.length < sizeLine/\Q (.im .none) (aG W p (.lst (vs++[v])))
instance:Po C wF pO:=⟨fun D h1 h2 ⟨p,vs,v,e1,e2,e3,hl,q⟩ k=>by
 subst e1 e2;cases h1;obtain⟨y,rfl,hy⟩:=h2.df;obtain⟨_,_,xs,h3,r⟩:=D.ce p _ e3;exact⟨p,xs,y,rfl,rfl,h3,by rw[<- r.length];exact hl,k.to (dv:=.im .none) (D.wr e3 (r.append (.one hy))) rfl q⟩⟩
def Jv:DV->List DV->Wd->DK->Prop:=fun a as W Q=>∃ p vs i j v,a=.pt p/\as=[.im (.int i)]/\W p=some (.lst vs)/\-(2 ^ 63)<=i/\i < 2 ^ 63/\seqIndex? i vs.length=some j/\vs[j]?=some v/\Q v (aG W p (.lst (vs.eraseIdx j)))
instance:Po C Au Jv:=⟨fun D h1 h2 ⟨p,vs,i,j,v,e1,e2,e3,l1,l2,e4,e5,q⟩ k=>by
 subst e1 e2;cases h1;obtain⟨y,rfl,hy⟩:=h2.df;cases hy;obtain⟨_,_,xs,h3,r⟩:=D.ce p _ e3;obtain⟨y,hy,ry⟩:=r.get e5;obtain⟨D2,s2⟩:=D.wr e3 (r.erase j);exact⟨p,xs,i,j,y,rfl,rfl,h3,l1,l2,by rw[<- r.length];exact e4,hy,k _ v _ _ D2 s2 (ry.mono s2) q⟩⟩
def wZ:Ji:=fun _ W Q=>Q none W
def GO(d:cq):Ji:=fun ρ W Q=>d ρ W fun v W1=>∃ i,v=.im (.int i)/\Q (some i) W1
instance:LO C o7 wZ:=⟨fun D h k=>k none _ _ D (aJ.refl _) h⟩
instance [ia:LE C te da]:LO C (Am te) (GO da):=⟨fun D h k=>ia.go D h fun x dv H1 W1 D1 s1 v1 ⟨i,e,q⟩=>by subst e;exact⟨i,v1,k (some i) H1 W1 D1 s1 q⟩⟩
class Rb (C:DC) (r:V->ul->ul->Hp->VK->Prop) (d:outParam (DV->ul->ul->Wd->DK->Prop)):Prop where
 go:∀{σ:St} {H:Hp} {ρ:bD} {W:Wd} {Qd:DK} {Q:VK} {a:DV} {x:V} {lo hi:ul},DR C σ H ρ W->dG C (Fz C W H) a x->d a lo hi W Qd->KE C σ ρ W H Qd Q->r x lo hi H Q
def Uy(f:DV->ul->ul->Wd->DK->Prop)(d:cq)(l u:Ji):cq:=fun ρ W Q=>d ρ W fun v W1=>l ρ W1 fun lo W2=>u ρ W2 fun hi W3=>f v lo hi W3 Q
instance {rr:V->ul->ul->Hp->VK->Prop}{f:DV->ul->ul->Wd->DK->Prop}{tl tu:TO}{dl du:Ji}[ir:Rb C rr f][ia:LE C te da][il:LO C tl dl][iu:LO C tu du]:LE C (Qp rr te tl tu) (Uy f da dl du) :=
 ⟨fun D h k=>ia.go D h fun x dv H1 W1 D1 s1 v1 h1=>il.go D1 h1 fun lo H2 W2 D2 s2 h2=>iu.go D2 h2 fun hi H3 W3 D3 s3 h3=>ir.go D3 ((v1.mono s2).mono s3) h3 (k.mono ((s1.trans s2).trans s3))⟩
def cutD{α:Type}(xs:List α)(lo hi:ul):List α:=(xs.drop (HT.dj xs.length 0 lo)).take (HT.dj xs.length xs.length hi - HT.dj xs.length 0 lo)
theorem aD.cut{lo:ul}(h:aD C F vs xs):aD C F (cutD vs lo hi) (lT xs lo hi):=by
 unfold cutD lT;rw[<- h.length];exact(h.drop _).take _
theorem ak.drop{F:Hp}:∀{ds:wP} {xs:List V} (i:Nat),ak F ds xs->ak F (ds.drop i) (xs.drop i)
 | [],_,_,h=>by cases h;simp[ak]
 | _::_,_,0,h=>h
 | _::_,_,i+1,⟨y,ys,e,h,r⟩=>by subst e;exact ak.drop i r
theorem ak.take{F:Hp}:∀{ds:wP} {xs:List V} (i:Nat),ak F ds xs->ak F (ds.take i) (xs.take i)
 | [],_,_,h=>by cases h;simp[ak]
 | _::_,_,0,_=>by simp[ak]
 | _::_,_,i+1,⟨y,ys,e,h,r⟩=>by subst e;exact⟨y,_,rfl,h,ak.take i r⟩
theorem ak.cut{ds:wP}{lo:ul}(h:ak F ds xs):ak F (cutD ds lo hi) (lT xs lo hi):=by
 unfold cutD lT;rw[<- h.length];exact(h.drop _).take _
def MX:DV->ul->ul->Wd->DK->Prop:=fun a lo hi W Q=>∃ vs,(dH W a=some vs\/nP a=some vs)/\iU (cutD vs lo hi) W Q
instance {K:zn}[hk:mf C K]:Rb C (L3 K) MX:=by
 obtain⟨rfl⟩:=hk;exact⟨fun D h ⟨vs,e,q⟩ k=>by
 rcases e with e | e
 ·obtain⟨p,xs,rfl,hq,r⟩:=D.dH h e;exact⟨p,xs,rfl,eQ.of hq,fun l hl=>gJ D r.cut hl q k⟩
 ·obtain⟨p,xs,rfl,hq,_,r⟩:=D.nP h e;exact⟨p,xs,rfl,hq,fun l hl=>gJ D r.cut hl q k⟩⟩
def Ex:DV->ul->ul->Wd->DK->Prop:=fun a lo hi W Q=>∃ ds,a=.im (.tuple ds)/\¬ (HT.dj ds.length 0 lo=0/\HT.dj ds.length ds.length hi=ds.length)/\Q (.im (.tuple (cutD ds lo hi))) W
instance {K:zn}[hk:mf C K]:Rb C (LX K) Ex:=by
 obtain⟨rfl⟩:=hk;exact⟨fun D h ⟨ds,e,hn,q⟩ k=>by
 subst e;obtain⟨p,xs,rfl,hq,r⟩:=h;refine⟨p,xs,rfl,eY.of (Fz.le hq),by rw[<- r.length];exact hn,fun l hl=>?_⟩;obtain⟨D3,s3,e3⟩:=D.AX hl (.tup (lT xs _ _));exact k _ (.im (.tuple _)) _ _ D3 s3 ⟨l,_,rfl,e3,ak.same s3 r.cut⟩ q⟩
end
abbrev pP:=DV->bD->Wd->(bD->Wd->Prop)->Prop
abbrev pQ:=List DV->bD->Wd->(bD->Wd->Prop)->Prop
structure fX where
 nx:bD->Wd->Prop
 rt:DK
 bk:bD->Wd->Prop
 ct:bD->Wd->Prop
abbrev ju:=fX->bD->Wd->Prop
variable {b:ju}
def KG(C:DC)(F:Hp)(Qd:bD->Wd->Prop)(Q:St->Hp->Prop):Prop:=∀ bp H' bP W',DR C bp H' bP W'->aJ F (Fz C W' H')->Qd bP W'->Q bp H'
class LG (C:DC) (g:TG) (d:outParam pP):Prop where
 go:∀{σ:St} {H:Hp} {ρ:bD} {W:Wd} {v:V} {dv:DV} {Qd:bD->Wd->Prop} {Q:St->Hp->Prop},DR C σ H ρ W->dG C (Fz C W H) dv v->d dv ρ W Qd->KG C (Fz C W H) Qd Q->g v σ H Q
class Pp (C:DC) (g:tV) (d:outParam pQ):Prop where
 go:∀{σ:St} {H:Hp} {ρ:bD} {W:Wd} {vs:List V} {aI:List DV} {Qd:bD->Wd->Prop} {Q:St->Hp->Prop},DR C σ H ρ W->aD C (Fz C W H) aI vs->d aI ρ W Qd->KG C (Fz C W H) Qd Q->g vs σ H Q
structure EM(C:DC)(F:Hp)(De:fX)(D:Ends):Prop where
 nx:KG C F De.nx D.nx
 bk:KG C F De.bk D.bk
 ct:KG C F De.ct D.ct
 rt:∀ x dv bp H' bP W',DR C bp H' bP W'->aJ F (Fz C W' H')->dG C (Fz C W' H') dv x->De.rt dv W'->D.rt x H'
class LS (C:DC) (t:TS) (d:outParam ju):Prop where
 go:∀{σ:St} {H:Hp} {ρ:bD} {W:Wd} {De:fX} {D:Ends},DR C σ H ρ W->d De ρ W->EM C (Fz C W H) De D->t D σ H
section
variable {ta tb tc te to ti:TE}{db dc Uz di:cq}{r r':R2}{dr Q5:pK}{c c':TT}{dt MK:md}{ts:TA}{ds:kx}{Q:VK}{x:V}{g:TG}{dg:pP}{gs:tV}{MY:pQ}{t u:TS}{d e:ju}{F':Hp}
theorem KG.mono{Qd:bD->Wd->Prop}{Q:St->Hp->Prop}(k:KG C F Qd Q)(s:aJ F F'):KG C F' Qd Q:=fun bp H' bP W' D s' q=>k bp H' bP W' D (s.trans s') q
theorem EM.mono{De:fX}{D:Ends}(m:EM C F De D)(s:aJ F F'):EM C F' De D:=⟨m.nx.mono s,m.bk.mono s,m.ct.mono s,fun x dv bp H' bP W' D s' v q=>m.rt x dv bp H' bP W' D (s.trans s') v q⟩
def UA(i:Nat):pP:=fun dv ρ W Q=>Q (ρ.set i (some dv)) W
instance {i:Nat}:LG C (lF i) (UA i):=⟨fun D v h k=>k _ _ _ _ (D.set i v) (aJ.refl _) h⟩
def Rf:pQ:=fun vs ρ W Q=>vs=[]/\Q ρ W
def Rg(a:pP)(b:pQ):pQ:=fun vs ρ W Q=>∃ v r,vs=v::r/\a v ρ W fun bP W'=>b r bP W' Q
instance:Pp C HP Rf:=⟨fun D v h k=>by obtain⟨e,q⟩:=h;subst e;cases v;exact⟨rfl,k _ _ _ _ D (aJ.refl _) q⟩⟩
instance [ia:LG C g dg][ib:Pp C gs MY]:Pp C (zS g gs) (Rg dg MY):=⟨fun D v h k=>by
 obtain⟨dv,r,e,q⟩:=h;subst e;obtain⟨y,ys,e,v1,v2⟩:=v;subst e;exact⟨y,ys,rfl,ia.go D v1 q fun bp H' bP W' D' s' q'=>ib.go D' (v2.mono s') q' (k.mono s')⟩⟩
def se(a b dv:DV)(W2:Wd)(Kc:Wd->Prop):Prop:=∃ p vs k j,a=.pt p/\b=.im (.int k)/\W2 p=some (.lst vs)/\uA vs.length k=some j/\Kc (aG W2 p (.lst (vs.set j dv)))
def UB(o i:cq):pP:=fun dv ρ W Q=>o ρ W fun a W1=>i ρ W1 fun b W2=>se a b dv W2 (Q ρ)
instance [io:LE C to Uz][ii:LE C ti di]:LG C (HR to ti Ge) (UB Uz di):=⟨fun D v h k=>io.go D h fun x dx H1 W1 D1 s1 v1 h1=>ii.go D1 h1 fun y dy H2 W2 D2 s2 v2 ⟨p,vs,n,j,e1,e2,e3,e4,q⟩=>by
 subst e1 e2;cases (v1.mono s2);cases v2;obtain⟨_,_,xs,h3,r⟩:=D2.ce p _ e3;obtain⟨D3,s3⟩:=D2.wr e3 (r.set j ((v.mono s1).mono s2));exact⟨p,xs,n,j,rfl,rfl,h3,by rw[<- r.length];exact e4,k _ _ _ _ D3 ((s1.trans s2).trans s3) q⟩⟩
def GP:ju:=fun De ρ W=>De.nx ρ W
instance:LS C zP GP:=⟨fun D h m=>m.nx _ _ _ _ D (aJ.refl _) h⟩
def cm(a b:ju):ju:=fun De ρ W=>a ⟨b De,De.rt,De.bk,De.ct⟩ ρ W
instance [ia:LS C t d][ib:LS C u e]:LS C (HI t u) (cm d e):=⟨fun D h m=>ia.go D h ⟨fun bp H' bP W' D' s' q=>ib.go D' q (m.mono s'),m.bk,m.ct,m.rt⟩⟩
def w6(a:cq):ju:=fun De ρ W=>a ρ W fun _ W1=>De.nx ρ W1
instance [ia:LE C ta da]:LS C (zR ta) (w6 da):=⟨fun D h m=>ia.go D h fun x dv H1 W1 D1 s1 v1 q=>m.nx _ _ _ _ D1 s1 q⟩
def MZ(a:cq):ju:=fun De ρ W=>a ρ W De.rt
instance [ia:LE C ta da]:LS C (HJ ta) (MZ da):=⟨fun D h m=>ia.go D h fun x dv H1 W1 D1 s1 v1 q=>m.rt x dv _ _ _ _ D1 s1 v1 q⟩
def Na(c:md)(a b:ju):ju:=fun De ρ W=>c ρ W fun k W1=>if k=true then a De ρ W1 else b De ρ W1
instance [it:LT C c dt][ia:LS C t d][ib:LS C u e]:LS C (HL c t u) (Na dt d e):=⟨fun D h m=>it.go D h fun b H1 W1 D1 s1 h1=>by
 cases b with
 | true=>exact ia.go D1 h1 (m.mono s1)
 | false=>exact ib.go D1 h1 (m.mono s1)⟩
def Ey(a:cq)(g:pP):ju:=fun De ρ W=>a ρ W fun v W1=>g v ρ W1 De.nx
instance [ia:LE C ta da][ig:LG C g dg]:LS C (ug ta g) (Ey da dg):=⟨fun D h m=>ia.go D h fun x dv H1 W1 D1 s1 v1 q=>ig.go D1 v1 q (m.nx.mono s1)⟩
def A6(P:Prop)(a:kx):ju:=fun _ ρ W=>a ρ W fun vs _=>vs.length<=sizeLine/\P
instance {E':XK}{X':Addr->Prop}[he:Up C E' X']{k:Addr}[ia:LA C ts ds]:LS C (uO k E' ts) (A6 (X' k) ds):=by
 obtain⟨rfl,rfl⟩:=he;exact⟨fun D h m=>ia.go D h fun xs aI H1 W1 D1 s1 v1 ⟨hl,p⟩=>⟨by rw[<- v1.length];exact hl,D1.ok.ex k p H1 D1.fr⟩⟩
def A7(c:md)(b:ju):ju:=fun De ρ W=>∃ Pv:Nat->bD->Wd->Prop,(∃ m,Pv m ρ W)/\∀ m ρ W,Pv m ρ W->c ρ W fun k W1=>if k=true then b ⟨fun bP W'=>∃ m',m' < m/\Pv m' bP W',De.rt,De.nx,fun bP W'=>∃ m',m' < m/\Pv m' bP W'⟩ ρ W1 else De.nx ρ W1
instance [it:LT C c dt][ib:LS C t d]:LS C (uh c t) (A7 dt d):=⟨fun{σ H ρ W De D} R h m=>by
 obtain⟨Pv,⟨m0,p0⟩,hs⟩:=h;refine⟨fun n bp H'=>∃ bP W',DR C bp H' bP W'/\aJ (Fz C W H) (Fz C W' H')/\Pv n bP W',⟨m0,ρ,W,R,aJ.refl _,p0⟩,?_⟩;rintro n bp H' ⟨bP,W',D',s',p'⟩;refine it.go D' (hs n bP W' p') fun b H1 W1 D1 s1 h1=>?_;cases b with
 | true =>
  refine⟨fun zr H2=>∃ ip W2,DR C zr H2 ip W2/\aJ (Fz C W H) (Fz C W2 H2)/\∃ m',m' < n/\Pv m' ip W2,fun zr H2 ⟨ip,W2,D2,s2,m',l,p2⟩=>⟨m',l,ip,W2,D2,s2,p2⟩,ib.go D1 h1 ?_⟩;have ss:=s'.trans s1;exact⟨fun zr H2 ip W2 D2 s2 q=>⟨ip,W2,D2,ss.trans s2,q⟩,m.nx.mono ss,fun zr H2 ip W2 D2 s2 q=>⟨ip,W2,D2,ss.trans s2,q⟩,(m.mono ss).rt⟩
 | false=>exact m.nx _ _ _ _ D1 (s'.trans s1) h1⟩
structure oy where
 vs:List DV
 kp:Wd->Prop
abbrev C9:=bD->Wd->(oy->Wd->Prop)->Prop
structure Ez(C:DC)(F:Hp)(J:It)(it:oy):Prop where
 go:∀ i σ H ρ W,DR C σ H ρ W->aJ F (Fz C W H)->it.kp W->i < it.vs.length->J.go i H
 C3:∀ i σ H ρ W,DR C σ H ρ W->aJ F (Fz C W H)->it.kp W->i < it.vs.length->∀ x H',J.C3 i H x H'->DR C σ H' ρ W/\aJ (Fz C W H) (Fz C W H')/\∃ dv,it.vs[i]?=some dv/\dG C (Fz C W H') dv x
 stop:∀ σ H ρ W,DR C σ H ρ W->aJ F (Fz C W H)->it.kp W->J.stop it.vs.length H
class LI (C:DC) (w:TI) (d:outParam C9):Prop where
 go:∀{σ:St} {H:Hp} {ρ:bD} {W:Wd} {Qd:oy->Wd->Prop} {Q:It->Hp->Prop},DR C σ H ρ W->d ρ W Qd->(∀ J it H' W',DR C σ H' ρ W'->aJ (Fz C W H) (Fz C W' H')->Ez C (Fz C W' H') J it->Qd it W'->Q J H')->w σ H Q
def oz(it:oy)(g:pP)(b:ju)(De:fX)(ρ:bD)(W1:Wd):Prop:=∃ Pv:Nat->bD->Wd->Prop,Pv 0 ρ W1/\(∀ i ρ W,Pv i ρ W->it.kp W) /\
 (∀ i v ρ W,it.vs[i]?=some v->Pv i ρ W->g v ρ W fun ip W2=>b ⟨Pv (i+1),De.rt,De.nx,Pv (i+1)⟩ ip W2)/\∀ ρ W,Pv it.vs.length ρ W->De.nx ρ W
def Nb(w:C9)(g:pP)(b:ju):ju:=fun De ρ W=>w ρ W fun it W1=>oz it g b De ρ W1
instance {w:TI}{dw:C9}[iw:LI C w dw][ig:LG C g dg][ib:LS C t d]:LS C (HX w g t) (Nb dw dg d):=⟨fun{σ H ρ W De D} R h m=>iw.go R h fun J it H1 W1 D1 s1 ok ⟨Pv,p0,kp,hs,hd⟩=>by
 refine⟨fun i n bp H'=>n=it.vs.length - i/\i<=it.vs.length/\∃ bP W',DR C bp H' bP W'/\aJ (Fz C W1 H1) (Fz C W' H')/\Pv i bP W',⟨it.vs.length,by simp,aaJ _,ρ,W1,D1,aJ.refl _,p0⟩,?_⟩;rintro i n bp H' ⟨rfl,hi,bP,W',D',s',p'⟩;have kw:=kp i bP W' p'
 by_cases gn:i < it.vs.length
 ·refine .inr ⟨ok.go i bp H' bP W' D' s' kw gn,fun zr H2=>∃ ip W2,DR C zr H2 ip W2/\aJ (Fz C W1 H1) (Fz C W2 H2)/\Pv (i+1) ip W2,fun zr H2 ⟨ip,W2,D2,s2,p2⟩=>⟨it.vs.length - (i+1),by omega,rfl,gn,ip,W2,D2,s2,p2⟩,fun x H2 hy=>?_⟩;obtain⟨D2,s2,dv,e,v⟩:=ok.C3 i bp H' bP W' D' s' kw gn x H2 hy;refine ig.go D2 v (hs i dv bP W' e p') fun v9 H3 UC W3 D3 s3 q3=>ib.go D3 q3 ?_;have ss:=(s'.trans s2).trans s3;exact⟨fun WD H4 Rh W4 D4 s4 q=>⟨Rh,W4,D4,ss.trans s4,q⟩,m.nx.mono (s1.trans ss),fun WD H4 Rh W4 D4 s4 q=>⟨Rh,W4,D4,ss.trans s4,q⟩,(m.mono (s1.trans ss)).rt⟩
 ·have e:i=it.vs.length:=by omega
  subst e;exact .inl ⟨ok.stop bp H' bP W' D' s' kw,m.nx _ _ _ _ D' (s1.trans s') (hd bP W' p')⟩⟩
def sf(it:oy)(g:pP)(c:md)(e:cq)(ρ:bD)(W1:Wd)(Q:DK):Prop:=it.vs.length<=sizeLine/\∃ Pv:Nat->List DV->Wd->Prop,Pv 0 [] W1/\(∀ i ys W,Pv i ys W->it.kp W) /\
 (∀ i v ys W,it.vs[i]?=some v->ys.length<=i->Pv i ys W->g v ρ W fun ip W2=>c ip W2 fun b W3=>if b=true then e ip W3 fun y W4=>Pv (i+1) (ys++[y]) W4 else Pv (i+1) ys W3) /\
 ∀ ys W,Pv it.vs.length ys W->iU ys W Q
def GQ(w:C9)(g:pP)(c:md)(e:cq)(ix:List (Option Nat)):cq:=fun ρ W Q=>w ρ W fun it W1=>sf it g c e (yu ix ρ) W1 Q
instance {w:TI}{dw:C9}{ix:List (Option Nat)}[iw:LI C w dw][ig:LG C g dg][it:LT C c dt][ie:LE C te da]:LE C (rY w g c te ix) (GQ dw dg dt da ix):=⟨fun{σ H ρ W Qd Q} R h k=>iw.go R h fun J AY H1 W1 D1 s1 ok ⟨hz,Pv,p0,kp,hs,hd⟩=>by
 refine⟨fun i n ys H'=>n=AY.vs.length - i/\i<=AY.vs.length/\∃ zs W',DR C σ H' ρ W'/\aJ (Fz C W1 H1) (Fz C W' H')/\aD C (Fz C W' H') zs ys/\zs.length<=i/\Pv i zs W',⟨AY.vs.length,by simp,aaJ _,[],W1,D1,aJ.refl _,rfl,aae _,p0⟩,?_⟩;rintro i n ys H' ⟨rfl,hi,zs,W',D',s',vz,hl,p'⟩;have kw:=kp i zs W' p'
 by_cases gn:i < AY.vs.length
 ·refine .inr ⟨ok.go i σ H' ρ W' D' s' kw gn,by rw[<- vz.length];omega,
   fun y H2=>∃ zy W2,DR C σ H2 ρ W2/\aJ (Fz C W1 H1) (Fz C W2 H2)/\aD C (Fz C W2 H2) zs ys/\dG C (Fz C W2 H2) zy y/\Pv (i+1) (zs++[zy]) W2,fun H2=>∃ W2,DR C σ H2 ρ W2/\aJ (Fz C W1 H1) (Fz C W2 H2)/\aD C (Fz C W2 H2) zs ys/\Pv (i+1) zs W2,
   fun y H2 ⟨zy,W2,D2,s2,v2,vy,p2⟩=>⟨AY.vs.length - (i+1),by omega,rfl,gn,zs++[zy],W2,D2,s2,v2.append (.one vy),by rw[aaB];simp;omega,p2⟩,
   fun H2 ⟨W2,D2,s2,v2,p2⟩=>⟨AY.vs.length - (i+1),by omega,rfl,gn,zs,W2,D2,s2,v2,by omega,p2⟩,fun x H2 hy=>?_⟩
  obtain⟨D2,s2,dv,e,v⟩:=ok.C3 i σ H' ρ W' D' s' kw gn x H2 hy;have WE:DR C (blk ix σ) H2 (yu ix ρ) W':=D2.slots (D2.sl.blk ix);refine ig.go WE v (hs i dv zs W' e hl p') fun v9 H3 UC W3 D3 s3 q3=>it.go D3 q3 fun b H4 W4 D4 s4 h4=>?_;have back:∀ H5 W5,DR C v9 H5 UC W5->aJ (Fz C W' H2) (Fz C W5 H5)->DR C σ H5 ρ W5:=fun H5 W5 D5 s5=>D5.slots (D2.sl.mono s5);cases b with
  | true =>
   refine ie.go D4 h4 fun y zy H5 W5 D5 s5 v5 q5=>?_;exact⟨zy,W5,back H5 W5 D5 ((s3.trans s4).trans s5),(((s'.trans s2).trans s3).trans s4).trans s5,vz.mono (((s2.trans s3).trans s4).trans s5),v5,q5⟩
  | false=>exact⟨W4,back H4 W4 D4 (s3.trans s4),((s'.trans s2).trans s3).trans s4,vz.mono ((s2.trans s3).trans s4),h4⟩
 ·have e:i=AY.vs.length:=by omega
  subst e;refine .inl ⟨ok.stop σ H' ρ W' D' s' kw,fun p hp=>?_⟩;exact gJ D' vz hp (hd zs W' p') (k.mono (s1.trans s'))⟩
def Nc:md:=fun _ W Q=>Q true W
instance:LT C I0 Nc:=⟨fun D h k=>k true _ _ D (aJ.refl _) h⟩
def A8(v:DV)(W1:Wd)(Q:oy->Wd->Prop):Prop:=(∃ ds,v=.im (.list ds)/\Q ⟨ds.map .im,fun _=>True⟩ W1)\/(∃ p vs,v=.pt p/\W1 p=some (.lst vs)/\Q ⟨vs,fun W'=>W' p=some (.lst vs)⟩ W1)\/(∃ ns,v=.iO ns/\Q ⟨ns.map fun n=>.im (.int n),fun _=>True⟩ W1)
def A9(a:cq):C9:=fun ρ W Q=>a ρ W fun v W1=>A8 v W1 Q
theorem uU{it:oy}(h:∀ σ H ρ W,DR C σ H ρ W->aJ F (Fz C W H)->it.kp W->∃ xs,eQ C.K H a xs/\aD C (Fz C W H) it.vs xs):Ez C F (Qh C.K a) it where
 go:=fun i σ H ρ W D s kw hi=>by
  obtain⟨xs,q,v⟩:=h σ H ρ W D s kw;have hl:=v.length;exact⟨xs,xs[i]'(by omega),q,by simp[show i < xs.length by omega]⟩
 C3:=fun i σ H ρ W D s kw hi x H' ⟨e,y⟩=>by
  obtain⟨xs,q,v⟩:=h σ H ρ W D s kw;subst e;obtain⟨dv,e2,v2⟩:=v.get' (y xs q);exact⟨D,aJ.refl _,dv,e2,v2⟩
 stop:=fun σ H ρ W D s kw=>by
  obtain⟨xs,q,v⟩:=h σ H ρ W D s kw;exact⟨xs,q,by rw[v.length];exact aae _⟩
instance {K:zn}[hk:mf C K][ia:LE C ta da]:LI C (zV K ta) (A9 da):=by
 obtain⟨rfl⟩:=hk;exact⟨fun D h k=>ia.go D h fun x dv H1 W1 D1 s1 v1 h1=>by
 rcases h1 with⟨ds,e,q⟩ | ⟨p,vs,e,ew,q⟩ | ⟨ns,e,q⟩
 ·subst e;obtain⟨p,xs,rfl,hp,r⟩:=v1;exact⟨p,rfl,⟨xs,eQ.of (Fz.le hp)⟩,k _ _ _ _ D1 s1 (uU fun σ H ρ W D s _=>⟨xs,eQ.of (Fz.le (s _ _ hp)),.fu (ak.same s r)⟩) q⟩
 ·subst e;cases v1;obtain⟨_,_,xs,h3,r⟩:=D1.ce p _ ew;exact⟨p,rfl,⟨xs,eQ.of h3⟩,k _ _ _ _ D1 s1 (uU fun σ H ρ W D s kw=>by
   obtain⟨_,_,ys,h4,r4⟩:=D.ce p _ kw;exact⟨ys,eQ.of h4,r4⟩) q⟩
 ·subst e;obtain⟨p,rfl,hp⟩:=v1;exact⟨p,rfl,⟨_,(Fz.sm (C:=C) (W:=W1)).seq hp⟩,k _ _ _ _ D1 s1 (uU fun σ H ρ W D s _=>⟨_,(Fz.sm (C:=C) (W:=W)).seq (s.seq hp),ij ns⟩) q⟩⟩
theorem yA(D:DR C σ H ρ W)(h:dG C (Fz C W H) dv x)(e:jt dv=some vs):∃ p xs,x=.ref p/\∀ bp H' bP W',DR C bp H' bP W'->aJ (Fz C W H) (Fz C W' H')->eY C.K H' p xs/\aD C (Fz C W' H') vs xs:=by
 cases dv with
 | im d =>
  cases d with
  | tuple ds=>cases e;obtain⟨p,xs,e1,h1,r⟩:=h;exact⟨p,xs,e1,fun bp H' bP W' D' s=>⟨eY.of (Fz.le (s _ _ h1)),.fu (ak.same s r)⟩⟩
  | _=>cases e
 | cst ys =>
  obtain⟨p,e1,h1⟩:=h;unfold jt at e
  by_cases q:ys.all cU=true
  ·simp only[q,acq]at e;cases e;exact⟨p,ys,e1,fun bp H' bP W' D' s=>⟨h1 H',lq q⟩⟩
  ·simp only[q]at e;cases e
 | tp ts=>cases e;obtain⟨p,yx,e1,h1,r⟩:=h;exact⟨p,yx,e1,fun bp H' bP W' D' s=>⟨eY.of (Fz.le (s _ _ h1)),l9 (r.same s)⟩⟩
 | _=>cases e
theorem Jw{lo:Int}:Ez C F (O1 lo n) ⟨(List.range n).map fun i=>.im (.int (lo+(i:Nat))),fun _=>True⟩ where
 go:=fun i σ H ρ W D s kw hi=>by show i < n;simpa using hi
 C3:=fun i σ H ρ W D s kw hi x H' ⟨e,y⟩=>by
  subst e;have yB:i < n:=by simpa using hi
  exact⟨D,aJ.refl _,.im (.int (lo+i)),by simp[yB],y⟩
 stop:=fun σ H ρ W D s kw=>by show n<=_;simp
def Jx(vs:List DV)(W1:Wd)(Q:oy->Wd->Prop):Prop:=∃ j:Int,vs=[.im (.int j)]/\-(2 ^ 62)<=j/\j < 2 ^ 62/\Q ⟨(List.range j.toNat).map fun i=>.im (.int (0+(i:Nat))),fun _=>True⟩ W1
def GR(a:kx):C9:=fun ρ W Q=>a ρ W fun vs W1=>Jx vs W1 Q
instance [is:LA C ts ds]:LI C (zX ts) (GR ds):=⟨fun D h k=>is.go D h fun xs aI H1 W1 D1 s1 v1 ⟨j,e,l1,l2,q⟩=>by
 subst e;obtain⟨x,rfl,hx⟩:=v1.df;cases hx;exact⟨j,rfl,l1,l2,k _ _ _ _ D1 s1 Jw q⟩⟩
end
variable {B':oy->Wd->Prop}
section
variable {ta:TE}{ts:TA}{ds:kx}{Q:VK}{x:V}{F':Hp}
def yC(k:SK)(W:Wd)(dv:DV):Option (List DV):=match k with
 | .L=>match dH W dv with
  | some vs=>some vs
  | none=>nP dv
 | .T=>jt dv
def uV(dv:DV)(vs:List DV):Wd->Prop:=match dv with
 | .pt p=>fun W'=>W' p=some (.lst vs)
 | _=>fun _=>True
theorem oA(D:DR C σ H ρ W)(h:dG C (Fz C W H) dv x){k:SK}(e:yC k W dv=some vs):∃ p,x=.ref p/\uV dv vs W/\∀ bp H' bP W',DR C bp H' bP W'->aJ (Fz C W H) (Fz C W' H')->uV dv vs W'->∃ xs,uD C.K k H' p xs/\aD C (Fz C W' H') vs xs:=by
 cases k with
 | T =>
  obtain⟨p,xs,e1,hk⟩:=yA D h (show jt dv=some vs from e);have tt:∀ W',uV dv vs W':=fun W'=>by
   cases dv with
   | pt q=>cases (show jt (.pt q)=some vs from e)
   | _=>exact trivial
  exact⟨p,e1,tt W,fun bp H' bP W' D' s _=>⟨xs,hk bp H' bP W' D' s⟩⟩
 | L =>
  cases dv with
  | im d =>
   cases d with
   | list ds =>
    cases (show some (ds.map DV.im)=some vs from e);obtain⟨p,xs,e1,h1,r⟩:=h;exact⟨p,e1,trivial,fun bp H' bP W' D' s _=>⟨xs,eQ.of (Fz.le (s _ _ h1)),.fu (ak.same s r)⟩⟩
   | _=>cases (show none=some vs from e)
  | pt p =>
   unfold yC dH at e;cases q:W p with
   | none=>simp[q,nP]at e
   | some c =>
    cases c with
    | lst ys =>
     simp[q]at e;subst e;refine⟨p,h,q,fun bp H' bP W' D' s kw=>?_⟩;obtain⟨_,_,zs,h4,r4⟩:=D'.ce p _ kw;exact⟨zs,eQ.of h4,r4⟩
    | _=>simp[q,nP]at e
  | iO ns =>
   cases (show some (ns.map fun n=>DV.im (.int n))=some vs from e);obtain⟨p,e1,h1⟩:=h;exact⟨p,e1,trivial,fun bp H' bP W' D' s _=>⟨_,(Fz.sm (C:=C) (W:=W')).seq (s.seq h1),ij ns⟩⟩
  | _=>cases (show none=some vs from e)
def Jy:DV->Option PyData
 | .im d=>some d
 | _=>none
theorem pR:∀{vs:List DV} {ds:wP},eJ Jy vs=some ds->vs=ds.map .im
 | [],_,e=>by cases e;rfl
 | .im d::r,_,e=>by
  unfold eJ at e;cases q:eJ Jy r with
  | none=>simp[Jy,q]at e
  | some cs=>simp[Jy,q]at e;subst e;rw[pR q];rfl
 | .pt _::_,_,e=>by cases e
 | .cst _::_,_,e=>by cases e
 | .rf _::_,_,e=>by cases e
 | .ty _::_,_,e=>by cases e
 | .uP _::_,_,e=>by cases e
 | .raw _::_,_,e=>by cases e
 | .iO _::_,_,e=>by cases e
 | .tp _::_,_,e=>by cases e
def Ri(k1 k2:SK)(vs:List DV)(W1:Wd)(Q:oy->Wd->Prop):Prop:=∃ v1 v2 Jz tY d1 d2,vs=[v1,v2]/\yC k1 W1 v1=some Jz/\yC k2 W1 v2=some tY/\eJ Jy Jz=some d1/\eJ Jy tY=some d2 /\
 Q ⟨(d1.zip d2).map fun p=>.im (.tuple [p.1,p.2]),fun W'=>uV v1 Jz W'/\uV v2 tY W'⟩ W1
def Nd(k1 k2:SK)(a:kx):C9:=fun ρ W Q=>a ρ W fun vs W1=>Ri k1 k2 vs W1 Q
theorem JA{k1 k2:SK}{b:Addr}{d1 d2:wP}(h1:∀ σ H ρ W,DR C σ H ρ W->aJ F (Fz C W H)->kp W->∃ xs,uD C.K k1 H a xs/\ak (Fz C W H) d1 xs)(h2:∀ σ H ρ W,DR C σ H ρ W->aJ F (Fz C W H)->kp W->∃ xs,uD C.K k2 H b xs/\ak (Fz C W H) d2 xs) :
  Ez C F (QI C.K k1 k2 a b) ⟨(d1.zip d2).map fun p=>.im (.tuple [p.1,p.2]),kp⟩ where
 go:=fun i σ H ρ W D s kw hi=>by
  obtain⟨xs,q1,r1⟩:=h1 σ H ρ W D s kw;obtain⟨ys,q2,r2⟩:=h2 σ H ρ W D s kw;have yB:i < d1.length/\i < d2.length:=by simp at hi;omega
  have l1:=r1.length;have l2:=r2.length;exact⟨xs,ys,xs[i]'(by omega),ys[i]'(by omega),q1,q2,by simp[show i < xs.length by omega],by simp[show i < ys.length by omega]⟩
 C3:=fun i σ H ρ W D s kw hi x H' ⟨p,y,z,e,hp,eH,g1,g2⟩=>by
  subst e eH;obtain⟨xs,q1,r1⟩:=h1 σ H ρ W D s kw;obtain⟨ys,q2,r2⟩:=h2 σ H ρ W D s kw;have yB:i < d1.length/\i < d2.length:=by simp at hi;omega
  obtain⟨y',ey,ry⟩:=r1.get (i:=i) (d:=d1[i]) (by simp[yB.1]);obtain⟨z',ez,rz⟩:=r2.get (i:=i) (d:=d2[i]) (by simp[yB.2]);rw[g1 xs q1]at ey;cases ey;rw[g2 ys q2]at ez;cases ez;obtain⟨D2,s2,e2⟩:=D.AX hp (.tup [y,z]);refine⟨D2,s2,.im (.tuple [d1[i],d2[i]]),?_,p,_,rfl,e2,y,_,rfl,ry.same s2,z,_,rfl,rz.same s2,rfl⟩;have:(d1.zip d2)[i]?=some (d1[i],d2[i]):=by simp[aa3,yB.1,yB.2]
  show((d1.zip d2).map fun p=>DV.im (.tuple [p.1,p.2]))[i]?=_;rw[aag,this];rfl
 stop:=fun σ H ρ W D s kw=>by
  obtain⟨xs,q1,r1⟩:=h1 σ H ρ W D s kw;obtain⟨ys,q2,r2⟩:=h2 σ H ρ W D s kw;refine⟨xs,ys,q1,q2,?_⟩;show xs.length<=((d1.zip d2).map _).length\/ys.length<=((d1.zip d2).map _).length;rw[aab,adg,<- r1.length,<- r2.length];omega
instance {K:zn}[hk:mf C K]{k1 k2:SK}[is:LA C ts ds]:LI C (IU K k1 k2 ts) (Nd k1 k2 ds):=by
 obtain⟨rfl⟩:=hk;exact⟨fun D h k=>is.go D h fun xs aI H1 W1 D1 s1 v1 ⟨a,b,Jz,tY,d1,d2,e,e1,e2,i1,i2,q⟩=>by
 subst e;obtain⟨x,y,rfl,hx,hy⟩:=v1.pL;obtain⟨p1,rfl,WG,f1⟩:=oA D1 hx e1;obtain⟨p2,rfl,WH,f2⟩:=oA D1 hy e2;have u1:=pR i1;have u2:=pR i2;subst u1 u2;refine⟨p1,p2,rfl,let ⟨xs,q,_⟩:=f1 _ _ _ _ D1 (aJ.refl _) WG;⟨xs,q⟩,let ⟨xs,q,_⟩:=f2 _ _ _ _ D1 (aJ.refl _) WH;⟨xs,q⟩,k _ _ _ _ D1 s1 (JA (fun σ H ρ W D s kw=>?_) fun σ H ρ W D s kw=>?_) q⟩
 ·obtain⟨xs,q,r⟩:=f1 σ H ρ W D s kw.1;exact⟨xs,q,r.r6⟩
 ·obtain⟨xs,q,r⟩:=f2 σ H ρ W D s kw.2;exact⟨xs,q,r.r6⟩⟩
inductive Res where
 | im (d:PyData) | nw (ds:wP)
def Pq:Res->Bool
 | .im d=>Im d
 | .nw ds=>jr ds
def w8(O:Addr->Prop)(H H':Hp):Res->V->Prop
 | .im d,v=>Rep (hide O H') d v
 | .nw ds,v=>∃ p xs,v=.ref p/\H p=none/\H' p=some (.lst xs)/\ak (hide (fun a=>O a\/a=p) H') ds xs
abbrev jv:=List PyData->(Res->Prop)->(Addr->Prop)->Prop
def dm(S:jv):Sp:=fun vs H Q E=>∃(O:Addr->Prop) (ds:wP) (R:Res->Prop) (X:Addr->Prop),(∀ a,O a->H a≠none)/\ak (hide O H) ds vs/\S ds R X/\(∀ r v H',R r->aJ H H'->w8 O H H' r v->Q v H')/\∀ c H',X c->aJ H H'->E (.ref c) none H'
def i6(W:Wd)(Q:DK):Res->Prop
 | .im d=>Q (.im d) W
 | .nw ds=>(∀ p,W p=none->Q (.pt p) (aG W p (.lst (ds.map .im))))\/Q (.im (.list ds)) W
def sg(S:jv)(X:Addr->Prop):List DV->Wd->DK->Prop:=fun as W Q =>
 (∃ ds,eJ (dat 4 W) as=some ds/\S ds (fun r=>Pq r=true/\i6 W Q r) X)\/∃ ds W1,gU (jJ 4) W as=some (ds,W1)/\S ds (i6 W1 Q) X
class GS (C:DC) (sp:Sp) (E:XK) (d:outParam (List DV->Wd->DK->Prop)):Prop where
 go:∀{σ:St} {H:Hp} {ρ:bD} {W:Wd} {Qd:DK} {Q:VK} {as:List DV} {xs:List V},DR C σ H ρ W->aD C (Fz C W H) as xs->d as W Qd->KE C σ ρ W H Qd Q->sp xs H Q E
theorem DR.sameNew(D:DR C σ H ρ W)(s:aJ H H'){aI:List DV}(hp:H p=none)(qZ:H' p=some (.lst xs))(r:aD C (Fz C (aG W p (.lst aI)) H') aI xs):DR C σ H' ρ (aG W p (.lst aI))/\aJ (Fz C W H) (Fz C (aG W p (.lst aI)) H'):=by
 have np:∀ a,H a≠none->a≠p:=fun a ha z=>ha (by rw[z];exact hp);refine D.step (fun a z=>?_) (fun a u e _=>s a u e) (pI s) fun s' q c' e=>?_
 ·by_cases hq:a=p
  ·exact .inr (by rw[hq];exact hp)
  ·rw[aA hq]at z;exact .inl z
 ·by_cases hq:q=p
  ·subst hq;rw[ar]at e;cases e;exact⟨.inl (D.Jh hp),D.nO hp,xs,qZ,r⟩
  ·rw[aA hq]at e;obtain⟨h1,h2,h3⟩:=D.ce q c' e;refine⟨h1,h2,h3.mono s' D.ok (fT s (D.there e)) (fun g hg=>?_) fun t' g' n' z=>?_⟩
   ·have:=np g (D.there hg);exact⟨by rw[aA this];exact hg,fT s (D.there hg)⟩
   ·by_cases ht:t'=p
    ·subst ht;rw[ar]at z;cases z
    ·rw[aA ht]at z;exact⟨n',z⟩
theorem DR.tp(D:DR C σ H ρ W){O:Addr->Prop}(hO:∀ a,C.O a->O a):Tp (hide O H) (Fz C W H):=fun b xs e=>by
 obtain⟨h1,h2⟩:=av.mp e;refine av.mpr ⟨fun z=>?_,h2⟩;rcases z with z | z
 ·exact h1 (hO b z)
 ·cases q:W b with
  | none=>rw[q]at z;cases z
  | some c =>
   obtain⟨u,e1,e2⟩:=(D.ce b c q).2.2.mu D.ok;rw[h2]at e1;cases e1;exact e2 xs rfl
theorem xa{S:jv}{X:Addr->Prop}(hX:∀ c H',X c->(∀ a o,C.H0 a=some o->¬ C.T a->H' a=some o)->E (.ref c) none H')(D:DR C σ H ρ W)(h:aD C (Fz C W H) as xs)(hd:sg S X as W Qd)(k:KE C σ ρ W H Qd Q):dm S xs H Q E:=by
 have hE:∀ c H',X c->aJ H H'->E (.ref c) none H':=fun c H' hc s=>hX c H' hc fun a o e ht=>s a o (D.fr a o e ht);rcases hd with⟨ds,e,hS⟩ | ⟨ds,W1,e,hS⟩
 ·refine⟨fun a=>C.O a\/de (W a),ds,_,X,fun a ha=>?_,fv (fun dv x d h e=>D.dat 4 h e) h e,hS,fun r v H' hr s hv=>?_,hE⟩
  ·rcases ha with ha | ha
   ·exact D.ho a ha
   ·obtain⟨c,e⟩:=fk ha;exact D.there e
  ·obtain⟨D1,s1⟩:=D.same s;cases r with
   | im d=>exact k _ (.im d) _ _ D1 s1 (Rep.tp (D1.tp fun a ha=>.inl ha) hr.1 hv) hr.2
   | nw es =>
    obtain⟨p,ys,rfl,hp,qZ,rr⟩:=hv;have base:ak (Fz C W H') es ys:=ak.tp (D1.tp fun a ha=>.inl (.inl ha)) hr.1 rr;have Ba:Tp (Fz C W H') (Fz C (aG W p (.lst (es.map .im))) H'):=fun b zs e=>by
     obtain⟨h1,h2⟩:=av.mp e;have nb:b≠p:=fun z=>by rw[z,qZ]at h2;cases h2
     refine av.mpr ⟨fun z=>h1 (z.elim .inl fun z=>.inr ?_),h2⟩;rw[aA nb]at z;exact z
    rcases hr.2 with h2 | h2
    ·obtain⟨D2,s2⟩:=D.sameNew s hp qZ (.fu (ak.tp Ba hr.1 base));exact k _ (.pt p) _ _ D2 s2 rfl (h2 p (D.fresh hp))
    ·exact k _ (.im (.list es)) _ _ D1 s1 ⟨p,ys,rfl,av.mpr ⟨(fun z=>z.elim (D.nO hp) (fun z=>by rw[D.fresh hp]at z;cases z)),qZ⟩,base⟩ h2
 ·obtain⟨D1,s1,r1,k1⟩:=fV (i5 4) D h e;refine⟨fun a=>C.O a\/(W1 a).isSome=true,ds,_,X,fun a ha=>?_,r1,hS,fun r v H' hr s hv=>?_,hE⟩
  ·rcases ha with ha | ha
   ·exact D1.ho a ha
   ·cases q:W1 a with
    | none=>rw[q]at ha;cases ha
    | some c=>exact D1.there q
  ·obtain⟨D2,s2⟩:=D1.same s;cases r with
   | im d=>exact k _ (.im d) _ _ D2 (s1.trans s2) hv hr
   | nw es =>
    obtain⟨p,ys,rfl,hp,qZ,rr⟩:=hv;have:aJ (hide (fun a=>(C.O a\/(W1 a).isSome=true)\/a=p) H') (Fz C (aG W1 p (.lst (es.map .im))) H'):=fun b o e=>by
     obtain⟨h1,h2⟩:=av.mp e;refine av.mpr ⟨fun z=>h1 ?_,h2⟩;rcases z with z | z
     ·exact .inl (.inl z)
     ·by_cases hb:b=p
      ·exact .inr hb
      ·rw[aA hb]at z;exact .inl (.inr z)
    rcases hr with h2 | h2
    ·obtain⟨D3,s3⟩:=D1.sameNew s hp qZ (.fu (ak.same this rr));exact k _ (.pt p) _ _ D3 (s1.trans s3) rfl (h2 p (D1.fresh hp))
    ·refine k _ (.im (.list es)) _ _ D2 (s1.trans s2) ⟨p,ys,rfl,av.mpr ⟨(fun z=>z.elim (D1.nO hp) (fun z=>by rw[D1.fresh hp]at z;cases z)),qZ⟩,ak.same (fun b o e=>?_) rr⟩ h2;obtain⟨g1,g2⟩:=av.mp e;exact av.mpr ⟨fun z=>g1 (.inl z),g2⟩
instance {S:jv}:GS C (dm S) E0 (sg S fun _=>False):=⟨fun D h hd k=>xa (fun c H' hc _=>hc.elim) D h hd k⟩
instance {sp:Sp}{E:XK}{f:List DV->Wd->DK->Prop}[ir:GS C sp E f][is:LA C ts ds]:LE C (wy sp [] E ts) (Q9 f ds):=⟨fun D h k=>is.go D h fun xs aI H1 W1 D1 s1 v1 h1=>by
 show sp (xs++[]) H1 _ E;rw[abZ];exact ir.go D1 v1 h1 (k.mono s1)⟩
end
def W0:Wd:=fun _=>none
def jV:Hp->Addr->Addr->Nat->Prop:=fun _ _ _ _=>False
def uW:Addr->Prop:=fun _=>False
def cf(N:ww)(ds:List DV):bD:=ds.map some++List.replicate (N.length - ds.length) none
def EA(W:Wd)(R:Res->Prop):DV->Prop
 | .im d=>R (.im d)
 | .pt p=>∃ vs ds W2,W p=some (.lst vs)/\gU (jJ 3) W vs=some (ds,W2)/\(W2 p).isSome=true/\R (.nw ds)
 | _=>False
def JB(R:Res->Prop):fX:=⟨fun _ _=>R (.im .none),fun dv W=>EA W R dv,fun _ _=>False,fun _ _=>False⟩
theorem Slots.none:∀ n:Nat,Slots C F (List.replicate n Option.none) (List.replicate n Option.none)
 | 0=>trivial
 | n+1=>Slots.none n
theorem Slots.start:∀{aI:List DV} {vs:List V} (n:Nat),aD C F aI vs->Slots C F (aI.map some++List.replicate n Option.none) (vs.map some++List.replicate n Option.none)
 | [],_,n,h=>by cases h;exact Slots.none n
 | d::r,_,n,⟨y,ys,e,h,hr⟩=>by subst e;exact⟨h,Slots.start n hr⟩
theorem JC{R:Res->Prop}{x:V}(D:DR C σ H' ρ W)(hT:∀ p,C.H0 p=none\/C.T p->W p=none\/C.H0 p=none)(v:dG C (Fz C W H') dv x)(h:EA W R dv):∃ r,R r/\w8 C.O C.H0 H' r x:=by
 cases dv with
 | im d=>exact⟨.im d,h,Rep.same (fun a o e=>by obtain⟨h1,h2⟩:=av.mp e;exact av.mpr ⟨fun z=>h1 (.inl z),h2⟩) v⟩
 | pt p =>
  obtain⟨vs,ds,W2,e,ef,hs,hr⟩:=h;obtain⟨h0,hO,xs,hx,rx⟩:=D.ce p _ e;have WI:C.H0 p=none:=by
   rcases hT p h0 with z | z
   ·rw[e]at z;cases z
   ·exact z
  obtain⟨D2,s2,r2,_⟩:=fV (i5 3) D rx ef;refine⟨.nw ds,hr,p,xs,v,WI,hx,ak.same (fun a o q=>?_) r2⟩;obtain⟨g1,g2⟩:=av.mp q;refine av.mpr ⟨fun z=>?_,g2⟩;rcases z with z | z
  ·exact g1 (.inl z)
  ·subst z;exact g1 (.inr hs)
 | _=>exact h.elim
section
variable {K:zn}{Sd:jv}
theorem xb{vs:List V}{Q:VK}{t:TS}(h:dm Sd vs H Q E)(hb:∀ O X,∃ d,LS ⟨K,jV,H,uW,O,E,X⟩ t d/\∀ ds R,Sd ds R X->d (JB R) (cf N (ds.map .im)) W0):t { nx:=fun _ H'=>Q .cD H',rt:=Q } (start N vs) H:=by
 obtain⟨O,ds,R,X,hO,hr,hS,hR,hX⟩:=h;obtain⟨d,hd,hb⟩:=hb O X;have fz:∀ H1,Fz ⟨K,jV,H,uW,O,E,X⟩ W0 H1=hide O H1:=fun H1=>by
  funext a;unfold Fz hide
  by_cases ha:O a
  ·rw[aau ha,aau (.inl ha)]
  ·rw[aao ha,aao (by rintro(z | z);exact ha z;cases z)]
 have D:DR ⟨K,jV,H,uW,O,E,X⟩ (start N vs) H (cf N (ds.map .im)) W0:=by
  refine⟨⟨fun z=>z.elim,fun z=>z.elim,fun c hc H' hf=>hX c H' hc fun a o e=>hf a o e (fun z=>z)⟩,fun a o e _=>e,hO,fun a z=>z.elim,?_,fun p c e=>by cases e⟩;rw[fz H];have va:aD ⟨K,jV,H,uW,O,E,X⟩ (hide O H) (ds.map .im) vs:=aD.fu hr;unfold start cf;rw[va.length];exact Slots.start _ va
 refine hd.go D (hb ds R hS) ⟨fun bp H' bP W' D' s q=>?_,fun bp H' bP W' D' s q=>q.elim,fun bp H' bP W' D' s q=>q.elim,fun x dv bp H' bP W' D' s v q=>?_⟩
 ·exact hR (.im .none) .cD H' q (fun a o e=>D'.fr a o e (fun z=>z)) rfl
 ·obtain⟨r,hr,hv⟩:=JC D' (fun p z=>z.elim .inr fun z=>z.elim) v q;exact hR r x H' hr (fun a o e=>D'.fr a o e (fun z=>z)) hv
theorem xc(hlen:∀ ds R X,Sd ds R X->ds.length=ps.length):∀ vs H Q E,dm Sd vs H Q E->vs.length=ps.length:=fun vs H Q E ⟨O,ds,R,X,_,hr,hS,_⟩=>by rw[<- hr.length];exact hlen ds R X hS
theorem cA.pS(F:cA K x qual st f fd)(S:ay N ps (defScope st))(hlen:∀ ds R X,Sd ds R X->ds.length=ps.length)(cY:∀(bq:Value) (A:t0) (outer:List Env) (s:Shared) (H:Hp) (E:XK),cB k (A.deeper (envOfC qual (defScope st) s.heap.objs.size f bq)) ->
   ∃ t,rV (fj cI P w K mg base N qual (defScope st) f bq A outer s H E).zq (defBody st) t/\∀ O X,∃ d,LS ⟨K,jV,H,uW,O,E,X⟩ t d/\∀ ds R,Sd ds R X->d (JB R) (cf N (ds.map .im)) W0):aW P w K mg base cI (k+1) f fd ps (dm Sd) :=
 F.K8 S (xc hlen) fun bq A outer s H vs Q E hr h=>by
  obtain⟨t,h1,h2⟩:=cY bq A outer s H E hr;exact⟨t,h1,xb h h2⟩
theorem cA.Nf(F:cA K x qual st f fd)(S:ay N ps (defScope st))(hlen:∀ ds R X,Sd ds R X->ds.length=ps.length)(cY:∀(bq:Value) (A:t0) (outer:List Env) (s:Shared) (H:Hp) (E:XK),cB k (A.deeper (envOfC qual (defScope st) s.heap.objs.size f bq)) ->
   ∃ t,rV (fj (tX P w) P w K mg base N qual (defScope st) f bq A outer s H E) (defBody st) t/\∀ O X,∃ d,LS ⟨K,jV,H,uW,O,E,X⟩ t d/\∀ ds R,Sd ds R X->d (JB R) (cf N (ds.map .im)) W0):aW P w K mg base (tX P w) (k+1) f fd ps (dm Sd) :=
 F.WA S (xc hlen) fun bq A outer s H vs Q E hr h=>by
  obtain⟨t,h1,h2⟩:=cY bq A outer s H E hr;exact⟨t,h1,xb h h2⟩
end
def xf(f:Wd->DV->Option (PyData×Wd)):Prop:=∀{W W':Wd} {dv:DV} {d:PyData},f W dv=some (d,W')->∀ a,de (W a)->W' a=W a
theorem iP{f:Wd->DV->Option (PyData×Wd)}(hf:xf f):∀{aI:List DV} {W W':Wd} {ds:wP},gU f W aI=some (ds,W')->∀ a,de (W a)->W' a=W a
 | [],W,_,_,e,a,_=>by cases e;rfl
 | d::r,W,W',ds,e,a,ht=>by
  unfold gU at e;cases q:f W d with
  | none=>rw[q]at e;cases e
  | some dw =>
   obtain⟨d',W1⟩:=dw;rw[q]at e;cases q2:gU f W1 r with
   | none=>simp[q2]at e
   | some Q3 =>
    obtain⟨zw,W2⟩:=Q3;simp[q2]at e;obtain⟨e3,e4⟩:=e;subst e3 e4;have h1:=hf q a ht;rw[iP hf q2 a (by rw[h1];exact ht),h1]
theorem mj:∀ n:Nat,xf (jJ n)
 | n,W,W',.im d',d,e,a,ht=>by
  have e':(d',W)=(d,W'):=by cases n<;>exact aaF e
  cases e';rfl
 | 0,_,_,.pt p,_,e,_,_=>by cases e
 | n+1,W,W',.pt p,d,e,a,ht=>by
  unfold jJ at e;cases q:W p with
  | none=>rw[q]at e;cases e
  | some c =>
   rw[q]at e;cases c with
   | lst ys =>
    cases q2:gU (jJ n) (pH W p) ys with
    | none=>simp[q2]at e
    | some dw =>
     obtain⟨ds,W1⟩:=dw;simp[q2]at e;obtain⟨e3,e4⟩:=e;subst e3 e4;have ap:a≠p:=fun z=>by rw[z,q]at ht;exact ht
     rw[iP (mj n) q2 a (by rw[gH ap];exact ht),gH ap]
   | aM _ _=>cases e
   | part=>cases e
   | dk _=>cases e
   | dt _=>cases e
   | ob _ _ _=>cases e
 | 0,_,_,.cst _,_,e,_,_=>by cases e
 | n+1,_,_,.cst _,_,e,_,_=>by cases e
 | 0,_,_,.rf _,_,e,_,_=>by cases e
 | n+1,_,_,.rf _,_,e,_,_=>by cases e
 | 0,_,_,.ty _,_,e,_,_=>by cases e
 | n+1,_,_,.ty _,_,e,_,_=>by cases e
 | 0,_,_,.uP _,_,e,_,_=>by cases e
 | n+1,_,_,.uP _,_,e,_,_=>by cases e
 | 0,_,_,.raw _,_,e,_,_=>by cases e
 | n+1,_,_,.raw _,_,e,_,_=>by cases e
 | 0,_,_,.iO _,_,e,_,_=>by cases e
 | n+1,_,_,.iO _,_,e,_,_=>by cases e
 | 0,_,_,.tp _,_,e,_,_=>by cases e
 | n+1,_,_,.tp _,_,e,_,_=>by cases e
abbrev si:=Nat->wP->(Res->Nat->Prop)->Prop
def spT(Rs:Hp->Addr->Addr->Nat->Prop)(S:si):Sp:=fun vs H Q _=>∃(t g:Addr) (n:Nat) (yx:List V) (O:Addr->Prop) (ds:wP) (R:Res->Nat->Prop),vs=.ref t::yx/\Rs H t g n/\g≠t/\(∀ a,O a->H a≠none)/\¬ O t/\¬ O g /\
 ak (hide (fun a=>O a\/a=t\/a=g) H) ds yx/\S n ds R/\∀ r n' v H',R r n'->Kp t g H H'->Rs H' t g n'->w8 (fun a=>O a\/a=t\/a=g) H H' r v->Q v H'
def sj(S:si):List DV->Wd->DK->Prop:=fun as W Q=>∃ t g n Pt,as=.pt t::Pt/\W t=some (.aM g n) /\
 ((∃ ds,eJ (dat 4 W) Pt=some ds/\S n ds fun r n'=>Pq r=true/\i6 (aG W t (.aM g n')) Q r)\/∃ ds W1,gU (jJ 4) W Pt=some (ds,W1)/\W1 t=some (.aM g n)/\S n ds fun r n'=>i6 (aG W1 t (.aM g n')) Q r)
section
variable {Q:VK}
theorem yD{b:Addr}{d:Cell}(h:a≠b):aG (aG W a c) b d=aG (aG W b d) a c:=by
 funext z;unfold aG
 by_cases h1:z=b
 ·subst h1;rw[aau rfl,aao (acj h),aau rfl]
 ·rw[aao h1];by_cases h2:z=a
  ·rw[aau h2,aau h2]
  ·rw[aao h2,aao h2,aao h1]
theorem DR.GU{n':Nat}{aI:List DV}(D:DR C σ H ρ W)(e:W t=some (.aM g n))(k:Kp t g H H')(r:C.Rs H' t g n')(hp:H p=none)(qZ:H' p=some (.lst xs))(rx:aD C (Fz C (aG (aG W t (.aM g n')) p (.lst aI)) H') aI xs):DR C σ H' ρ (aG (aG W t (.aM g n')) p (.lst aI))/\aJ (Fz C W H) (Fz C (aG (aG W t (.aM g n')) p (.lst aI)) H'):=by
 obtain⟨_,eg,uq⟩:=(D.ce t _ e).2.2;have pt:p≠t:=fun z=>D.there e (by rw[<- z];exact hp);have pg:p≠g:=fun z=>D.there eg (by rw[<- z];exact hp);have gt:g≠t:=fun z=>by rw[z,e]at eg;cases eg
 obtain⟨D1,s1⟩:=D.kp e k r;have keep:∀ a,a≠t->a≠g->H a≠none->H' a=H a:=fun a h1 h2 h=>by
  cases q:H a with
  | none=>exact absurd q h
  | some o=>exact k a o q h1 h2
 refine D.step (fun a z=>?_) (fun a u q w'=>?_) (fun a ha=>?_) fun s q c e'=>?_
 ·by_cases hq:a=p
  ·exact .inr (by rw[hq];exact hp)
  ·rw[aA hq]at z
   by_cases hq:a=t
   ·exact .inl (by rw[hq,e];rfl)
   ·rw[aA hq]at z;exact .inl z
 ·exact k a u q (fun z=>by rw[z,e]at w';cases w') (fun z=>by rw[z,eg]at w';cases w')
 ·by_cases h1:a=t
  ·rw[h1];exact(D.ok.rn r).1.ne
  by_cases h2:a=g
  ·rw[h2];exact(D.ok.rn r).2.ne
  rw[keep a h1 h2 ha];exact ha
 ·by_cases hq:q=p
  ·subst hq;rw[ar]at e';cases e';exact⟨.inl (D.Jh hp),D.nO hp,xs,qZ,rx⟩
  ·rw[aA hq]at e'
   by_cases GV:q=t
   ·subst GV;rw[ar]at e';cases e';refine⟨(D.ce q _ e).1,(D.ce q _ e).2.1,r,by rw[aA (acj pg),aA gt];exact eg,fun t' g' m z=>?_⟩
    by_cases ht:t'=p
    ·subst ht;rw[ar]at z;cases z
    ·rw[aA ht]at z
     by_cases ht:t'=q
     ·exact ht
     ·rw[aA ht]at z;exact uq t' g' m z
   ·rw[aA GV]at e';obtain⟨C8,h2,h3⟩:=D.ce q c e';refine⟨C8,h2,?_⟩
    by_cases yv:q=g
    ·subst yv;rw[eg]at e';cases e';exact(D.ok.rn r).2
    ·cases c with
     | aM g2 n2=>exact absurd (uq q g2 n2 e') GV
     | part=>show Mu (H' q);rw[keep q GV yv (D.there e')];exact h3
     | lst ds=>obtain⟨xs,z,rr⟩:=h3;exact⟨xs,k q _ z GV yv,rr.mono s⟩
     | dk ds=>obtain⟨xs,z,kk,rr⟩:=h3;exact⟨xs,k q _ z GV yv,kk,rr.mono s⟩
     | dt ds=>obtain⟨xs,z,kk,rr⟩:=h3;exact⟨xs,k q _ z GV yv,kk,rr.mono s⟩
     | ob _ _ ds=>obtain⟨xs,z,kk,rr⟩:=h3;exact⟨xs,k q _ z GV yv,kk,rr.mono s⟩
theorem EB{S:si}(D:DR C σ H ρ W)(h:aD C (Fz C W H) as xs)(hd:sj S as W Qd)(k:KE C σ ρ W H Qd Q):spT C.Rs S xs H Q E:=by
 obtain⟨t,g,n,Pt,rfl,et,hd⟩:=hd;obtain⟨y,ys,rfl,hy,UD⟩:=h;cases hy;have main:∀(W:Wd) (O:Addr->Prop) (ds:wP) (R:Res->Nat->Prop),DR C σ H ρ W->W t=some (.aM g n)->(∀ a,O a->H a≠none)->¬ O t->¬ O g->ak (hide (fun a=>O a\/a=t\/a=g) H) ds ys->S n ds R ->
   (∀ r n' v H',R r n'->Kp t g H H'->C.Rs H' t g n'->w8 (fun a=>O a\/a=t\/a=g) H H' r v->Q v H')->spT C.Rs S (.ref t::ys) H Q E:=fun W O ds R D et ho h1 h2 hr hS hR=>by
  obtain⟨_,nO,uX,eg,uq⟩:=D.ce t _ et;have gt:g≠t:=fun z=>by rw[z,et]at eg;cases eg
  exact⟨t,g,n,ys,O,ds,R,rfl,uX,gt,ho,h1,h2,hr,hS,hR⟩
 have small:∀(W:Wd),DR C σ H ρ W->W t=some (.aM g n)->∀ H1:Hp,aJ (hide (fun a=>C.O a\/de (W a)) H1) (hide (fun a=>C.O a\/a=t\/a=g) H1):=fun W D et H1 a o e=>by
  obtain⟨_,eg,_⟩:=(D.ce t _ et).2.2;obtain⟨h1,h2⟩:=av.mp e;refine av.mpr ⟨fun z=>h1 ?_,h2⟩;rcases z with z | z | z
  ·exact .inl z
  ·exact .inr (by rw[z,et];trivial)
  ·exact .inr (by rw[z,eg];trivial)
 rcases hd with⟨ds,e,hS⟩ | ⟨ds,W1,e,GW,hS⟩
 ·obtain⟨_,nO,WJ,WK,_⟩:=D.ce t _ et;refine main W C.O ds _ D et D.ho nO (D.ce g _ WK).2.1 (ak.same (small W D et H) (fv (fun dv x d h e=>D.dat 4 h e) UD e)) hS fun r n' v H' hr kp uX hv=>?_;obtain⟨D1,s1⟩:=D.kp et kp uX;cases r with
  | im d=>exact k _ (.im d) _ _ D1 s1 (Rep.tp (D1.tp fun a ha=>.inl ha) hr.1 hv) hr.2
  | nw es =>
   obtain⟨p,zs,rfl,hp,qZ,rr⟩:=hv;have base:ak (Fz C (aG W t (.aM g n')) H') es zs:=ak.tp (D1.tp fun a ha=>.inl (.inl ha)) hr.1 rr;have Ba:Tp (Fz C (aG W t (.aM g n')) H') (Fz C (aG (aG W t (.aM g n')) p (.lst (es.map .im))) H'):=fun b zs e=>by
    obtain⟨h1,h2⟩:=av.mp e;have nb:b≠p:=fun z=>by rw[z,qZ]at h2;cases h2
    refine av.mpr ⟨fun z=>h1 (z.elim .inl fun z=>.inr ?_),h2⟩;rw[aA nb]at z;exact z
   have Ng:aG W t (.aM g n') p=none:=by rw[aA (fun z=>D.there et (by rw[<- z];exact hp))];exact D.fresh hp
   rcases hr.2 with h2 | h2
   ·obtain⟨D2,s2⟩:=D.GU et kp uX hp qZ (.fu (ak.tp Ba hr.1 base));exact k _ (.pt p) _ _ D2 s2 rfl (h2 p Ng)
   ·exact k _ (.im (.list es)) _ _ D1 s1 ⟨p,zs,rfl,av.mpr ⟨(fun z=>z.elim (D.nO hp) (fun z=>by rw[Ng]at z;cases z)),qZ⟩,base⟩ h2
 ·obtain⟨D1,s1,r1,k1⟩:=fV (i5 4) D UD e;obtain⟨_,_,_,eg,_⟩:=D1.ce t _ GW;have sub:∀ H1:Hp,aJ (Fz C W1 H1) (hide (fun a=>(C.O a\/((W1 a).isSome=true/\a≠t/\a≠g))\/a=t\/a=g) H1):=fun H1 a o e=>by
   obtain⟨h1,h2⟩:=av.mp e;refine av.mpr ⟨fun z=>h1 ?_,h2⟩;rcases z with(z | z) | z | z
   ·exact .inl z
   ·exact .inr z.1
   ·exact .inr (by rw[z,GW];rfl)
   ·exact .inr (by rw[z,eg];rfl)
  refine main W1 (fun a=>C.O a\/((W1 a).isSome=true/\a≠t/\a≠g)) ds _ D1 GW (fun a ha=>?_) (fun z=>?_) (fun z=>?_) (ak.same (sub H) r1) hS fun r n' v H' hr kp uX hv=>?_
  ·rcases ha with ha | ⟨ha,_⟩
   ·exact D1.ho a ha
   ·cases q:W1 a with
    | none=>rw[q]at ha;cases ha
    | some c=>exact D1.there q
  ·rcases z with z | z
   ·exact(D1.ce t _ GW).2.1 z
   ·exact z.2.1 rfl
  ·rcases z with z | z
   ·exact(D1.ce g _ eg).2.1 z
   ·exact z.2.2 rfl
  ·obtain⟨D2,s2⟩:=D1.kp GW kp uX;have sup:∀ W2:Wd,(∀ a,(W2 a).isSome=true->(W1 a).isSome=true)->aJ (hide (fun a=>(C.O a\/((W1 a).isSome=true/\a≠t/\a≠g))\/a=t\/a=g) H') (Fz C W2 H'):=fun W2 hw a o e=>by
    obtain⟨h1,h2⟩:=av.mp e;refine av.mpr ⟨fun z=>h1 ?_,h2⟩;rcases z with z | z
    ·exact .inl (.inl z)
    ·by_cases ht:a=t
     ·exact .inr (.inl ht)
     by_cases hg:a=g
     ·exact .inr (.inr hg)
     exact .inl (.inr ⟨hw a z,ht,hg⟩)
   have hw:∀ a,(aG W1 t (.aM g n') a).isSome=true->(W1 a).isSome=true:=fun a z=>by
    by_cases ht:a=t
    ·rw[ht,GW];rfl
    ·rw[aA ht]at z;exact z
   cases r with
   | im d=>exact k _ (.im d) _ _ D2 (s1.trans s2) (Rep.same (sup _ hw) hv) hr
   | nw es =>
    obtain⟨p,zs,rfl,hp,qZ,rr⟩:=hv;have Rj:aJ (hide (fun a=>((C.O a\/((W1 a).isSome=true/\a≠t/\a≠g))\/a=t\/a=g)\/a=p) H') (Fz C (aG (aG W1 t (.aM g n')) p (.lst (es.map .im))) H'):=fun a o e=>by
     obtain⟨h1,h2⟩:=av.mp e;refine av.mpr ⟨fun z=>h1 ?_,h2⟩;rcases z with z | z
     ·exact .inl (.inl (.inl z))
     ·by_cases ha:a=p
      ·exact .inr ha
      ·rw[aA ha]at z
       by_cases ht:a=t
       ·exact .inl (.inr (.inl ht))
       by_cases hg:a=g
       ·exact .inl (.inr (.inr hg))
       exact .inl (.inl (.inr ⟨hw a z,ht,hg⟩))
    have Ng:aG W1 t (.aM g n') p=none:=by rw[aA (fun z=>D1.there GW (by rw[<- z];exact hp))];exact D1.fresh hp
    rcases hr with h2 | h2
    ·obtain⟨D3,s3⟩:=D1.GU GW kp uX hp qZ (.fu (ak.same Rj rr));exact k _ (.pt p) _ _ D3 (s1.trans s3) rfl (h2 p Ng)
    ·refine k _ (.im (.list es)) _ _ D2 (s1.trans s2) ⟨p,zs,rfl,av.mpr ⟨(fun z=>z.elim (D1.nO hp) (fun z=>by rw[Ng]at z;cases z)),qZ⟩,ak.same (fun a o e=>?_) rr⟩ h2;obtain⟨g1,g2⟩:=av.mp e;exact sup _ hw a o (av.mpr ⟨fun z=>g1 (.inl z),g2⟩)
instance {Rs:Hp->Addr->Addr->Nat->Prop}[hs:Jj C Rs]{S:si}{E:XK}:GS C (spT Rs S) E (sj S):=by
 obtain⟨rfl⟩:=hs;exact⟨fun D h hd k=>EB D h hd k⟩
def WT(t g:Addr)(n:Nat):Wd:=aG (aG W0 g .part) t (.aM g n)
def Nh(t g:Addr)(R:Res->Nat->Prop):fX:=⟨fun _ W=>∃ n,W t=some (.aM g n)/\R (.im .none) n,fun dv W=>∃ n,W t=some (.aM g n)/\EA W (fun r=>R r n) dv,fun _ _=>False,fun _ _=>False⟩
end
structure Bb(Rs:Hp->Addr->Addr->Nat->Prop):Prop where
 rs:∀{H H':Hp} {t g:Addr} {n:Nat},Rs H t g n->H' t=H t->H' g=H g->Rs H' t g n
 rn:∀{H:Hp} {t g:Addr} {n:Nat},Rs H t g n->Mu (H t)/\Mu (H g)
section
variable {K:zn}{Sd:si}{Rs:Hp->Addr->Addr->Nat->Prop}
theorem Bc{vs:List V}{Q:VK}{t:TS}(ok:Bb Rs)(h:spT Rs Sd vs H Q E)(hb:∀ a g O,∃ d,LS ⟨K,Rs,H,fun z=>z=a\/z=g,O,E,fun _=>False⟩ t d/\∀ n ds R,Sd n ds R->d (Nh a g R) (cf N (.pt a::ds.map .im)) (WT a g n)):t { nx:=fun _ H'=>Q .cD H',rt:=Q } (start N vs) H:=by
 obtain⟨a,g,n,yx,O,ds,R,rfl,uX,gt,hO,nt,ng,hr,hS,hR⟩:=h;obtain⟨d,hd,hb⟩:=hb a g O;have Wg:WT a g n g=some .part:=by unfold WT;rw[aA gt];exact ar
 have Wa:WT a g n a=some (.aM g n):=ar;have Wz:∀ z c,WT a g n z=some c->z=a\/z=g:=fun z c e=>by
  unfold WT at e
  by_cases h1:z=a
  ·exact .inl h1
  ·rw[aA h1]at e
   by_cases h2:z=g
   ·exact .inr h2
   ·rw[aA h2]at e;cases e
 have fz:∀ H1,aJ (hide (fun z=>O z\/z=a\/z=g) H1) (Fz ⟨K,Rs,H,fun z=>z=a\/z=g,O,E,fun _=>False⟩ (WT a g n) H1):=fun H1 b o e=>by
  obtain⟨h1,h2⟩:=av.mp e;refine av.mpr ⟨fun z=>h1 ?_,h2⟩;rcases z with z | z
  ·exact .inl z
  ·cases q:WT a g n b with
   | none=>rw[q]at z;cases z
   | some c=>exact .inr (Wz b c q)
 have D:DR ⟨K,Rs,H,fun z=>z=a\/z=g,O,E,fun _=>False⟩ (start N (.ref a::yx)) H (cf N (.pt a::ds.map .im)) (WT a g n):=by
  refine⟨⟨ok.rs,ok.rn,fun c hc=>hc.elim⟩,fun b o e _=>e,hO,fun b z=>?_,?_,fun p c e=>?_⟩
  ·rcases z with z | z
   ·rw[z];exact(ok.rn uX).1.ne
   ·rw[z];exact(ok.rn uX).2.ne
  ·have va:aD ⟨K,Rs,H,fun z=>z=a\/z=g,O,E,fun _=>False⟩ (Fz ⟨K,Rs,H,fun z=>z=a\/z=g,O,E,fun _=>False⟩ (WT a g n) H) (.pt a::ds.map .im) (.ref a::yx):=⟨_,_,rfl,rfl,(aD.fu hr).mono (fz H)⟩;unfold start cf;rw[va.length];exact Slots.start _ va
  ·rcases Wz p c e with z | z
   ·subst z;rw[Wa]at e;cases e;refine⟨.inr (.inl rfl),nt,uX,Wg,fun t' g' n' z=>?_⟩;rcases Wz t' _ z with q | q
    ·exact q
    ·rw[q,Wg]at z;cases z
   ·subst z;rw[Wg]at e;cases e;exact⟨.inr (.inr rfl),ng,(ok.rn uX).2⟩
 have fin:∀ bp H' bP W' n',DR ⟨K,Rs,H,fun z=>z=a\/z=g,O,E,fun _=>False⟩ bp H' bP W'->W' a=some (.aM g n')->Kp a g H H'/\Rs H' a g n':=fun bp H' bP W' n' D' e =>
  ⟨fun b o q h1 h2=>D'.fr b o q (fun z=>z.elim h1 h2),(D'.ce a _ e).2.2.1⟩
 refine hd.go D (hb n ds R hS) ⟨fun bp H' bP W' D' s q=>?_,fun bp H' bP W' D' s q=>q.elim,fun bp H' bP W' D' s q=>q.elim,fun x dv bp H' bP W' D' s v q=>?_⟩
 ·obtain⟨n',e,q⟩:=q;obtain⟨h1,h2⟩:=fin bp H' bP W' n' D' e;exact hR (.im .none) n' .cD H' q h1 h2 rfl
 ·obtain⟨n',e,q⟩:=q;obtain⟨h1,h2⟩:=fin bp H' bP W' n' D' e;have Pu:W' g=some .part:=(D'.ce a _ e).2.2.2.1;cases dv with
  | im d =>
   refine hR (.im d) n' x H' q h1 h2 (Rep.same (fun b o e2=>?_) v);obtain⟨g1,g2⟩:=av.mp e2;refine av.mpr ⟨fun z=>g1 ?_,g2⟩;rcases z with z | z | z
   ·exact .inl z
   ·exact .inr (by rw[z,e];rfl)
   ·exact .inr (by rw[z,Pu];rfl)
  | pt p =>
   obtain⟨us,es,W2,e1,ef,hs,JD⟩:=q;obtain⟨h0,hO2,xs,hx,rx⟩:=D'.ce p _ e1;have pa:p≠a:=fun z=>by rw[z,e]at e1;cases e1
   have pg:p≠g:=fun z=>by rw[z,Pu]at e1;cases e1
   obtain⟨D2,s2,r2,_⟩:=fV (i5 3) D' rx ef;have UE:(W2 a).isSome=true/\(W2 g).isSome=true:=by
    have q1:=iP (mj 3) ef a (by rw[e];trivial);have q2:=iP (mj 3) ef g (by rw[Pu];trivial);rw[q1,q2,e,Pu];exact⟨rfl,rfl⟩
   refine hR (.nw es) n' x H' JD h1 h2 ⟨p,xs,v,h0.elim id fun z=>z.elim (fun z=>absurd z pa) fun z=>absurd z pg,hx,ak.same (fun b o q=>?_) r2⟩;obtain⟨g1,g2⟩:=av.mp q;refine av.mpr ⟨fun z=>g1 ?_,g2⟩;rcases z with(z | z | z) | z
   ·exact .inl z
   ·exact .inr (by rw[z];exact UE.1)
   ·exact .inr (by rw[z];exact UE.2)
   ·exact .inr (by rw[z];exact hs)
  | _=>exact q.elim
theorem xg{m:Nat}(hm:ps.length=m+1)(hlen:∀ n ds R,Sd n ds R->ds.length=m):∀ vs H Q E,spT Rs Sd vs H Q E->vs.length=ps.length:=fun vs H Q E ⟨t,g,n,yx,O,ds,R,e,_,_,_,_,_,hr,hS,_⟩=>by rw[e,aaG,<- hr.length,hlen n ds R hS,hm]
theorem cA.GX(F:cA K x qual st f fd)(S:ay N ps (defScope st))(ok:Bb Rs){m:Nat}(hm:ps.length=m+1)(hlen:∀ n ds R,Sd n ds R->ds.length=m)(cY:∀(bq:Value) (A:t0) (outer:List Env) (s:Shared) (H:Hp) (E:XK),cB k (A.deeper (envOfC qual (defScope st) s.heap.objs.size f bq)) ->
   ∃ t,rV (fj cI P w K mg base N qual (defScope st) f bq A outer s H E).zq (defBody st) t/\∀ a g O,∃ d,LS ⟨K,Rs,H,fun z=>z=a\/z=g,O,E,fun _=>False⟩ t d/\∀ n ds R,Sd n ds R->d (Nh a g R) (cf N (.pt a::ds.map .im)) (WT a g n)):aW P w K mg base cI (k+1) f fd ps (spT Rs Sd) :=
 F.K8 S (xg hm hlen) fun bq A outer s H vs Q E hr h=>by
  obtain⟨t,h1,h2⟩:=cY bq A outer s H E hr;exact⟨t,h1,Bc ok h h2⟩
end
def uY(K:zn):Sp:=fun vs H Q _=>∃(a:Addr) (ns:wn),vs=[.ref a]/\eQ K H a (ns.map V.int)/\ns.length<=63/\∀ H',Q (.bl true) H'
def Rk:fX:=⟨fun _ _=>False,fun dv _=>dv=.im (.bool true),fun _ _=>False,fun _ _=>False⟩
section
variable {K:zn}{p:Str}{Rs:Hp->Addr->Addr->Nat->Prop}
theorem Rm{X:Addr->Prop}{H1:Hp}{T:Addr->Prop}:Fz ⟨K,Rs,H,T,uW,E,X⟩ W0 H1=H1:=by
 funext a;unfold Fz hide;rw[aao (by rintro(z | z);exact z;cases z)]
theorem oB(ok:Bb Rs)(h:eQ K H a (ns.map V.int)):DR ⟨K,Rs,H,uW,uW,E,fun _=>False⟩ (start N [.ref a]) H (cf N [.iO ns]) W0:=by
 refine⟨⟨ok.rs,ok.rn,fun c hc=>hc.elim⟩,fun a o e _=>e,fun a z=>z.elim,fun a z=>z.elim,?_,fun p c e=>by cases e⟩;rw[Rm];have va:aD ⟨K,Rs,H,uW,uW,E,fun _=>False⟩ H [.iO ns] [.ref a]:=⟨_,_,rfl,⟨a,rfl,h⟩,rfl⟩;unfold start cf;exact Slots.start _ va
theorem cA.Ni(F:cA K x qual st f fd)(S:ay N [p] (defScope st))(ok:Bb Rs)(cY:∀(bq:Value) (A:t0) (outer:List Env) (s:Shared) (H:Hp) (E:XK),cB k (A.deeper (envOfC qual (defScope st) s.heap.objs.size f bq)) ->
   ∃ t,rV (fj cI P w K mg base N qual (defScope st) f bq A outer s H E).zq (defBody st) t/\∃ d,LS ⟨K,Rs,H,uW,uW,E,fun _=>False⟩ t d/\∀ ns,ns.length<=63->d Rk (cf N [.iO ns]) W0):aW P w K mg base cI (k+1) f fd [p] (uY K) :=
 F.K8 S (fun vs H Q E ⟨a,ns,e,_⟩=>by rw[e];rfl) fun bq A outer s H vs Q E hr h=>by
  obtain⟨a,ns,rfl,hS,EC,q⟩:=h;obtain⟨t,h1,d,hd,hb⟩:=cY bq A outer s H E hr;refine⟨t,h1,hd.go (oB ok hS) (hb ns EC) ⟨fun bp H' bP W' D' s q=>q.elim,fun bp H' bP W' D' s q=>q.elim,fun bp H' bP W' D' s q=>q.elim,fun x dv bp H' bP W' D' s v e=>?_⟩⟩;rw[show dv=.im (.bool true) from e]at v;rw[show x=.bl true from v];exact q H'
end
def ED:DV->Option V
 | .im (.int i)=>some (.int i)
 | .pt p=>some (.ref p)
 | _=>none
def iq:List DV->Option (List V)
 | []=>some []
 | x::r=>(ED x).bind fun v=>(iq r).map (v::·)
def xh(H:Hp)(t:Addr):Cell->Prop
 | .lst aI=>∃ xs,iq aI=some xs/\H t=some (.lst xs)
 | .dk bC=>∃ xs,iq (bC.map (·.2))=some xs/\H t=some (.dK ((bC.map (·.1)).zip xs))
 | _=>False
def cJ(Iv:Addr->Nat->Cell->wn->Prop):Hp->Addr->Addr->Nat->Prop:=fun H t g n=>∃ c gs,Iv g n c gs/\xh H t c/\H g=some (.lst (gs.map V.int))
theorem ei{Iv:Addr->Nat->Cell->wn->Prop}:Bb (cJ Iv) where
 rs:=fun⟨c,gs,h1,h2,h3⟩ e1 e2=>by
  refine⟨c,gs,h1,?_,by rw[e2];exact h3⟩;cases c with
  | lst aI=>obtain⟨xs,a,b⟩:=h2;exact⟨xs,a,by rw[e1];exact b⟩
  | dk bC=>obtain⟨xs,a,b⟩:=h2;exact⟨xs,a,by rw[e1];exact b⟩
  | _=>exact h2.elim
 rn:=fun⟨c,gs,h1,h2,h3⟩=>by
  refine⟨?_,_,h3,fun _ z=>nomatch z⟩;cases c with
  | lst aI=>obtain⟨xs,a,b⟩:=h2;exact⟨_,b,fun _ z=>nomatch z⟩
  | dk bC=>obtain⟨xs,a,b⟩:=h2;exact⟨_,b,fun _ z=>nomatch z⟩
  | _=>exact h2.elim
theorem EE{v:V}:∀{dv:DV},ED dv=some v->dG C F dv v
 | .im (.int i),e=>by cases e;exact rfl
 | .pt p,e=>by cases e;exact rfl
 | .im .none,e=>by cases e
 | .im (.bool _),e=>by cases e
 | .im (.str _),e=>by cases e
 | .im (.list _),e=>by cases e
 | .im (.tuple _),e=>by cases e
 | .im (.dict _),e=>by cases e
 | .cst _,e=>by cases e
 | .rf _,e=>by cases e
 | .ty _,e=>by cases e
 | .uP _,e=>by cases e
 | .raw _,e=>by cases e
 | .iO _,e=>by cases e
 | .tp _,e=>by cases e
theorem ml:∀{aI:List DV} {xs:List V},iq aI=some xs->aD C F aI xs
 | [],_,e=>by cases e;exact rfl
 | d::r,xs,e=>by
  unfold iq at e;cases q:ED d with
  | none=>rw[q]at e;cases e
  | some v =>
   rw[q]at e;cases q2:iq r with
   | none=>simp[q2]at e
   | some vs=>simp[q2]at e;subst e;exact⟨v,vs,rfl,EE q,ml q2⟩
theorem jW:∀{aI:List DV} {xs ys:List V},iq aI=some xs->aD C F aI ys->ys=xs
 | [],_,_,e,h=>by cases e;exact h
 | d::r,xs,ys,e,⟨y,zs,e1,h,hr⟩=>by
  unfold iq at e;cases q:ED d with
  | none=>rw[q]at e;cases e
  | some v =>
   rw[q]at e;cases q2:iq r with
   | none=>simp[q2]at e
   | some vs =>
    simp[q2]at e;subst e;rw[e1,jW q2 hr];have:y=v:=by
     cases d with
     | im dd=>cases dd with
      | int i=>cases q;exact h
      | _=>cases q
     | pt p=>cases q;exact h
     | _=>cases q
    rw[this]
def Bd:Cell->Bool
 | .lst aI=>(iq aI).isSome
 | .dk bC=>(iq (bC.map (·.2))).isSome
 | _=>false
abbrev eZ(gs:wn):List DV:=gs.map fun z=>.im (.int z)
theorem Be{κ:Type}:∀{l:List (κ×V)} {ks:List κ} {xs:List V},l.map (·.1)=ks->l.map (·.2)=xs->l=ks.zip xs
 | [],_,_,e1,e2=>by subst e1 e2;rfl
 | (k,v)::r,_,_,e1,e2=>by subst e1 e2;rw[aaQ,aaQ,List.zip_cons_cons,<- Be rfl rfl]
section
variable {Q:VK}
theorem cb.raw(h:cb C W H t c)(hr:Bd c=true):xh H t c:=by
 cases c with
 | lst aI =>
  obtain⟨xs,e,v⟩:=h;obtain⟨ys,hy⟩:=aa9.mp hr;rw[jW hy v]at e;exact⟨ys,hy,e⟩
 | dk bC =>
  obtain⟨ks,e,hk,v⟩:=h;obtain⟨ys,hy⟩:=aa9.mp hr;refine⟨ys,hy,?_⟩;rw[e,Be hk (jW hy v)]
 | _=>cases hr
theorem xh.cell(h:xh H t c):cb C W H t c:=by
 cases c with
 | lst aI=>obtain⟨xs,e1,e2⟩:=h;exact⟨xs,e2,ml e1⟩
 | dk bC =>
  obtain⟨xs,e1,e2⟩:=h;have v:aD C (Fz C W H) (bC.map (·.2)) xs:=ml e1;have hl:(bC.map (·.1)).length=xs.length:=by rw[<- v.length,aab,aab]
  refine⟨_,e2,?_,?_⟩
  ·rw[List.map_fst_zip];omega
  ·rw[List.map_snd_zip];exact v;omega
 | _=>exact h.elim
theorem oC{gs:wn}(h:aD C F (eZ gs) xs):xs=gs.map V.int:=by
 induction gs generalizing xs with
 | nil=>cases h;rfl
 | cons g r ih =>
  obtain⟨y,ys,e,h1,h2⟩:=h;rw[e,show y=.int g from h1,ih h2];rfl
theorem DR.JE(D:DR C σ H ρ W)(s:aJ H H')(ht:H t=none)(hg:H g=none)(gt:g≠t)(r:C.Rs H' t g 0)(nt:∀ a,¬ de (W a)):DR C σ H' ρ (aG (aG W g .part) t (.aM g 0))/\aJ (Fz C W H) (Fz C (aG (aG W g .part) t (.aM g 0)) H'):=by
 refine D.step (fun a z=>?_) (fun a u e _=>s a u e) (pI s) fun s' q c' e=>?_
 ·by_cases h1:a=t
  ·exact .inr (by rw[h1];exact ht)
  by_cases h2:a=g
  ·exact .inr (by rw[h2];exact hg)
  rw[aA h1,aA h2]at z;exact .inl z
 ·have uq:∀ t' g' n',aG (aG W g .part) t (.aM g 0) t'=some (.aM g' n')->t'=t:=fun t' g' n' z=>by
   by_cases h1:t'=t
   ·exact h1
   rw[aA h1]at z
   by_cases h2:t'=g
   ·rw[h2,ar]at z;cases z
   ·rw[aA h2]at z;exact absurd (by rw[z];trivial) (nt t')
  by_cases h1:q=t
  ·subst h1;rw[ar]at e;cases e;exact⟨.inl (D.Jh ht),D.nO ht,r,by rw[aA gt];exact ar,uq⟩
  rw[aA h1]at e
  by_cases h2:q=g
  ·subst h2;rw[ar]at e;cases e;exact⟨.inl (D.Jh hg),D.nO hg,(D.ok.rn r).2⟩
  rw[aA h2]at e;obtain⟨g1,g2,g3⟩:=D.ce q c' e;refine⟨g1,g2,?_⟩;have hq:=fT s (D.there e);cases c' with
  | aM a b=>exact absurd (by rw[e];trivial) (nt q)
  | part=>exact absurd (by rw[e];trivial) (nt q)
  | lst ds=>obtain⟨xs,z,rr⟩:=g3;exact⟨xs,by rw[hq];exact z,rr.mono s'⟩
  | dk ds=>obtain⟨xs,z,kk,rr⟩:=g3;exact⟨xs,by rw[hq];exact z,kk,rr.mono s'⟩
  | dt ds=>obtain⟨xs,z,kk,rr⟩:=g3;exact⟨xs,by rw[hq];exact z,kk,rr.mono s'⟩
  | ob _ _ ds=>obtain⟨xs,z,kk,rr⟩:=g3;exact⟨xs,by rw[hq];exact z,kk,rr.mono s'⟩
def EF(K:zn)(Rs:Hp->Addr->Addr->Nat->Prop):Sp:=fun vs H Q _=>∃(a:Addr) (ns:wn),vs=[.ref a]/\eQ K H a (ns.map V.int)/\ns.length<=63/\∀(t g:Addr) (H':Hp),aJ H H'->H t=none->H g=none->g≠t->Rs H' t g 0->Q (.ref t) H'
def WL:List DV->Wd->DK->Prop:=fun as W Q=>∃ ns,as=[.iO ns]/\ns.length<=63/\(∀ a,¬ de (W a))/\∀ t g,W t=none->W g=none->g≠t->Q (.pt t) (aG (aG W g .part) t (.aM g 0))
instance {K:zn}[hk:mf C K]{Rs:Hp->Addr->Addr->Nat->Prop}[hs:Jj C Rs]{E:XK}:GS C (EF K Rs) E WL:=by
 obtain⟨rfl⟩:=hk;obtain⟨rfl⟩:=hs;exact⟨fun D h hd k=>by
 obtain⟨ns,rfl,EC,nt,q⟩:=hd;obtain⟨x,rfl,hx⟩:=h.df;obtain⟨a,rfl,ha⟩:=hx;exact⟨a,ns,rfl,Fz.sm.seq ha,EC,fun t g H' s ht hg gt r=>k.to (dv:=.pt t) (D.JE s ht hg gt r nt) rfl (q t g (D.fresh ht) (D.fresh hg) gt)⟩⟩
end
def WM(Iv:Addr->Nat->Cell->wn->Prop):fX:=⟨fun _ _=>False,fun dv W=>∃ t g c gs,dv=.pt t/\W t=some c/\W g=some (.lst (eZ gs))/\g≠t/\Iv g 0 c gs/\Bd c=true,fun _ _=>False,fun _ _=>False⟩
def WN(Iv:Addr->Nat->Cell->wn->Prop)(a g:Addr)(R:Res->Nat->Prop):fX:=⟨fun _ _=>False,fun dv W=>∃ n c gs i,dv=.im (.int i)/\W a=some c/\W g=some (.lst (eZ gs))/\Iv g n c gs/\Bd c=true/\R (.im (.int i)) n,fun _ _=>False,fun _ _=>False⟩
def WO(a g:Addr)(c:Cell)(gs:wn):Wd:=aG (aG W0 g (.lst (eZ gs))) a c
section
variable {K:zn}{p:Str}{Iv:Addr->Nat->Cell->wn->Prop}{Sd:si}
theorem cA.Rn(F:cA K x qual st f fd)(S:ay N [p] (defScope st))(cY:∀(bq:Value) (A:t0) (outer:List Env) (s:Shared) (H:Hp) (E:XK),cB k (A.deeper (envOfC qual (defScope st) s.heap.objs.size f bq)) ->
   ∃ t,rV (fj cI P w K mg base N qual (defScope st) f bq A outer s H E).zq (defBody st) t/\∃ d,LS ⟨K,jV,H,uW,uW,E,fun _=>False⟩ t d/\∀ ns,ns.length<=63->d (WM Iv) (cf N [.iO ns]) W0):aW P w K mg base cI (k+1) f fd [p] (EF K (cJ Iv)) :=
 F.K8 S (fun vs H Q E ⟨a,ns,e,_⟩=>by rw[e];rfl) fun bq A outer s H vs Q E hr h=>by
  obtain⟨a,ns,rfl,hS,EC,q⟩:=h;obtain⟨t,h1,d,hd,hb⟩:=cY bq A outer s H E hr;refine⟨t,h1,hd.go (oB ⟨fun z=>z.elim,fun z=>z.elim⟩ hS) (hb ns EC) ⟨fun bp H' bP W' D' s q=>q.elim,fun bp H' bP W' D' s q=>q.elim,fun bp H' bP W' D' s q=>q.elim,fun x dv bp H' bP W' D' s v e=>?_⟩⟩;obtain⟨t,g,c,gs,rfl,e1,e2,gt,hI,hr⟩:=e;cases (show x=.ref t from v);obtain⟨z1,_,c1⟩:=D'.ce t c e1;obtain⟨z2,_,xs,c2,c3⟩:=D'.ce g _ e2;rw[oC c3]at c2;exact q t g H' (fun a o e=>D'.fr a o e (fun z=>z)) (z1.elim id fun z=>z.elim) (z2.elim id fun z=>z.elim) gt ⟨c,gs,hI,c1.raw hr,c2⟩
theorem cA.WQ(F:cA K x qual st f fd)(S:ay N ps (defScope st)){m:Nat}(hm:ps.length=m+1)(hlen:∀ n ds R,Sd n ds R->ds.length=m)(cY:∀(bq:Value) (A:t0) (outer:List Env) (s:Shared) (H:Hp) (E:XK),cB k (A.deeper (envOfC qual (defScope st) s.heap.objs.size f bq)) ->
   ∃ t,rV (fj cI P w K mg base N qual (defScope st) f bq A outer s H E).zq (defBody st) t/\∀ a g O,∃ d,LS ⟨K,jV,H,fun z=>z=a\/z=g,O,E,fun _=>False⟩ t d/\∀ n ds R c gs,g≠a->Iv g n c gs->Sd n ds R->d (WN Iv a g R) (cf N (.pt a::ds.map .im)) (WO a g c gs)):aW P w K mg base cI (k+1) f fd ps (spT (cJ Iv) Sd) :=
 F.K8 S (xg hm hlen) fun bq A outer s H vs Q E hr h=>by
  obtain⟨t,h1,hb⟩:=cY bq A outer s H E hr;refine⟨t,h1,?_⟩;obtain⟨a,g,n,yx,O,ds,R,rfl,⟨c,gs,hI,hc,hg⟩,gt,hO,nt,ng,hr,hS,hR⟩:=h;obtain⟨d,hd,hb⟩:=hb a g O;have Wg:WO a g c gs g=some (.lst (eZ gs)):=by unfold WO;rw[aA gt];exact ar
  have Wa:WO a g c gs a=some c:=ar;have Wz:∀ z c',WO a g c gs z=some c'->z=a\/z=g:=fun z c' e=>by
   unfold WO at e
   by_cases h1:z=a
   ·exact .inl h1
   ·rw[aA h1]at e
    by_cases h2:z=g
    ·exact .inr h2
    ·rw[aA h2]at e;cases e
  have ok:=ei (Iv:=Iv);have uX:cJ Iv H a g n:=⟨c,gs,hI,hc,hg⟩;have fz:∀ H1,aJ (hide (fun z=>O z\/z=a\/z=g) H1) (Fz ⟨K,jV,H,fun z=>z=a\/z=g,O,E,fun _=>False⟩ (WO a g c gs) H1):=fun H1 b o e=>by
   obtain⟨h1,h2⟩:=av.mp e;refine av.mpr ⟨fun z=>h1 ?_,h2⟩;rcases z with z | z
   ·exact .inl z
   ·cases q:WO a g c gs b with
    | none=>rw[q]at z;cases z
    | some c'=>exact .inr (Wz b c' q)
  have D:DR ⟨K,jV,H,fun z=>z=a\/z=g,O,E,fun _=>False⟩ (start N (.ref a::yx)) H (cf N (.pt a::ds.map .im)) (WO a g c gs):=by
   refine⟨⟨fun z=>z.elim,fun z=>z.elim,fun c hc=>hc.elim⟩,fun b o e _=>e,hO,fun b z=>?_,?_,fun p c' e=>?_⟩
   ·rcases z with z | z
    ·rw[z];exact(ok.rn uX).1.ne
    ·rw[z];exact(ok.rn uX).2.ne
   ·have va:aD ⟨K,jV,H,fun z=>z=a\/z=g,O,E,fun _=>False⟩ (Fz ⟨K,jV,H,fun z=>z=a\/z=g,O,E,fun _=>False⟩ (WO a g c gs) H) (.pt a::ds.map .im) (.ref a::yx):=⟨_,_,rfl,rfl,(aD.fu hr).mono (fz H)⟩;unfold start cf;rw[va.length];exact Slots.start _ va
   ·rcases Wz p c' e with z | z
    ·subst z;rw[Wa]at e;cases e;exact⟨.inr (.inl rfl),nt,hc.cell⟩
    ·subst z;rw[Wg]at e;cases e;exact⟨.inr (.inr rfl),ng,_,hg,ij gs⟩
  refine hd.go D (hb n ds R c gs gt hI hS) ⟨fun bp H' bP W' D' s q=>q.elim,fun bp H' bP W' D' s q=>q.elim,fun bp H' bP W' D' s q=>q.elim,fun x dv bp H' bP W' D' s v q=>?_⟩;obtain⟨n',c',Dc,i,rfl,e1,e2,JF,WR,q⟩:=q;obtain⟨_,_,c1⟩:=D'.ce a c' e1;obtain⟨_,_,xs,c2,c3⟩:=D'.ce g _ e2;rw[oC c3]at c2;cases (show x=.int i from v);exact hR (.im (.int i)) n' _ H' q (fun b o e h1 h2=>D'.fr b o e (fun z=>z.elim h1 h2)) ⟨c',Dc,JF,c1.raw WR,c2⟩ rfl
end
def Fr(t:Addr)(W W':Wd):Prop:=∀ a,a≠t->W' a=W a
theorem Fr.at(h:Fr t W W')(hp:p≠t)(e:W p=some c):W' p=some c:=by rw[h p hp];exact e
section
variable {rt:DK}{a:ju}{De:fX}{db dc:cq}{g:pP}{c d:md}{i j:Nat}{u:DV}{f:pK}{B:Bool->Wd->Prop}{as:kx}{R:List DV->Wd->Prop}{gs:pQ}{n:Int}{D:PyData}
theorem ao(h:a ⟨b ⟨nx,rt,bk,ct⟩,rt,bk,ct⟩ ρ W):cm a b ⟨nx,rt,bk,ct⟩ ρ W:=h
theorem JG(h:nx ρ W):GP ⟨nx,rt,bk,ct⟩ ρ W:=h
theorem Nj(h:da ρ W rt):MZ da ⟨nx,rt,bk,ct⟩ ρ W:=h
theorem JH(h:da ρ W fun _ W1=>nx ρ W1):w6 da ⟨nx,rt,bk,ct⟩ ρ W:=h
theorem Nk(h:da ρ W fun v W1=>g v ρ W1 nx):Ey da g ⟨nx,rt,bk,ct⟩ ρ W:=h
theorem Nl(h:c ρ W fun k W1=>if k=true then a De ρ W1 else b De ρ W1):Na c a b De ρ W:=h
theorem JI{r:ju}(h:Ey da g ⟨r ⟨nx,rt,bk,ct⟩,rt,bk,ct⟩ ρ W):cm (Ey da g) r ⟨nx,rt,bk,ct⟩ ρ W:=h
theorem JJ{r:ju}(h:w6 da ⟨r ⟨nx,rt,bk,ct⟩,rt,bk,ct⟩ ρ W):cm (w6 da) r ⟨nx,rt,bk,ct⟩ ρ W:=h
theorem x_raise{P:Prop}(h:as ρ W fun vs _=>vs.length<=sizeLine/\P):A6 P as De ρ W:=h
theorem iy(N:bD->Wd->Prop)(h1:∀ k:bD->Wd->Prop,(∀ ρ W,N ρ W->k ρ W)->a ⟨k,rt,bk,ct⟩ ρ W)(h2:∀ ρ W,N ρ W->b ⟨nx,rt,bk,ct⟩ ρ W):cm a b ⟨nx,rt,bk,ct⟩ ρ W:=h1 _ h2
theorem Nm{w:C9}(h:w ρ W fun it W1=>oz it g b ⟨nx,rt,bk,ct⟩ ρ W1):Nb w g b ⟨nx,rt,bk,ct⟩ ρ W:=h
theorem EG(Pv:Nat->bD->Wd->Prop)(m:Nat)(h0:Pv m ρ W)(hs:∀ m ρ W,Pv m ρ W->c ρ W fun k W1=>if k=true then b ⟨fun bP W'=>∃ m',m' < m/\Pv m' bP W',rt,nx,fun bP W'=>∃ m',m' < m/\Pv m' bP W'⟩ ρ W1 else nx ρ W1):A7 c b ⟨nx,rt,bk,ct⟩ ρ W:=⟨Pv,⟨m,h0⟩,hs⟩
theorem Ro(h:Qs (ρ.set i (some v)) W):UA i v ρ W Qs:=h
theorem Rp(h:Qs ρ W):Rf [] ρ W Qs:=⟨rfl,h⟩
theorem Rq{r:List DV}(h:g v ρ W fun bP W'=>gs r bP W' Qs):Rg g gs (v::r) ρ W Qs:=⟨v,r,rfl,h⟩
theorem Rr{o e:cq}(h:o ρ W fun a W1=>e ρ W1 fun b W2=>se a b v W2 (Qs ρ)):UB o e v ρ W Qs:=h
theorem Np(e:ρ[i]?=some (some v))(h:Q v W):ML i ρ W Q:=⟨v,e,h⟩
theorem WS(h:Q v W):dC v ρ W Q:=h
theorem Rt(h:da ρ W fun v W1=>db ρ W1 fun u W2=>f v u W2 Q):Uq f da db ρ W Q:=h
theorem Ru{k:DV->Wd->DK->Prop}(h:da ρ W fun v W1=>k v W1 Q):Ur k da ρ W Q:=h
theorem Rv(h:da ρ W fun v W1=>∃ b,v=.im (.bool b)/\B b W1):Q6 da ρ W B:=h
theorem Rx{k:Bool}{P:Bool->Prop}(h:P k):∃ k',DV.im (.bool k)=.im (.bool k')/\P k':=⟨k,rfl,h⟩
theorem Nq(h:c ρ W fun k W1=>if k=true then d ρ W1 B else B false W1):MM c d ρ W B:=h
theorem Ry(h:c ρ W fun k W1=>if k=true then B true W1 else d ρ W1 B):Us c d ρ W B:=h
theorem Nr(h:c ρ W fun k W1=>B (!k) W1):MN c ρ W B:=h
theorem JK(h:da ρ W fun v W1=>∃ c,v=.im (.bool c)/\if c=true then db ρ W1 Q else Q (.im (.bool false)) W1):GI da db ρ W Q:=h
theorem Nt(h:da ρ W fun v W1=>∃ c,v=.im (.bool c)/\if c=true then Q (.im (.bool true)) W1 else db ρ W1 Q):MO da db ρ W Q:=h
theorem JL(h:da ρ W fun v W1=>∃ c,v=.im (.bool c)/\Q (.im (.bool (!c))) W1):GJ da ρ W Q:=h
theorem Rz(h:c ρ W fun k W1=>if k=true then da ρ W1 Q else db ρ W1 Q):Ut c da db ρ W Q:=h
theorem Nu(h:da ρ W fun v W1=>Q (.im (.bool (isNone v))) W1):MP da ρ W Q:=h
theorem JM(h:da ρ W fun v W1=>Q (.im (.bool (!isNone v))) W1):GK da ρ W Q:=h
theorem EH{f':pK}(h:da ρ W fun x W1=>db ρ W1 fun y W2=>f x y W2 fun z W3=>∃ k,z=.im (.bool k)/\if k=true then dc ρ W3 fun w W4=>f' y w W4 Q else Q (.im (.bool false)) W3):AZ f f' da db dc ρ W Q:=h
theorem Nv(h:R [] W):MQ ρ W R:=h
theorem JN(h:da ρ W fun v W1=>as ρ W1 fun vs W2=>R (v::vs) W2):GL da as ρ W R:=h
theorem RA{ks:List V}(h:ks.all cU=true/\R (ks.map MR) W):Uu ks ρ W R:=h
theorem Nw(h:as ρ W fun vs W1=>wR vs W1 Q):MS as ρ W Q:=h
theorem Ny(h:as ρ W fun vs W1=>wU vs W1 Q):MT as ρ W Q:=h
theorem RB{k:List DV->Wd->DK->Prop}(h:as ρ W fun vs W1=>k vs W1 Q):Q9 k as ρ W Q:=h
theorem RC{k:DV->List DV->Wd->DK->Prop}(h:da ρ W fun v W1=>yz T v W1/\as ρ W1 fun vs W2=>k v vs W2 Q):Ux T k da as ρ W Q:=h
theorem RD{k:DV->ul->ul->Wd->DK->Prop}{l t:Ji}(h:da ρ W fun v W1=>l ρ W1 fun lo W2=>t ρ W2 fun hi W3=>k v lo hi W3 Q):Uy k da l t ρ W Q:=h
theorem Bf{Qo:ul->Wd->Prop}(h:Qo none W):wZ ρ W Qo:=h
theorem JO{Qo:ul->Wd->Prop}(h:da ρ W fun v W1=>∃ i,v=.im (.int i)/\Qo (some i) W1):GO da ρ W Qo:=h
theorem RE{P:Int->Prop}(h:P n):∃ i,DV.im (.int n)=.im (.int i)/\P i:=⟨n,rfl,h⟩
theorem JP{w:C9}{e:cq}{ix:List (Option Nat)}(h:w ρ W fun it W1=>sf it g c e (yu ix ρ) W1 Q):GQ w g c e ix ρ W Q:=h
theorem Nz(h:B true W):Nc ρ W B:=h
theorem RF{h':Int->Int->PyData}(h:Q (.im (h' m n)) W):Uv h' (.im (.int m)) (.im (.int n)) W Q:=⟨m,n,rfl,rfl,h⟩
theorem UG{P:Int->Int->Prop}{h':Int->Int->PyData}(hp:P m n)(h:Q (.im (h' m n)) W):dI P h' (.im (.int m)) (.im (.int n)) W Q:=⟨m,n,rfl,rfl,hp,h⟩
theorem WU{h':Int->PyData}(h:Q (.im (h' m)) W):dU h' (.im (.int m)) W Q:=⟨m,rfl,h⟩
theorem pT{i j:Int}:PyData.eqv (.int i) (.int j)=decide (i=j):=by show(i == j)=_;by_cases e:i=j<;>simp[e]
theorem jw{i j:Str}:PyData.eqv (.str i) (.str j)=decide (i=j):=by show(i == j)=_;by_cases e:i=j<;>simp[e]
theorem NA(h:Q (.im (.bool (decide (m=n)))) W):A2 (.im (.int m)) (.im (.int n)) W Q:=⟨_,_,rfl,rfl,.inr ⟨rfl,rfl,by show min 0 0<=64;decide⟩,by rw[pT];exact h⟩
theorem NB(h:Q (.im (.bool (!decide (m=n)))) W):A3 (.im (.int m)) (.im (.int n)) W Q:=⟨_,_,rfl,rfl,.inr ⟨rfl,rfl,by show min 0 0<=64;decide⟩,by rw[pT];exact h⟩
theorem NC{s t:Str}(h:Q (.im (.bool (decide (s=t)))) W):A2 (.im (.str s)) (.im (.str t)) W Q:=⟨_,_,rfl,rfl,.inl ⟨s,t,rfl,rfl⟩,by rw[jw];exact h⟩
theorem ND{s t:Str}(h:Q (.im (.bool (!decide (s=t)))) W):A3 (.im (.str s)) (.im (.str t)) W Q:=⟨_,_,rfl,rfl,.inl ⟨s,t,rfl,rfl⟩,by rw[jw];exact h⟩
theorem NF{d1 d2:PyData}(e1:dat 4 W v=some d1)(e2:dat 4 W u=some d2)(ok:Jr d1 d2)(h:Q (.im (.bool (!PyData.eqv d1 d2))) W):A3 v u W Q:=⟨d1,d2,e1,e2,ok,h⟩
theorem NG{d1:PyData}(e1:dat 4 W v=some d1)(e2:dat 4 W u=some d1)(c:d1.canLay0=true)(hd:d1.depth<=64)(h:Q (.im (.bool true)) W):A2 v u W Q:=⟨d1,d1,e1,e2,.inr ⟨c,c,by rw[Nat.min_self];exact hd⟩,by rw[PySem.SeqAt.eqv_refl d1 c];exact h⟩
theorem pU{α β:Type}{xs:List α}{f:α->β}{i:Int}{x:α}(h:gX xs i=some x):gX (xs.map f) i=some (f x):=by
 unfold gX at h ⊢;rw[aab];cases q:uA xs.length i with
 | none=>rw[q]at h;cases h
 | some j=>rw[q]at h;show(xs.map f)[j]?=_;rw[aag,show xs[j]?=some x from h];rfl
theorem bT(e:gX ds n=some D)(h:Q (.im D) W):Jt (.im (.tuple ds)) (.im (.int n)) W Q:=⟨n,.im D,rfl,pU e,h⟩
theorem cV(e:gX ds n=some D)(h:Q (.im D) W):Jt (.im (.list ds)) (.im (.int n)) W Q:=⟨n,.im D,rfl,pU e,h⟩
theorem pV(e:W p=some (.lst vs)):dH W (.pt p)=some vs:=by simp[dH,e]
theorem xi(e:W p=some (.lst vs)):gy W (.pt p)=some vs:=by unfold gy;rw[pV e]
theorem dM(e:W p=some (.lst vs))(e2:gX vs n=some v)(h:Q v W):Jt (.pt p) (.im (.int n)) W Q:=⟨n,v,rfl,by
 show(gy W (.pt p)).bind _=_
 rw[xi e]
 exact e2,h⟩
theorem JQ(h:Q (.im (.int ds.length)) W):Eu [.im (.list ds)] W Q:=⟨_,_,rfl,rfl,by rw[aab];exact h⟩
theorem JR(h:Q (.im (.int ds.length)) W):Eu [.im (.tuple ds)] W Q:=⟨_,_,rfl,rfl,by rw[aab];exact h⟩
theorem JS(e:W p=some (.lst vs))(h:Q (.im (.int vs.length)) W):Eu [.pt p] W Q:=⟨_,vs,rfl,xi e,h⟩
theorem NH(e:W p=some (.lst vs)):yz "list" (.pt p) W:=.inl ⟨rfl,vs,pV e⟩
theorem sk(e:W p=some (.lst vs))(hl:vs.length < sizeLine)(h:Q (.im .none) (aG W p (.lst (vs++[v])))):pO (.pt p) [v] W Q:=⟨p,vs,v,rfl,rfl,e,hl,h⟩
theorem aw(hl:ds.length<=sizeLine)(h:Q (.im (.tuple ds)) W):wR (ds.map .im) W Q:=⟨by rw[aab];exact hl,.inl ⟨ds,W,fU (fun _ _=>rfl) ds,h⟩⟩
theorem ky(h:∀ p W',W p=none->W' p=some (.lst vs)->Fr p W W'->Q (.pt p) W'):iU vs W Q:=.inl fun p hp=>h p _ hp ar fun a ha=>aA ha
theorem iz(h:Q (.im (.list ds)) W):iU (ds.map .im) W Q:=.inr ⟨ds,rfl,h⟩
theorem jX(hl:vs.length<=sizeLine)(h:∀ p W',W p=none->W' p=some (.lst vs)->Fr p W W'->Q (.pt p) W'):wU vs W Q:=⟨hl,ky h⟩
theorem cg(hl:ds.length<=sizeLine)(h:Q (.im (.list ds)) W):wU (ds.map .im) W Q:=⟨by rw[aab];exact hl,iz h⟩
theorem JT(h:as ρ W fun vs W1=>Jx vs W1 B'):GR as ρ W B':=h
theorem RG(h1:-(2 ^ 62)<=m)(h2:m < 2 ^ 62)(h:B' ⟨(List.range m.toNat).map fun i=>.im (.int (0+(i:Nat))),fun _=>True⟩ W):Jx [.im (.int m)] W B':=⟨m,rfl,h1,h2,h⟩
theorem EI(h:da ρ W fun v W1=>A8 v W1 B'):A9 da ρ W B':=h
theorem NI(h:B' ⟨ds.map .im,fun _=>True⟩ W):A8 (.im (.list ds)) W B':=.inl ⟨ds,rfl,h⟩
theorem sq(e:W p=some (.lst vs))(h:B' ⟨vs,fun W'=>W' p=some (.lst vs)⟩ W):A8 (.pt p) W B':=.inr (.inl ⟨p,vs,rfl,e,h⟩)
theorem NJ(h:B' ⟨ns.map fun n=>.im (.int n),fun _=>True⟩ W):A8 (.iO ns) W B':=.inr (.inr ⟨ns,rfl,h⟩)
theorem xj{lo:Int}(Pv:Nat->bD->Wd->Prop)(h0:Pv 0 ρ W)(hs:∀ i ρ W,i < k->Pv i ρ W->g (.im (.int (lo+(i:Nat)))) ρ W fun ip W2=>b ⟨Pv (i+1),rt,nx,Pv (i+1)⟩ ip W2)(hd:∀ ρ W,Pv k ρ W->nx ρ W) :
  oz ⟨(List.range k).map fun i=>.im (.int (lo+(i:Nat))),fun _=>True⟩ g b ⟨nx,rt,bk,ct⟩ ρ W:=by
 refine⟨Pv,h0,fun _ _ _ _=>trivial,fun i v ρ W e p=>?_,fun ρ W p=>hd ρ W (by simpa using p)⟩
 by_cases hi:i < k
 ·have e:((List.range k).map fun i=>DV.im (.int (lo+(i:Nat))))[i]?=some v:=e;simp[hi]at e;subst e;exact hs i ρ W hi p
 ·have e:((List.range k).map fun i=>DV.im (.int (lo+(i:Nat))))[i]?=some v:=e;simp[hi]at e
theorem EJ(Pv:Nat->bD->Wd->Prop)(h0:Pv 0 ρ W)(hs:∀ i d ρ W,ds[i]?=some d->Pv i ρ W->g (.im d) ρ W fun ip W2=>b ⟨Pv (i+1),rt,nx,Pv (i+1)⟩ ip W2)(hd:∀ ρ W,Pv ds.length ρ W->nx ρ W) :
  oz ⟨ds.map .im,fun _=>True⟩ g b ⟨nx,rt,bk,ct⟩ ρ W:=by
 refine⟨Pv,h0,fun _ _ _ _=>trivial,fun i v ρ W e p=>?_,fun ρ W p=>hd ρ W (by simpa using p)⟩;rw[aag]at e;cases q:ds[i]? with
 | none=>rw[q]at e;cases e
 | some d=>rw[q]at e;cases e;exact hs i d ρ W q p
theorem lr{lo:Int}{e:cq}(Pv:Nat->List DV->Wd->Prop)(hk:k<=sizeLine)(h0:Pv 0 [] W)(hs:∀ i ys W,i < k->ys.length<=i->Pv i ys W->g (.im (.int (lo+(i:Nat)))) ρ W fun ip W2=>c ip W2 fun b W3=>if b=true then e ip W3 fun y W4=>Pv (i+1) (ys++[y]) W4 else Pv (i+1) ys W3)(hd:∀ ys W,Pv k ys W->iU ys W Q) :
  sf ⟨(List.range k).map fun i=>.im (.int (lo+(i:Nat))),fun _=>True⟩ g c e ρ W Q:=by
 refine⟨by simpa using hk,Pv,h0,fun _ _ _ _=>trivial,fun i v ys W e hl p=>?_,fun ys W q=>hd ys W (by simpa using q)⟩
 by_cases hi:i < k
 ·simp[hi]at e;subst e;exact hs i ys W hi hl p
 ·simp[hi]at e
theorem xk{e:cq}(Pv:Nat->List DV->Wd->Prop)(hk:ds.length<=sizeLine)(h0:Pv 0 [] W)(hs:∀ i d ys W,ds[i]?=some d->ys.length<=i->Pv i ys W->g (.im d) ρ W fun ip W2=>c ip W2 fun b W3=>if b=true then e ip W3 fun y W4=>Pv (i+1) (ys++[y]) W4 else Pv (i+1) ys W3)(hd:∀ ys W,Pv ds.length ys W->iU ys W Q) :
  sf ⟨ds.map .im,fun _=>True⟩ g c e ρ W Q:=by
 refine⟨by simpa using hk,Pv,h0,fun _ _ _ _=>trivial,fun i v ys W e hl p=>?_,fun ys W q=>hd ys W (by simpa using q)⟩;rw[aag]at e;cases q:ds[i]? with
 | none=>rw[q]at e;cases e
 | some d=>rw[q]at e;cases e;exact hs i d ys W q hl p
theorem pW{S:jv}{X:Addr->Prop}(e:eJ (dat 4 W) vs=some ds)(h:S ds (fun r=>Pq r=true/\i6 W Q r) X):sg S X vs W Q:=.inl ⟨ds,e,h⟩
theorem aV{S:jv}{X:Addr->Prop}(h:S ds (i6 W Q) X):sg S X (ds.map .im) W Q:=.inr ⟨ds,W,fU (fun _ _=>rfl) ds,h⟩
end
def UH(K:zn)(a:Addr)(xs:List V)(_:∀ H,eY K H a xs):TE:=tC (.ref a)
theorem NK{K:zn}(hm:X.mg x=some (.ref a))(hx:∀ H,eY K H a xs)(hg:Gl X x:=by rfl)(hd:(x == ("__debug__":Str))=false:=by decide):SE X (.Name x pos) (UH K a xs hx):=Mt hm hg hd
def UI(xs:List V):cq:=fun _ W Q=>Q (.cst xs) W
instance {C:DC}{K:zn}[hk:mf C K]{a:Addr}{xs:List V}{hx:∀ H,eY K H a xs}:LE C (UH K a xs hx) (UI xs):=by
 obtain⟨rfl⟩:=hk;exact⟨fun D h k=>k.now (dv:=.cst xs) D ⟨a,rfl,hx⟩ h⟩
theorem RH(h:Q (.cst xs) W):UI xs ρ W Q:=h
def NL(a:cq):cq:=fun ρ W Q=>a ρ W fun v W1=>∃ d,dat 4 W1 v=some d/\d.canLay0=true/\Q (.im (.bool (!PyData.eqv d (.list [])))) W1
def NM(a:cq):cq:=fun ρ W Q=>a ρ W fun v W1=>∃ d,dat 4 W1 v=some d/\d.canLay0=true/\Q (.im (.bool (PyData.eqv d (.list [])))) W1
theorem min1(n:Nat):min n (PyData.depth (.list []))<=64:=aam (ac3 _ _) (by decide)
instance (priority:=2000){C:DC}{ta:TE}{da:cq}[ia:LE C ta da]:LE C (xZ Jp ta (Ah o6)) (NL da):=⟨fun D h k=>ia.go D h fun x dv H1 W1 D1 s1 v1 ⟨d,e,c,q⟩=>⟨aaJ _,fun p hp=>by
 obtain⟨D2,s2,e2⟩:=D1.AX hp (.lst []);exact .inr ⟨d,.list [],(D1.pJ v1 e).same (aJ.new hp _),⟨p,[],rfl,cK,rfl⟩,c,rfl,min1 _,k _ (.im (.bool _)) _ _ D2 (s1.trans s2) rfl q⟩⟩⟩
instance (priority:=2000){C:DC}{ta:TE}{da:cq}[ia:LE C ta da]:LE C (xZ Jo ta (Ah o6)) (NM da):=⟨fun D h k=>ia.go D h fun x dv H1 W1 D1 s1 v1 ⟨d,e,c,q⟩=>⟨aaJ _,fun p hp=>by
 obtain⟨D2,s2,e2⟩:=D1.AX hp (.lst []);exact .inr ⟨d,.list [],(D1.pJ v1 e).same (aJ.new hp _),⟨p,[],rfl,cK,rfl⟩,c,rfl,min1 _,k _ (.im (.bool _)) _ _ D2 (s1.trans s2) rfl q⟩⟩⟩
theorem NN{a:cq}(h:a ρ W fun v W1=>∃ d,dat 4 W1 v=some d/\d.canLay0=true/\Q (.im (.bool (!PyData.eqv d (.list [])))) W1):NL a ρ W Q:=h
theorem NO{a:cq}(h:a ρ W fun v W1=>∃ d,dat 4 W1 v=some d/\d.canLay0=true/\Q (.im (.bool (PyData.eqv d (.list [])))) W1):NM a ρ W Q:=h
section
variable {rt:DK}{g:pP}{c:md}{es:wP}{as:kx}{u:DV}
theorem EK(Pv:Nat->bD->Wd->Prop)(h0:Pv 0 ρ W)(hs:∀ i z ρ W,ns[i]?=some z->Pv i ρ W->g (.im (.int z)) ρ W fun ip W2=>b ⟨Pv (i+1),rt,nx,Pv (i+1)⟩ ip W2)(hd:∀ ρ W,Pv ns.length ρ W->nx ρ W) :
  oz ⟨ns.map fun n=>.im (.int n),fun _=>True⟩ g b ⟨nx,rt,bk,ct⟩ ρ W:=by
 refine⟨Pv,h0,fun _ _ _ _=>trivial,fun i v ρ W e p=>?_,fun ρ W p=>hd ρ W (by simpa using p)⟩;rw[aag]at e;cases q:ns[i]? with
 | none=>rw[q]at e;cases e
 | some d=>rw[q]at e;cases e;exact hs i d ρ W q p
theorem xl:eJ Jy (ds.map .im)=some ds:=js (fun _=>rfl) ds
theorem GY{k1 k2:SK}(e1:yC k1 W v=some (ds.map .im))(e2:yC k2 W u=some (es.map .im))(h:B' ⟨(ds.zip es).map fun p=>.im (.tuple [p.1,p.2]),fun W'=>uV v (ds.map .im) W'/\uV u (es.map .im) W'⟩ W) :
  Ri k1 k2 [v,u] W B' :=
 ⟨v,u,_,_,ds,es,rfl,e1,e2,xl,xl,h⟩
theorem JU{k1 k2:SK}(h:as ρ W fun vs W1=>Ri k1 k2 vs W1 B'):Nd k1 k2 as ρ W B':=h
theorem xm(Pv:Nat->bD->Wd->Prop)(h0:Pv 0 ρ W)(hk:∀ i ρ W,Pv i ρ W->kp W)(hs:∀ i a d ρ W,ds[i]?=some a->es[i]?=some d->Pv i ρ W->g (.im (.tuple [a,d])) ρ W fun ip W2=>b ⟨Pv (i+1),rt,nx,Pv (i+1)⟩ ip W2)(hd:∀ ρ W,Pv (min ds.length es.length) ρ W->nx ρ W) :
  oz ⟨(ds.zip es).map fun p=>.im (.tuple [p.1,p.2]),kp⟩ g b ⟨nx,rt,bk,ct⟩ ρ W:=by
 refine⟨Pv,h0,hk,fun i v ρ W e p=>?_,fun ρ W p=>hd ρ W (by rw[aab,adg]at p;exact p)⟩;rw[aag]at e;cases q:(ds.zip es)[i]? with
 | none=>rw[q]at e;cases e
 | some ab =>
  rw[q]at e;cases e;obtain⟨h1,h2⟩:=aa3.mp q;exact hs i ab.1 ab.2 ρ W h1 h2 p
theorem NP{n:Int}(h:Q (.im (.int (if n < m then n else m))) W):GN [.im (.int m),.im (.int n)] W Q:=⟨m,n,rfl,h⟩
theorem JV{k:Bool}(h:Q (.im (.int (if k then 1 else 0))) W):A5 [.im (.bool k)] W Q:=.inr ⟨k,rfl,h⟩
theorem NQ(h:Q (.im (.bool (Mr d T))) W):MW T [.im d,.ty T] W Q:=⟨.im d,d,rfl,rfl,h⟩
theorem pX(e:W p=some (.lst (ds.map .im))):dat (n+1) W (.pt p)=some (.list ds):=by
 unfold dat;rw[e];show(eJ (dat n W) (ds.map .im)).map _=_;rw[js (fun d=>by cases n<;>rfl) ds];rfl
theorem RI{Pr:Prop}(e:W p=some (.lst vs))(h:Pr):yz "list" (.pt p) W/\Pr:=⟨NH e,h⟩
theorem mm{gs:wn}(e:W p=some (.lst (eZ gs))):dat (n+1) W (.pt p)=some (.list (gs.map .int)):=pX (ds:=gs.map .int) (by rw[e];simp)
theorem yE{α:Type}{xs:List α}{v:α}:gX (xs++[v]) (-1)=some v:=Ao xs v
theorem uZ{R:Res->Prop}(e:W p=some (.lst (ds.map .im)))(h:R (.nw ds)):EA W R (.pt p):=⟨_,ds,W,e,fU (fun _ _=>rfl) ds,by rw[e];rfl,h⟩
theorem xn(h:iU (ds.map .im) W Q):pM [.im (.list ds)] W Q:=⟨_,_,rfl,rfl,h⟩
theorem xo(h:iU (ds.map .im) W Q):pM [.im (.tuple ds)] W Q:=⟨_,_,rfl,rfl,h⟩
theorem NR{q:Addr}{lo:ul}(e:W q=some (.lst vs))(h:iU (cutD vs lo hi) W Q):MX (.pt q) lo hi W Q:=⟨_,.inl (pV e),h⟩
theorem NS{n:Int}(e1:dH W v=some vs)(h1:-(2 ^ 63)<=n)(h2:n < 2 ^ 63)(hl:vs.length * n.toNat<=sizeLine)(h:iU (List.replicate n.toNat vs).flatten W Q):MU v (.im (.int n)) W Q:=⟨vs,n,e1,rfl,h1,h2,hl,h⟩
theorem JW{S:si}{g:Addr}(e:W t=some (.aM g n))(e2:eJ (dat 4 W) vs=some ds)(h:S n ds fun r n'=>Pq r=true/\i6 (aG W t (.aM g n')) Q r):sj S (.pt t::vs) W Q:=⟨t,g,n,vs,rfl,e,.inl ⟨ds,e2,h⟩⟩
end
section
variable {prog:tz}{A:t0}{E:xz}{s:Shared}
theorem oE{it t:Addr}{items:Array Value}(oh:t≠it):∀(n i:Nat) (s:Shared) (Q:wf->Shared->Prop),s.heap.IsListIter it t i->s.heap.IsList t items->i+n<=items.size ->
  (∀ h',h'.IsListIter it t (i+n)->Heap.SameBut it s.heap h'->Q ((items.toList.drop i).take n) { s with heap:=h' })->wpAny (model prog w) A (draw (.ref it) n) Q E s
 | 0,i,s,Q,hit,_,_,hQ=>by
  show wpAny _ _ (pure []) Q E s;exact aad (by simpa using hQ s.heap hit (Heap.SameBut.refl ..))
 | n+1,i,s,Q,hit,ht,hle,hQ=>by
  have gn:i < items.size:=by omega
  show wpAny _ _ (pyNext (.ref it) >>= _) Q E s;refine aaa (wpAny_pyNext_list_item hit ht (x:=items[i]) (by simp[gn]) fun eF u0 cL=>?_);refine aaa (aa0 (oE oh n (i+1) _ _ u0 (ht.extBut cL.extBut oh) (by omega) fun gC JX eG=>aad ?_));have hd:items.toList.drop i=items[i]::items.toList.drop (i+1):=by simp[acS,gn]
  have:=hQ gC (by rw[show i+(n+1)=i+1+n by omega];exact JX) (cL.trans eG);rw[hd,List.take_succ_cons]at this;exact this
theorem jY{Q:wf->Shared->Prop}(hh:A.handled=none)(ht:s.heap.IsList t items)(hQ:∀ h',Heap.ExtBut s.heap.objs.size s.heap h'->Q items.toList { s with heap:=h' }):wpAny (model prog w) A (unpackItems (.ref t) items.size none) Q E s:=by
 have gn:t≠s.heap.objs.size:=by obtain⟨o,ho,_⟩:=ht;exact aaD (aah ho)
 unfold unpackItems;refine aaa ?_
 ·unfold notIterableAtAll;refine aaa (wpAny_specialOf ht.typeIs F.slot_list_iter.lookup ?_);refine aad ?_;simp only[acn,adh];refine aaa (aa0 (abj ht ?_));refine aaa (aa0 (oE gn items.size 0 _ _ ⟨_,aai _ rfl,rfl,rfl⟩ (ht.push _) (by omega) fun eF u0 cL=>?_));have nL:List.take items.size (List.drop 0 items.toList)=items.toList:=by
   rw[List.drop_zero];exact abW (by simp)
  rw[nL];rw[aao (by simp)];have NT:eF.IsList t items:=(ht.push _).extBut cL.extBut gn;refine aaa (aa0 (wpAny_pyNext_list_end hh u0 NT (by simp) fun gC NU=>?_));simp only[Option.isSome_none,acn,adh];refine aad (hQ gC fun b o hb e=>NU b o hb (cL.extBut b o hb (aac _ e)))
theorem su{targets:List (Bool×(Value->Sem Unit))}{Q:Unit->Shared->Prop}(hh:A.handled=none)(ht:s.heap.IsList t items)(hn:targets.length=items.size)(Bh:targets.findIdx? (·.1)=none)(h:∀ h',Heap.ExtBut s.heap.objs.size s.heap h'->wpAny (model prog w) A (assignInOrder (targets.map (·.2)) items.toList) Q E { s with heap:=h' }) :
  wpAny (model prog w) A (unpack (.ref t) targets) Q E s:=by
 unfold unpack;rw[hn,Bh];exact aaa (aa0 (jY hh ht h))
theorem jx{env:Env}{elts:ut}{x1}{Q:Unit->Shared->Prop}(hh:A.handled=none)(ht:s.heap.IsList t items)(hn:(assignEach elts env).length=items.size)(Bh:(assignEach elts env).findIdx? (·.1)=none)(h:∀ h',Heap.ExtBut s.heap.objs.size s.heap h'->wpAny (model prog w) A (assignInOrder ((assignEach elts env).map (·.2)) items.toList) Q E { s with heap:=h' }) :
  wpAny (model prog w) A (assign (.Tuple elts x1 pos) env (.ref t)) Q E s:=by
 rw[assign_Tuple];exact aaa (ac0 (su hh ht hn Bh h))
end
def GZ(K:zn)(n:Nat)(t:tV):TG:=fun v σ H Q=>∃ a xs,v=.ref a/\eQ K H a xs/\xs.length=n/\t xs σ H Q
theorem EL{t:tV}(hc:X.calm=true)(h:K2 X es t)(hn:(assignEach es X.env).length=n:=by rfl)(nH:(assignEach es X.env).findIdx? (·.1)=none:=by rfl):PG X (.Tuple es k pos) (GZ X.K n t):=by
 intro pins s σ H v u Q I r hw;obtain⟨a,xs,e1,hq,hl,hw⟩:=hw;subst e1;cases r;obtain⟨aL,rv,pl,hz⟩:=I.list hq;refine jx (I.ok.hd hc) pl.isList (by simp[hn,<- hl,rv.length]) nH fun h' hx=>?_;have I1:Inv X pins σ H { s with heap:=h' }:=I.kept (t':=s.toks) fun b o e=>hx b o (aaD (aah e)) e;exact h pins _ σ H xs _ Q I1 (by simpa using rv) hw
def G0(K:zn)(n:Nat)(t:tV):TG:=fun v σ H Q=>LB K n t v σ H Q\/GZ K n t v σ H Q
theorem gK{Ms:tV}(h:Pe X es Ms)(hc:X.calm=true:=by rfl)(hn:(assignEach es X.env).length=n:=by rfl)(nH:(assignEach es X.env).findIdx? (·.1)=none:=by rfl):SG X (.Tuple es k pos) (G0 X.K n Ms) :=
 ⟨fun pins s σ H v u Q I r hw=>hw.elim (HQ hc h.run hn nH pins s σ H v u Q I r) (EL hc h.run hn nH pins s σ H v u Q I r)⟩
def UJ(n:Nat)(b:pQ):pP:=fun dv ρ W Q=>∃ vs,gy W dv=some vs/\vs.length=n/\b vs ρ W Q
instance {C:DC}{K:zn}[hk:mf C K]{gs:tV}{MY:pQ}{n:Nat}[ib:Pp C gs MY]:LG C (G0 K n gs) (UJ n MY):=by
 obtain⟨rfl⟩:=hk;exact⟨fun D v h k=>by
  obtain⟨vs,e,hl,q⟩:=h;obtain⟨p,xs,e1,hq,r⟩:=D.gy v e;rcases hq with hq | hq
  ·exact .inr ⟨p,xs,e1,hq,by rw[<- r.length];exact hl,ib.go D r q k⟩
  ·exact .inl ⟨p,xs,e1,hq,by rw[<- r.length];exact hl,ib.go D r q k⟩⟩
section
variable {gs:pQ}
theorem NV(hl:ds.length=k)(h:gs (ds.map .im) ρ W Qs):UJ k gs (.im (.tuple ds)) ρ W Qs:=⟨_,rfl,by rw[aab];exact hl,h⟩
theorem NW{a:pP}{r:wP}(h:a (.im d) ρ W fun bP W'=>gs (r.map .im) bP W' Qs):Rg a gs ((d::r).map .im) ρ W Qs:=⟨_,_,rfl,h⟩
theorem NY(h:Qs ρ W):Rf (([]:wP).map .im) ρ W Qs:=⟨rfl,h⟩
end
def iA:si:=fun n ds R=>∃ m:Int,ds=[.int m]/\n<=1000000000/\0 < m/\m < 2 ^ 64/\∀ r:Int,0<=r->r < m->R (.im (.int r)) (n+1)
theorem aX(e:W t=some (.aM g n))(hn:n<=1000000000)(m0:0 < m)(m1:m < 2 ^ 64)(h:∀(r:Int) (W':Wd),0<=r->r < m->W' t=some (.aM g (n+1))->Fr t W W'->Q (.im (.int r)) W'):sj iA [.pt t,.im (.int m)] W Q :=
 JW e rfl ⟨m,rfl,hn,m0,m1,fun r r0 r1=>⟨rfl,h r _ r0 r1 ar fun a ha=>aA ha⟩⟩
theorem dn(e:W p=some (.lst vs))(hl:vs.length < sizeLine)(h:∀ W',W' p=some (.lst (vs++[v]))->Fr p W W'->Q (.im .none) W'):pO (.pt p) [v] W Q:=sk e hl (h _ ar fun a ha=>aA ha)
theorem u4{k:Int}{j:Nat}{Kc:Wd->Prop}(e:W p=some (.lst vs))(hj:uA vs.length k=some j)(h:∀ W',W' p=some (.lst (vs.set j v))->Fr p W W'->Kc W'):se (.pt p) (.im (.int k)) v W Kc:=⟨p,vs,k,j,rfl,rfl,e,hj,h _ ar fun a ha=>aA ha⟩
theorem mn{k:Int}(h0:0<=k)(h1:k < n):uA n k=some k.toNat:=by unfold uA;rw[aau h0,aau h1]
theorem JY{α:Type}{xs:List α}{k:Int}(h0:0<=k)(h1:k < xs.length):gX xs k=some (xs[k.toNat]'(by omega)):=by unfold gX;rw[mn h0 h1];show xs[k.toNat]?=_;simp[show k.toNat < xs.length by omega]
theorem bV(h:Q (.im d) W):i6 W Q (.im d):=h
theorem Bi(h:Q (.im (.list ds)) W):i6 W Q (.nw ds):=Or.inr h
def i7(sp:Sp):Sp:=fun vs H Q _=>sp vs H Q E0
theorem Q0.calm{K:zn}{sp:Sp}(D:Q0 P w K mg base k x f fd ps sp):Dn P w K mg base k x f fd ps (i7 sp) where
 ok:=⟨fun vs H Q E q=>D.ok.len vs H Q E0 q,fun A outer s H args us vs Q E hr he hb hv hs=>ab0 (D.ok.run A outer s H args us vs Q E0 hr he hb hv hs) fun r s' h=>by
  cases r with
  | error e=>obtain⟨a,C,H',B,a0,_,R⟩:=h;exact R.want.elim
  | ok fl=>cases fl<;>exact h⟩
 b:=D.b
 kp:=D.kp
 m:=D.m
instance {C:DC}{S:jv}{E:XK}:GS C (i7 (dm S)) E (sg S fun _=>False):=⟨fun D h hd k=>xa (E:=E0) (fun c H' hc _=>hc.elim) D h hd k⟩
theorem cP:dat n W (.im d)=some d:=by cases n<;>rfl
theorem cv{S:si}(e:W t=some (.aM g n))(h:S n ds fun r n'=>i6 (aG W t (.aM g n')) Q r):sj S (.pt t::ds.map .im) W Q:=⟨t,g,n,_,rfl,e,.inr ⟨ds,W,fU (fun _ _=>rfl) ds,e,h⟩⟩
structure ModT(K:zn)(w:World)(a:Addr)(tab:Str->Option (List V)):Prop where
 ex:∃ bC:List (Key×V),ym K w a bC/\∀ x xs,tab x=some xs->∃ b,lM bC (Sum.inr x)=some (.ref b)/\∀ H,eY K H b xs
def UK(K:zn)(w:World)(a:Addr)(tab:Str->Option (List V))(_:ModT K w a tab)(ty:TE):TE:=AH K w (tC (.ref a)) ty
theorem NZ{K:zn}{tab:Str->Option (List V)}{p:Pos}{r:Expr}{ty:TE}(hm:X.mg x=some (.ref a))(hM:ModT K w a tab)(hb:SE X r ty)(hK:X.K=K:=by rfl)(hw:X.w=w:=by rfl)(hs:DH r:=by exact fun _ _=>rfl)(hg:Gl X x:=by rfl)(hd:(x == ("__debug__":Str))=false:=by decide):SE X (.Subscript (.Name x p) r pos) (UK K w a tab hM ty):=by
 subst hK hw;exact IY (Mt hm hg hd) hb hs
def UL(tab:Str->Option (List V))(d:cq):cq:=fun ρ W Q=>d ρ W fun v W1=>∃ x xs,v=.im (.str x)/\tab x=some xs/\Q (.cst xs) W1
instance {C:DC}{K:zn}{w:World}[hk:mf C K]{a:Addr}{tab:Str->Option (List V)}{hM:ModT K w a tab}{ty:TE}{d:cq}[ia:LE C ty d]:LE C (UK K w a tab hM ty) (UL tab d):=by
 obtain⟨rfl⟩:=hk;exact⟨fun D h k=>ia.go D h fun x dv H1 W1 D1 s1 v1 ⟨z,xs,e1,e2,q⟩=>by
  subst e1;obtain⟨bC,hD,nL⟩:=hM.ex;obtain⟨b,hb,hT⟩:=nL z xs e2;exact⟨a,bC,Sum.inr z,.ref b,rfl,hD,v1,hb,k _ (.cst xs) _ _ D1 s1 ⟨b,rfl,hT⟩ q⟩⟩
theorem RK{tab:Str->Option (List V)}{d:cq}(h:d ρ W fun v W1=>∃ x xs,v=.im (.str x)/\tab x=some xs/\Q (.cst xs) W1):UL tab d ρ W Q:=h
theorem cG{d:ju}{De:fX}(bP:bD)(e:ρ=bP)(h:d De bP W):d De ρ W:=by rw[e];exact h
end L2
namespace L2
open PySem PySem.Spec PyProof.Rows
variable {c:Cell}{a:Addr}
abbrev i8:=List DV->Wd->(DV->Wd->Prop)->(Addr->Prop)->Prop
abbrev tZ(K:zn)(H:Hp)(W:Wd)(O:Addr->Prop)(E:XK)(X:Addr->Prop):DC:=⟨K,jV,H,fun a=>(W a).isSome=true,O,E,X⟩
def dq(K:zn)(S:i8):Sp:=fun vs H Q E=>∃(O:Addr->Prop) (aI:List DV) (W:Wd) (R:DV->Wd->Prop) (X:Addr->Prop),
 (∀ a,O a->H a≠none)/\(∀ p c,W p=some c->¬ O p/\cb (tZ K H W O E X) W H p c)/\aD (tZ K H W O E X) (Fz (tZ K H W O E X) W H) aI vs/\S aI W R X /\
 (∀ v dv H' W',R dv W'->(∀ a o,H a=some o->W a=none->H' a=some o)->(∀ a,H a≠none->H' a≠none)->(∀ p c,W' p=some c->(H p=none\/(W p).isSome=true)/\¬ O p/\cb (tZ K H W O E X) W' H' p c)->dG (tZ K H W O E X) (Fz (tZ K H W O E X) W' H') dv v->Q v H') /\
 ∀ c H',X c->(∀ a o,H a=some o->W a=none->H' a=some o)->E (.ref c) none H'
def N0(R:DV->Wd->Prop):fX:=⟨fun _ W=>R (.im .none) W,fun dv W=>R dv W,fun _ _=>False,fun _ _=>False⟩
section
variable {P:tz}{w:World}{K:zn}{mg:xL}{base:Heap}{x qual:Str}{st:Stmt}{f:Addr}{fd:v6}{N ps:ww}{k:Nat}{Sd:i8}
theorem Bj{vs:List V}{H:Hp}{Q:VK}{E:XK}{t:TS}(h:dq K Sd vs H Q E)(hb:∀ O X W,∃ d,LS (tZ K H W O E X) t d/\∀ aI R,Sd aI W R X->d (N0 R) (cf N aI) W):t { nx:=fun _ H'=>Q .cD H',rt:=Q } (start N vs) H:=by
 obtain⟨O,aI,W,R,X,hO,hc,hv,hS,hR,hX⟩:=h;obtain⟨d,hd,hb⟩:=hb O X W;have th:∀ p c,W p=some c->H p≠none:=fun p c e=>by
  have h2:=(hc p c e).2;cases c with
  | lst aI=>obtain⟨xs,e,r⟩:=h2;rw[e];exact fun z=>nomatch z
  | aM g n=>exact h2.1.elim
  | part=>exact Mu.ne h2
  | dk bC=>obtain⟨ks,e,k,r⟩:=h2;rw[e];exact fun z=>nomatch z
  | dt bC=>obtain⟨ks,e,k,r⟩:=h2;rw[e];exact fun z=>nomatch z
  | ob _ _ bC=>obtain⟨ks,e,k,r⟩:=h2;rw[e];exact fun z=>nomatch z
 have D:DR (tZ K H W O E X) (start N vs) H (cf N aI) W:=by
  refine⟨⟨fun z=>z.elim,fun z=>z.elim,fun c WW H' hf=>hX c H' WW fun a o e e2=>hf a o e (by show ¬ (W a).isSome=true;rw[e2];exact fun z=>nomatch z)⟩,fun a o e _=>e,hO,fun a ha=>?_,?_,fun p c e=>⟨.inr (by show(W p).isSome=true;rw[e];rfl),hc p c e⟩⟩
  ·cases q:W a with
   | none=>have qY:(W a).isSome=true:=ha;rw[q]at qY;cases qY
   | some c=>exact th a c q
  ·unfold start cf;rw[hv.length];exact Slots.start _ hv
 have fr:∀ bp H' bP W',DR (tZ K H W O E X) bp H' bP W'->(∀ a o,H a=some o->W a=none->H' a=some o)/\(∀ a,H a≠none->H' a≠none)/\∀ p c,W' p=some c->(H p=none\/(W p).isSome=true)/\¬ O p/\cb (tZ K H W O E X) W' H' p c:=fun bp H' bP W' D' =>
  ⟨fun a o e e2=>D'.fr a o e (by show ¬ (W a).isSome=true;rw[e2];exact fun z=>nomatch z),fun a ha=>by
   cases q:W a with
   | none=>cases q2:H a with
    | none=>exact absurd q2 ha
    | some o=>rw[D'.fr a o q2 (by show ¬ (W a).isSome=true;rw[q];exact fun z=>nomatch z)];exact fun z=>nomatch z
   | some c=>exact D'.th a (by show(W a).isSome=true;rw[q];rfl),fun p c e=>D'.ce p c e⟩
 refine hd.go D (hb aI R hS) ⟨fun bp H' bP W' D' s q=>?_,fun bp H' bP W' D' s q=>q.elim,fun bp H' bP W' D' s q=>q.elim,fun x dv bp H' bP W' D' s v q=>?_⟩
 ·obtain⟨f1,f2,f3⟩:=fr bp H' bP W' D';exact hR .cD (.im .none) H' W' q f1 f2 f3 rfl
 ·obtain⟨f1,f2,f3⟩:=fr bp H' bP W' D';exact hR x dv H' W' q f1 f2 f3 v
theorem EN(hlen:∀ aI W R X,Sd aI W R X->aI.length=ps.length):∀ vs H Q E,dq K Sd vs H Q E->vs.length=ps.length:=fun vs H Q E ⟨O,aI,W,R,X,_,_,hv,hS,_⟩=>by rw[<- hv.length];exact hlen aI W R X hS
theorem cA.rg(F:cA K x qual st f fd)(S:ay N ps (defScope st))(hlen:∀ aI W R X,Sd aI W R X->aI.length=ps.length)(cY:∀(bq:Value) (A:t0) (outer:List Env) (s:Shared) (H:Hp) (E:XK),cB k (A.deeper (envOfC qual (defScope st) s.heap.objs.size f bq)) ->
   ∃ t,rV (fj cI P w K mg base N qual (defScope st) f bq A outer s H E).zq (defBody st) t/\∀ O X W,∃ d,LS (tZ K H W O E X) t d/\∀ aI R,Sd aI W R X->d (N0 R) (cf N aI) W):aW P w K mg base cI (k+1) f fd ps (dq K Sd) :=
 F.K8 S (EN hlen) fun bq A outer s H vs Q E hr h=>by
  obtain⟨t,h1,h2⟩:=cY bq A outer s H E hr;exact⟨t,h1,Bj h h2⟩
end
open Classical in
noncomputable def nE (W:Wd) (D:Addr->Prop):Wd:=fun a=>if D a then W a else none
open Classical in
noncomputable def yF (W:Wd) (D:Addr->Prop) (W':Wd):Wd:=fun a=>match W' a with
 | some c=>if c.plain=true then some c else if D a then none else W a
 | none=>if D a then none else W a
def dW(S:i8)(X:Addr->Prop):List DV->Wd->DK->Prop:=fun as W Q=>∃ D:Addr->Prop,(∀ a c,D a->W a=some c->c.plain=true)/\S as (nE W D) (fun dv W'=>(∀ a,W' a≠none->D a\/W a=none)->Q dv (yF W D W')) X
section
variable {C C':DC}{σ:St}{H H':Hp}{ρ:bD}{W W':Wd}{Qd:DK}{Q:VK}{F:Hp}{D:Addr->Prop}
theorem dG.conv(hK:C'.K=C.K):∀{dv:DV} {x:V},dG C F dv x->dG C' F dv x
 | .im _,_,h=>h
 | .pt _,_,h=>h
 | .cst _,_,⟨a,e,h⟩=>⟨a,e,fun H=>by rw[hK];exact h H⟩
 | .rf _,_,h=>h
 | .ty _,_,h=>h
 | .uP _,_,h=>h
 | .raw _,_,h=>h
 | .iO _,_,⟨a,e,h⟩=>⟨a,e,by rw[hK];exact h⟩
 | .tp _,_,h=>h
theorem aD.conv(hK:C'.K=C.K):∀{aI:List DV} {xs:List V},aD C F aI xs->aD C' F aI xs
 | [],_,h=>h
 | _::_,_,⟨y,ys,e,h,r⟩=>⟨y,ys,e,h.conv hK,aD.conv hK r⟩
theorem cb.conv(hK:C'.K=C.K){p:Addr}(hp:c.plain=true)(s:aJ (Fz C W H) (Fz C' W' H))(h:cb C W H p c):cb C' W' H p c:=by
 cases c with
 | lst aI=>obtain⟨xs,e,r⟩:=h;exact⟨xs,e,(r.mono s).conv hK⟩
 | aM g n=>cases hp
 | part=>cases hp
 | dk bC=>obtain⟨ks,e,k,r⟩:=h;exact⟨ks,e,k,(r.mono s).conv hK⟩
 | dt bC=>obtain⟨ks,e,k,r⟩:=h;exact⟨ks,e,k,(r.mono s).conv hK⟩
 | ob _ _ bC=>obtain⟨ks,e,k,r⟩:=h;exact⟨ks,e,k,(r.mono s).conv hK⟩
theorem fw(h:nE W D a=some c):D a/\W a=some c:=by
 unfold nE at h;split at h
 ·exact⟨by assumption,h⟩
 ·cases h
theorem JZ(h:D a):nE W D a=W a:=by unfold nE;rw[aau h]
theorem EO(h:¬ D a):nE W D a=none:=by unfold nE;rw[aao h]
theorem jy(h:yF W D W' a=some c):(W' a=some c/\c.plain=true)\/(¬ D a/\W a=some c/\(W' a=none\/∃ c',W' a=some c'/\c'.plain=false)):=by
 unfold yF at h;cases q:W' a with
 | some c' =>
  rw[q]at h;dsimp only at h;split at h
  ·cases h;exact .inl ⟨rfl,by assumption⟩
  ·split at h
   ·cases h
   ·exact .inr ⟨by assumption,h,.inr ⟨c',rfl,by simpa using ‹¬ c'.plain=true›⟩⟩
 | none =>
  rw[q]at h;dsimp only at h;split at h
  ·cases h
  ·exact .inr ⟨by assumption,h,.inl rfl⟩
theorem J0(h:W' a=some c)(hp:c.plain=true):yF W D W' a=some c:=by
 unfold yF;rw[h];exact aau hp
theorem Bk(hd:¬ D a)(h:W' a=none):yF W D W' a=W a:=by
 unfold yF;rw[h];exact aao hd
theorem sv(hW:∀ a,W' a≠none->D a\/W a=none)(hd:¬ D a)(h:W a=some c):yF W D W' a=some c:=by
 cases q:W' a with
 | none=>rw[Bk hd q];exact h
 | some c' =>
  rcases hW a (by rw[q];exact fun z=>nomatch z)with z | z
  ·exact absurd z hd
  ·rw[z]at h;cases h
theorem Bl{K:zn}{S:i8}{X:Addr->Prop}{E:XK}(hK:C.K=K)(hX:∀ c H',X c->(∀ a o,C.H0 a=some o->¬ C.T a->H' a=some o)->E (.ref c) none H'){as:List DV}{xs:List V}(R:DR C σ H ρ W)(h:aD C (Fz C W H) as xs)(hd:dW S X as W Qd)(k:KE C σ ρ W H Qd Q):dq K S xs H Q E:=by
 obtain⟨D,lL,hS⟩:=hd;have cs:∀ H1,aJ (Fz C W H1) (Fz (tZ K H (nE W D) (fun a=>C.O a\/((W a).isSome=true/\¬ D a)) E X) (nE W D) H1):=fun H1 a o e=>by
  obtain⟨h1,h2⟩:=av.mp e;refine av.mpr ⟨fun z=>h1 ?_,h2⟩;rcases z with(z | z) | z
  ·exact .inl z
  ·exact .inr z.1
  ·cases q:nE W D a with
   | none=>rw[q]at z;cases z
   | some c=>exact .inr (by rw[(fw q).2];rfl)
 refine⟨fun a=>C.O a\/((W a).isSome=true/\¬ D a),as,nE W D,_,X,fun a ha=>?_,fun p c e=>?_,(h.mono (cs H)).conv hK.symm,hS,fun v dv H' W' q f1 f2 f3 hv=>?_,fun c H' hc f1=>hX c H' hc fun a o e ht=>?_⟩
 ·rcases ha with ha | ha
  ·exact R.ho a ha
  ·cases q:W a with
   | none=>rw[q]at ha;cases ha.1
   | some c=>exact R.there q
 ·obtain⟨FU,e'⟩:=fw e;obtain⟨g1,g2,g3⟩:=R.ce p c e';exact⟨fun z=>z.elim g2 fun z=>z.2 FU,g3.conv (C':=tZ K H (nE W D) (fun a=>C.O a\/((W a).isSome=true/\¬ D a)) E X) hK.symm (lL p c FU e') (cs H)⟩
 ·have Oa:∀ a,W' a≠none->D a\/W a=none:=fun a ha=>by
   cases q':W' a with
   | none=>exact absurd q' ha
   | some c =>
    obtain⟨g1,g2,_⟩:=f3 a c q';rcases g1 with g1 | g1
    ·exact .inr (R.fresh g1)
    ·cases q2:nE W D a with
     | none=>rw[q2]at g1;cases g1
     | some c'=>exact .inl (fw q2).1
  have eqv:∀ H1,aJ (Fz (tZ K H (nE W D) (fun a=>C.O a\/((W a).isSome=true/\¬ D a)) E X) W' H1) (Fz C (yF W D W') H1):=fun H1 a o e=>by
   obtain⟨h1,h2⟩:=av.mp e;refine av.mpr ⟨fun z=>h1 ?_,h2⟩;rcases z with z | z
   ·exact .inl (.inl z)
   ·cases q:yF W D W' a with
    | none=>rw[q]at z;cases z
    | some c =>
     rcases jy q with⟨g,_⟩ | ⟨g1,g2,_⟩
     ·exact .inr (by rw[g];rfl)
     ·exact .inl (.inr ⟨by rw[g2];rfl,g1⟩)
  have hk:∀ p c,¬ D p->W p=some c->H' p=H p:=fun p c FU e=>by
   cases q:H p with
   | none=>exact absurd q (R.there e)
   | some o=>exact f1 p o q (EO FU)
  obtain⟨R',s'⟩:=R.step (W':=yF W D W') (H':=H') (fun a z=>by
    cases q:yF W D W' a with
    | none=>rw[q]at z;cases z
    | some c =>
     rcases jy q with⟨g,_⟩ | ⟨g1,g2,_⟩
     ·obtain⟨e1,_,_⟩:=f3 a c g;rcases e1 with e1 | e1
      ·exact .inr e1
      ·cases q2:nE W D a with
       | none=>rw[q2]at e1;cases e1
       | some c'=>exact .inl (by rw[(fw q2).2];rfl)
     ·exact .inl (by rw[g2];rfl)) (fun a o e w'=>f1 a o e (by
      cases q2:nE W D a with
      | none=>rfl
      | some c'=>rw[(fw q2).2]at w';cases w')) f2 fun s p c e=>by
   rcases jy e with⟨g,hp⟩ | ⟨g1,g2,g3⟩
   ·obtain⟨e1,e2,e3⟩:=f3 p c g;refine⟨?_,fun z=>e2 (.inl z),e3.conv hK hp (eqv H')⟩;rcases e1 with e1 | e1
    ·exact .inl (R.Jh e1)
    ·cases q2:nE W D p with
     | none=>rw[q2]at e1;cases e1
     | some c'=>exact(R.ce p c' (fw q2).2).1
   ·obtain⟨e1,e2,e3⟩:=R.ce p c g2;refine⟨e1,e2,?_⟩;have hp:=hk p c g1 g2;cases c with
    | lst aI=>obtain⟨xs,e,r⟩:=e3;exact⟨xs,by rw[hp];exact e,r.mono s⟩
    | part=>show Mu (H' p);rw[hp];exact e3
    | dk bC=>obtain⟨ks,e,k,r⟩:=e3;exact⟨ks,by rw[hp];exact e,k,r.mono s⟩
    | dt bC=>obtain⟨ks,e,k,r⟩:=e3;exact⟨ks,by rw[hp];exact e,k,r.mono s⟩
    | ob _ _ bC=>obtain⟨ks,e,k,r⟩:=e3;exact⟨ks,by rw[hp];exact e,k,r.mono s⟩
    | aM g n =>
     obtain⟨r,eg,u⟩:=e3;have dg:¬ D g:=fun z=>by have:=lL g _ z eg;cases this
     refine⟨R.ok.rs r hp (hk g _ dg eg),sv Oa dg eg,fun t' g' n' z=>?_⟩;rcases jy z with⟨_,z2⟩ | ⟨_,z2,_⟩
     ·cases z2
     ·exact u t' g' n' z2
  exact k v dv H' _ R' s' ((hv.mono (eqv H')).conv hK) (q Oa)
 ·refine f1 a o (R.fr a o e ht) ?_;cases q2:nE W D a with
  | none=>rfl
  | some c' =>
   rcases (R.ce a c' (fw q2).2).1 with z | z
   ·rw[z]at e;cases e
   ·exact absurd z ht
end
end L2
namespace L2
open PySem PySem.Spec PyProof.Rows
variable {as:List DV}{X:Addr->Prop}
def putD(f:Str)(v:DV):List (Str×DV)->List (Str×DV)
 | []=>[(f,v)]
 | (g,x)::r=>if g=f then(g,v)::r else(g,x)::putD f v r
section
variable {C:DC}{σ:St}{H H':Hp}{ρ:bD}{W W':Wd}{Qd:DK}{Q:VK}{F:Hp}{K:zn}{ta tv:TE}{da dv:cq}{ts:TA}{ds:kx}{kC:Addr}{f m:Str}
theorem pY:∀{fs:List (Str×DV)} {eW:List (Str×V)},eW.map (·.1)=fs.map (·.1)->aD C F (fs.map (·.2)) (eW.map (·.2))->∀{d:DV},fs.lookup f=some d->∃ v,eW.lookup f=some v/\dG C F d v
 | [],_,_,_,_,e=>by cases e
 | (g,x)::r,[],hk,_,_,_=>by cases hk
 | (g,x)::r,(g',x')::r',hk,⟨y,ys,ey,hy,hr⟩,d,e=>by
  have AO:g'::r'.map (·.1)=g::r.map (·.1):=hk;have RL:x'::r'.map (·.2)=y::ys:=ey;injection AO with k1 k2
  injection RL with y1 y2
  subst k1 y1 y2;rw[aaM]at e ⊢;cases q:(f == g') with
  | true=>rw[q]at e;cases e;exact⟨x',rfl,hy⟩
  | false=>rw[q]at e;exact pY k2 hr e
theorem xp:∀{fs:List (Str×DV)} {eW:List (Str×V)},eW.map (·.1)=fs.map (·.1)->fs.lookup f=none->eW.lookup f=none
 | [],[],_,_=>rfl
 | [],_::_,hk,_=>by cases hk
 | (g,x)::r,[],hk,_=>by cases hk
 | (g,x)::r,(g',x')::r',hk,e=>by
  have AO:g'::r'.map (·.1)=g::r.map (·.1):=hk;injection AO with k1 k2
  subst k1;rw[aaM]at e ⊢;cases q:(f == g') with
  | true=>rw[q]at e;cases e
  | false=>rw[q]at e;exact xp k2 e
theorem Bm{d:DV}{v:V}(hv:dG C F d v):∀{fs:List (Str×DV)} {eW:List (Str×V)},eW.map (·.1)=fs.map (·.1)->aD C F (fs.map (·.2)) (eW.map (·.2))->(fM f v eW).map (·.1)=(putD f d fs).map (·.1)/\aD C F ((putD f d fs).map (·.2)) ((fM f v eW).map (·.2))
 | [],[],_,_=>⟨rfl,aD.one hv⟩
 | [],_::_,hk,_=>by cases hk
 | (g,x)::r,[],hk,_=>by cases hk
 | (g,x)::r,(g',x')::r',hk,⟨y,ys,ey,hy,hr⟩=>by
  have AO:g'::r'.map (·.1)=g::r.map (·.1):=hk;have RL:x'::r'.map (·.2)=y::ys:=ey;injection AO with k1 k2
  injection RL with y1 y2
  subst k1 y1 y2;unfold fM putD
  by_cases h:g'=f
  ·rw[aau h,aau h];exact⟨by show g'::_=g'::_;rw[k2],v,_,rfl,hv,hr⟩
  ·rw[aao h,aao h];obtain⟨a1,a2⟩:=Bm hv k2 hr;exact⟨by show g'::_=g'::_;rw[a1],x',_,rfl,hy,a2⟩
def Ob(K:zn)(f:Str)(da:cq):cq:=fun ρ W Q=>da ρ W fun a W1=>∃ p k d fs v,a=.pt p/\W1 p=some (.ob k d fs)/\kL K k/\bO K k f/\fs.lookup f=some v/\Q v W1
instance [hk:mf C K][ia:LE C ta da]:LE C (Ih K ta f) (Ob K f da):=⟨fun D h k=>ia.go D h fun x dx H1 W1 D1 s1 v1 ⟨p,kc,d,fs,v,e1,e2,c,n,l,q⟩=>by
 subst e1;obtain⟨_,_,eW,g1,g2,g3⟩:=D1.ce p _ e2;obtain⟨u,l',hu⟩:=pY g2 g3 l;exact⟨p,kc,d,eW,u,v1,g1,c,n,l',k.mono s1 |>.now D1 hu q⟩⟩
def xq(K:zn)(f:Str)(da dv:cq):ju:=fun De ρ W=>dv ρ W fun y W1=>da ρ W1 fun a W2=>∃ p k d fs,a=.pt p/\W2 p=some (.ob k d fs)/\kL K k/\bO K k f/\fs.length < 1000/\De.nx ρ (aG W2 p (.ob k d (putD f y fs)))
theorem len_eq{fs:List (Str×DV)}{eW:List (Str×V)}(h:eW.map (·.1)=fs.map (·.1)):eW.length=fs.length:=by have:=abz List.length h;simpa using this
theorem DR.Oc{p k d:Addr}{fs:List (Str×DV)}{eW:List (Str×V)}{y:DV}{v:V}(D:DR C σ H ρ W)(e:W p=some (.ob k d fs))(g2:eW.map (·.1)=fs.map (·.1))(g3:aD C (Fz C W H) (fs.map (·.2)) (eW.map (·.2)))(hv:dG C (Fz C W H) y v):DR C σ (upd H p (.ins k d (fM f v eW))) ρ (aG W p (.ob k d (putD f y fs)))/\aJ (Fz C W H) (Fz C (aG W p (.ob k d (putD f y fs))) (upd H p (.ins k d (fM f v eW)))) :=
 D.Uo e rfl rfl fun s=>by
  obtain⟨a1,a2⟩:=Bm (f:=f) hv g2 g3;exact⟨_,cK,a1,a2.mono s⟩
instance [hk:mf C K][ia:LE C ta da][iv:LE C tv dv]:LS C (Ii K ta tv f) (xq K f da dv):=⟨fun D h m=>iv.go D h fun y dy H1 W1 D1 s1 v1 h1=>ia.go D1 h1 fun x dx H2 W2 D2 s2 v2 ⟨p,kc,d,fs,e1,e2,c,n,l,q⟩=>by
 subst e1;obtain⟨_,_,eW,g1,g2,g3⟩:=D2.ce p _ e2;obtain⟨D3,s3⟩:=D2.Oc (f:=f) e2 g2 g3 (v1.mono s2);exact⟨p,kc,d,eW,v2,g1,c,n,by rw[len_eq g2];exact l,m.nx _ _ _ _ D3 ((s1.trans s2).trans s3) q⟩⟩
def pZ(K:zn)(f:Str)(dr:pK)(da dv:cq):ju:=fun De ρ W=>da ρ W fun a W1=>∃ p k d fs v,a=.pt p/\W1 p=some (.ob k d fs)/\kL K k/\bO K k f/\fs.lookup f=some v /\
 dv ρ W1 fun y W2=>dr v y W2 fun z W3=>∃ d' eW,W3 p=some (.ob k d' eW)/\eW.length < 1000/\De.nx ρ (aG W3 p (.ob k d' (putD f z eW)))
instance {rd:R2}{dr:pK}[hk:mf C K][ia:LE C ta da][iv:LE C tv dv][ir:zx C rd dr]:LS C (o5 K ta tv rd f) (pZ K f dr da dv):=⟨fun{σ H ρ W De D'} D h m=>ia.go D h fun x dx H1 W1 D1 s1 v1 ⟨p,kc,d,fs,v,e1,e2,c,n,l,q⟩=>by
 subst e1;obtain⟨_,_,eW,g1,g2,g3⟩:=D1.ce p _ e2;obtain⟨u,l',hu⟩:=pY g2 g3 l;refine⟨p,kc,d,eW,u,v1,g1,c,n,l',iv.go D1 q fun y dy H2 W2 D2 s2 v2 q2=>?_⟩;refine ir.go (Qd:=fun z W3=>∃ d' eW,W3 p=some (.ob kc d' eW)/\eW.length < 1000/\De.nx ρ (aG W3 p (.ob kc d' (putD f z eW)))) D2 (hu.mono s2) v2 q2 fun z dz H3 W3 D3 s3 v3 ⟨d',fs2,e3,l3,q3⟩=>?_;obtain⟨_,_,WX,k1,k2,k3⟩:=D3.ce p _ e3;obtain⟨D4,s4⟩:=D3.Oc (f:=f) e3 k2 k3 v3;exact⟨d',WX,k1,by rw[len_eq k2];exact l3,m.nx _ _ _ _ D4 (((s1.trans s2).trans s3).trans s4) q3⟩⟩
def G1(kC:Addr)(m:Str)(g:List DV->Wd->DK->Prop)(da:cq)(ds:kx):cq:=fun ρ W Q=>da ρ W fun a W1=>∃ p d fs,a=.pt p/\W1 p=some (.ob kC d fs)/\fs.lookup m=none/\ds ρ W1 fun vs W2=>g (a::vs) W2 Q
instance {sp:Sp}{E:XK}{g:List DV->Wd->DK->Prop}[ir:GS C sp E g][ia:LE C ta da][is:LA C ts ds]:LE C (rF kC m sp [] E ta ts) (G1 kC m g da ds):=⟨fun D h k=>ia.go D h fun x dx H1 W1 D1 s1 v1 ⟨p,d,fs,e1,e2,l,q⟩=>by
 subst e1;obtain⟨_,_,eW,g1,g2,g3⟩:=D1.ce p _ e2;refine⟨p,d,eW,v1,g1,xp g2 l,is.go D1 q fun xs aI H2 W2 D2 s2 v2 q2=>?_⟩;rw[abZ];exact ir.go (as:=.pt p::aI) D2 ⟨x,xs,rfl,v1,v2⟩ q2 (k.mono (s1.trans s2))⟩
def G2(kC:Addr)(g:List DV->Wd->DK->Prop)(ds:kx):cq:=fun ρ W Q=>ds ρ W fun vs W1=>∀ x d,W1 x=none->W1 d=none->d≠x->g (.pt x::vs) (aG W1 x (.ob kC d [])) fun v W2=>v=.im .none/\Q (.pt x) W2
instance {sp:Sp}{E:XK}{g:List DV->Wd->DK->Prop}[ir:GS C sp E g][is:LA C ts ds]:LE C (Ai kC sp [] E ts) (G2 kC g ds):=⟨fun D h k=>is.go D h fun xs aI H1 W1 D1 s1 v1 q=>fun x d hx hd oh=>by
 rw[abZ];obtain⟨D2,s2,_⟩:=D1.AX hd (.own x);have WY:upd H1 d (.own x) x=none:=by rw[bc (acj oh)];exact hx
 obtain⟨D3,s3⟩:=D2.MJ (c:=.ob kC d []) (o:=.ins kC d []) WY rfl fun s=>⟨[],cK,rfl,rfl⟩;exact ir.go (as:=.pt x::aI) D3 ⟨_,_,rfl,rfl,v1.mono (s2.trans s3)⟩ (q x d (D1.fresh hx) (D1.fresh hd) oh) fun v dv H2 W2 D4 s4 hv ⟨e,q2⟩=>by
  subst e;exact⟨hv,k _ (.pt x) _ _ D4 (((s1.trans s2).trans s3).trans s4) rfl q2⟩⟩
end
structure iB(P:tz)(w:World)(K:zn)(mg:xL)(base:Heap)(k:Nat)(C:Addr)(m:Str)(f:Addr)(fd:v6)(ps:ww)(sp:Sp):Prop where
 cls:kL K C
 me:Meth K C m f
 ok:aW P w K mg base cI k f fd ps sp
 b:Binds K fd ps []
structure RM(P:tz)(w:World)(K:zn)(mg:xL)(base:Heap)(k:Nat)(C:Addr)(x:Str)(f:Addr)(fd:v6)(ps:ww)(sp:Sp):Prop where
 ma:Mk K C f
 ok:aW P w K mg base cI k f fd ps sp
 b:Binds K fd ps []
 m:mg x=some (.ref C)
section
variable {X:Cx}{o e value:Expr}{es:ut}{x m f:Str}{C fa:Addr}{p pos pos' apos Ag:Pos}{ta tv:TE}{t:TA}{k j:Nat}{fd:v6}{ps:ww}{sp:Sp}
theorem bf(he:SE X e ta)(hb:attributeBase e f X.env (eval e X.env)=eval e X.env:=by rfl):SE X (.Attribute e f pos) (Ih X.K ta f):=⟨Ij he.run hb⟩
theorem cj(ha:SE X o ta)(hv:SE X value tv)(hs:swapsWith value (some (.Attribute o f pos')) pos.line X.env=pure false:=by rfl):SS X (.Assign [.Attribute o f pos'] value pos) (Ii X.K ta tv f):=⟨Ik ha.run hv.run hs⟩
theorem mq{op:Operator}{rd:R2}(Ql:gq X (inplaceOp op) rd)(ha:SE X o ta)(hv:SE X value tv):SS X (.AugAssign (.Attribute o f Ag) op value pos) (o5 X.K ta tv rd f):=⟨x9 ha.run hv.run fun pins s σ H x y u v Q I rx ry h=>Ql pins s σ H x y u v Q I rx ry h⟩
theorem cX{pl:Sem Bool}(D:iB X.prog X.w X.K X.mg X.base k C m fa fd ps sp)(hr:cB j X.A)(he:SE X o ta)(ha:SA X (e::es) t)(hk:k<=j:=by first | exact aae _ | decide | omega)(hs:(e::es).all noStar=true:=by rfl)(ht:eval (.Call (.Attribute o m apos) (e::es) [] pos) X.env=(do
   let ov <- eval o X.env
   standAt apos.atName
   let (f,first) <- holding [ov] (getMethod ov m pl)
   callWith pos f first (backTo pos (starEach (e::es) X.env)) (backToKw pos (keywordEach [] X.env))):=by rfl):SE X (.Call (.Attribute o m apos) (e::es) [] pos) (rF C m sp [] E0 ta t) :=
 ⟨DF (pl:=pl) he.run D.cls D.me (D.ok.mono hk) hr D.b .nil wH ha.run (bX es X.env (by rw[aaK,aas]at hs;exact hs.1)) (eI (by rw[aaK,aas]at hs;exact hs.2)) ht⟩
theorem xr{pl:Sem Bool}(D:iB X.prog X.w X.K X.mg X.base k C m fa fd ps sp)(hr:cB j X.A)(he:SE X o ta)(hk:k<=j:=by first | exact aae _ | decide | omega)(ht:eval (.Call (.Attribute o m apos) [] [] pos) X.env=(do
   let ov <- eval o X.env
   standAt apos.atName
   let (f,first) <- holding [ov] (getMethod ov m pl)
   callWith pos f first (backTo pos (starEach [] X.env)) (backToKw pos (keywordEach [] X.env))):=by rfl):SE X (.Call (.Attribute o m apos) [] [] pos) (rF C m sp [] E0 ta o6) :=
 ⟨Aj (pl:=pl) he.run D.cls D.me (D.ok.mono hk) hr D.b .nil wH ht⟩
theorem J1(D:RM X.prog X.w X.K X.mg X.base k C x fa fd ps sp)(hr:cB j X.A)(ha:SA X (e::es) t)(hk:k+1<=j:=by first | exact aae _ | decide | omega)(hs:(e::es).all noStar=true:=by rfl)(hg:Gl X x:=by rfl)(rG:(x == ("__debug__":Str))=false:=by decide) :
  SE X (.Call (.Name x p) (e::es) [] pos) (Ai C sp [] E0 t) :=
 ⟨DG D.ma D.ok (hr.mono hk) hg D.m D.b .nil wH ha.run rG (bX es X.env (by rw[aaK,aas]at hs;exact hs.1)) (eI (by rw[aaK,aas]at hs;exact hs.2))⟩
end
section
variable {K:zn}{ρ:bD}{W:Wd}{Q:DK}{De:fX}{da dv:cq}{ds:kx}{ts:List (PyData ⊕ Addr)}{f m:Str}{kC:Addr}{g:List DV->Wd->DK->Prop}{S:i8}{v:DV}{vs:List DV}
theorem Od(h:da ρ W fun a W1=>∃ p k d fs v,a=.pt p/\W1 p=some (.ob k d fs)/\kL K k/\bO K k f/\fs.lookup f=some v/\Q v W1):Ob K f da ρ W Q:=h
theorem J2(h:da ρ W fun a W1=>∃ p d fs,a=.pt p/\W1 p=some (.ob kC d fs)/\fs.lookup m=none/\ds ρ W1 fun vs W2=>g (a::vs) W2 Q):G1 kC m g da ds ρ W Q:=h
theorem J3(h:ds ρ W fun vs W1=>∀ x d,W1 x=none->W1 d=none->d≠x->g (.pt x::vs) (aG W1 x (.ob kC d [])) fun v W2=>v=.im .none/\Q (.pt x) W2):G2 kC g ds ρ W Q:=h
theorem J4(hl:ts.length<=sizeLine)(h:Q (.tp ts) W):wR (ts.map Jg) W Q:=⟨by rw[aab];exact hl,.inr (.inr ⟨ts,rfl,h⟩)⟩
end
def Bn(c:Cell):Prop:=∃ ds,c=.lst (ds.map .im)/\jr ds=true
def ER:List (PyData ⊕ Addr)->Prop
 | []=>True
 | .inl d::r=>Im d=true/\ER r
 | .inr _::r=>ER r
def UM:DV->Prop
 | .im d=>Im d=true
 | .pt _=>True
 | .tp ts=>ER ts
 | _=>False
open Classical in
noncomputable def addW (W W':Wd):Wd:=fun a=>if ∃ c,W' a=some c/\Bn c then W' a else W a
def UN(S:i8)(X:Addr->Prop):List DV->Wd->DK->Prop:=fun as W Q=>∃ ds,eJ (dat 4 W) as=some ds/\S (ds.map .im) W0 (fun dv W'=>UM dv/\((∀ a,W' a≠none->W a=none)->Q dv (addW W W'))) X
section
variable {C:DC}{σ:St}{H H':Hp}{ρ:bD}{W W':Wd}{Qd:DK}{Q:VK}{F F':Hp}
theorem ft.tp(h:Tp F F'):∀{ts:List (PyData ⊕ Addr)} {vs:List V},ER ts->ft F ts vs->ft F' ts vs
 | [],_,_,h=>h
 | .inl _::_,_,hi,⟨y,ys,e,h1,r⟩=>⟨y,ys,e,Rep.tp h hi.1 h1,ft.tp h hi.2 r⟩
 | .inr _::_,_,hi,⟨ys,e,r⟩=>⟨ys,e,ft.tp h hi r⟩
theorem dG.tp{C':DC}(h:Tp F F'):∀{dv:DV} {x:V},UM dv->dG C' F dv x->dG C F' dv x
 | .im _,_,hi,v=>Rep.tp h hi v
 | .pt _,_,_,v=>v
 | .tp _,_,hi,⟨a,vs,e,h1,r⟩=>⟨a,vs,e,h _ _ h1,r.tp h hi⟩
 | .cst _,_,hi,_=>hi.elim
 | .rf _,_,hi,_=>hi.elim
 | .ty _,_,hi,_=>hi.elim
 | .uP _,_,hi,_=>hi.elim
 | .raw _,_,hi,_=>hi.elim
 | .iO _,_,hi,_=>hi.elim
theorem iQ{a:Addr}{c:Cell}(h:addW W W' a=some c):(W' a=some c/\Bn c)\/W a=some c:=by
 unfold addW at h;split at h
 ·rename_i z;obtain⟨c',e,hi⟩:=z;rw[e]at h;cases h;exact .inl ⟨e,hi⟩
 ·exact .inr h
theorem yG{a:Addr}{c:Cell}(hW:∀ a,W' a≠none->W a=none)(h:W a=some c):addW W W' a=some c:=by
 unfold addW;split
 ·rename_i z;obtain⟨c',e,hi⟩:=z;rw[hW a (by rw[e];exact fun z=>nomatch z)]at h;cases h
 ·exact h
theorem Bo{K:zn}{S:i8}{E:XK}(hK:C.K=K)(hX:∀ c H',X c->(∀ a o,C.H0 a=some o->¬ C.T a->H' a=some o)->E (.ref c) none H'){xs:List V}(R:DR C σ H ρ W)(h:aD C (Fz C W H) as xs)(hd:UN S X as W Qd)(k:KE C σ ρ W H Qd Q):dq K S xs H Q E:=by
 obtain⟨ds,e,hS⟩:=hd;have ra:=fv (fun dv x d h e=>R.dat 4 h e) h e;have Rm:aJ (hide (fun a=>C.O a\/de (W a)) H) (Fz (tZ K H W0 (fun a=>C.O a\/de (W a)) E X) W0 H):=fun a o e=>by
  obtain⟨h1,h2⟩:=av.mp e;exact av.mpr ⟨fun z=>h1 (z.elim id fun z=>by cases z),h2⟩
 refine⟨fun a=>C.O a\/de (W a),ds.map .im,W0,_,X,fun a ha=>?_,(fun p c e=>by cases e),aD.fu (ak.same Rm ra),hS,fun v dv H' W' q f1 f2 f3 hv=>?_,fun c H' hc f1=>hX c H' hc fun a o e ht=>f1 a o (R.fr a o e ht) rfl⟩
 ·rcases ha with ha | ha
  ·exact R.ho a ha
  ·obtain⟨c,e⟩:=fk ha;exact R.there e
 ·have s:aJ H H':=fun a o e=>f1 a o e rfl;have Oa:∀ a,W' a≠none->W a=none:=fun a ha=>by
   cases q':W' a with
   | none=>exact absurd q' ha
   | some c =>
    rcases (f3 a c q').1 with g1 | g1
    ·exact R.fresh g1
    ·cases g1
  obtain⟨R1,s1⟩:=R.same s;have UO:Tp (Fz (tZ K H W0 (fun a=>C.O a\/de (W a)) E X) W' H') (Fz C (addW W W') H'):=fun b zs e=>by
   obtain⟨h1,h2⟩:=av.mp e;refine av.mpr ⟨fun z=>?_,h2⟩;rcases z with z | z
   ·exact h1 (.inl (.inl z))
   ·cases q2:addW W W' b with
    | none=>rw[q2]at z;cases z
    | some c =>
     rcases iQ q2 with⟨g,_⟩ | g
     ·exact h1 (.inr (by rw[g];rfl))
     ·obtain⟨u,e1,e2⟩:=(R1.ce b c g).2.2.mu R1.ok;rw[h2]at e1;cases e1;exact e2 zs rfl
  obtain⟨R',s'⟩:=R.step (W':=addW W W') (H':=H') (fun a z=>by
    cases q2:addW W W' a with
    | none=>rw[q2]at z;cases z
    | some c =>
     rcases iQ q2 with⟨g,_⟩ | g
     ·rcases (f3 a c g).1 with g1 | g1
      ·exact .inr g1
      ·cases g1
     ·exact .inl (by rw[g];rfl)) (fun a o e _=>s a o e) f2 fun s2 p c e=>by
   rcases iQ e with⟨g,es,rfl,hi⟩ | g
   ·obtain⟨e1,e2,e3⟩:=f3 p _ g;have hp:H p=none:=by
     rcases e1 with e1 | e1
     ·exact e1
     ·cases e1
    obtain⟨ys,g1,g2⟩:=e3;exact⟨.inl (R.Jh hp),R.nO hp,ys,g1,aD.fu (ak.tp UO hi (g2.r6))⟩
   ·obtain⟨e1,e2,e3⟩:=R.ce p c g;have hp:=fT s (R.there g);refine⟨e1,e2,?_⟩;cases c with
    | lst aI=>obtain⟨xs,e,r⟩:=e3;exact⟨xs,by rw[hp];exact e,r.mono s2⟩
    | part=>show Mu (H' p);rw[hp];exact e3
    | dk bC=>obtain⟨ks,e,k,r⟩:=e3;exact⟨ks,by rw[hp];exact e,k,r.mono s2⟩
    | dt bC=>obtain⟨ks,e,k,r⟩:=e3;exact⟨ks,by rw[hp];exact e,k,r.mono s2⟩
    | ob _ _ bC=>obtain⟨ks,e,k,r⟩:=e3;exact⟨ks,by rw[hp];exact e,k,r.mono s2⟩
    | aM t n =>
     obtain⟨r,eg,u⟩:=e3;refine⟨R.ok.rs r hp (fT s (R.there eg)),yG Oa eg,fun t' g' n' z=>?_⟩;rcases iQ z with⟨_,_,z2,_⟩ | z2
     ·cases z2
     ·exact u t' g' n' z2
  exact k v dv H' _ R' s' (hv.tp UO q.1) (q.2 Oa)
def Px(S:i8)(X:Addr->Prop):List DV->Wd->DK->Prop:=fun as W Q=>dW S X as W Q\/UN S X as W Q
theorem Bp{K:zn}{S:i8}{E:XK}(hK:C.K=K)(hX:∀ c H',X c->(∀ a o,C.H0 a=some o->¬ C.T a->H' a=some o)->E (.ref c) none H'){xs:List V}(R:DR C σ H ρ W)(h:aD C (Fz C W H) as xs)(hd:Px S X as W Qd)(k:KE C σ ρ W H Qd Q):dq K S xs H Q E :=
 hd.elim (fun z=>Bl hK hX R h z k) (fun z=>Bo hK hX R h z k)
instance {K:zn}[hk:mf C K]{S:i8}:GS C (dq K S) E0 (Px S fun _=>False):=⟨fun R h hd k=>Bp hk.eq (fun c H' hc _=>hc.elim) R h hd k⟩
end
section
variable {W:Wd}{Q:DK}{S:i8}{vs:List DV}{ds:wP}
theorem ES(D:Addr->Prop)(hp:∀ a c,D a->W a=some c->c.plain=true)(h:S vs (nE W D) (fun dv W'=>(∀ a,W' a≠none->D a\/W a=none)->Q dv (yF W D W')) X):Px S X vs W Q:=.inl ⟨D,hp,h⟩
end
end L2
namespace L2
open PySem PySem.Spec PyProof.Rows
end L2
namespace L2
open PySem PySem.Spec PyProof.Rows
variable {α:Type}{a:Addr}{x:Addr×Cell}{xs:Array Nat}{es:Array (Int×Value)}{t:SetTable}
abbrev Ws:=List (Addr×Cell)
structure At(W:Wd)(L:Ws):Prop where
 nd:(L.map (·.1)).Nodup
 at_:∀ x∈L,W x.1=some x.2
def PlainL(L:Ws):Bool:=L.all fun x=>x.2.plain
theorem yH{l:List α}{a:α}(h:l.Nodup)(ha:a ∉ l)(i:Nat):(l.set i a).Nodup:=by
 have pw:=abI.mp h;refine abI.mpr fun j k hj hk hl=>?_;rw[ac6,ac6];rw[acI]at hj hk;split
 ·split
  ·omega
  ·exact fun z=>ha (z▸aa8 _)
 ·split
  ·exact fun z=>ha (z▸aa8 _)
  ·exact pw j k hj hk hl
section
variable {W W':Wd}{L L':Ws}{c c':Cell}{i:Nat}
theorem At.get(h:At W L)(i:Nat)(e:L[i]?=some (a,c)):W a=some c:=h.at_ _ (abe e)
theorem At.key(h:At W L)(i:Nat)(e:L[i]?=some (a,c)){j:Nat}(ej:L[j]?=some x)(ne:i≠j):x.1≠a:=fun z=>by
 have hi:=(aal.mp e).1;have hj:=(aal.mp ej).1;have e1:(L.map (·.1))[i]'(by simpa using hi)=a:=by rw[acA,(aal.mp e).2]
 have e2:(L.map (·.1))[j]'(by simpa using hj)=a:=by rw[acA,(aal.mp ej).2];exact z
 have pw:=abI.mp h.nd;rcases Nat.lt_or_gt_of_ne ne with l | l
 ·exact pw i j (by simpa using hi) (by simpa using hj) l (e1.trans e2.symm)
 ·exact pw j i (by simpa using hj) (by simpa using hi) l (e2.trans e1.symm)
theorem Bq(e:L[i]?=some (a,c)):(L.set i (a,c')).map (·.1)=L.map (·.1):=by
 rw[ab3];have hi:=(aal.mp e).1;have e1:(L.map (·.1))[i]'(by simpa using hi)=a:=by rw[acA,(aal.mp e).2]
 exact ac7 (by simp) fun j h1 h2=>by
  rw[ac6];split
  ·rename_i z;subst z;exact e1.symm
  ·rfl
theorem At.gm(h:At W L)(i:Nat)(e:L[i]?=some (a,c))(f:Fr a W W')(w:W' a=some c'):At W' (L.set i (a,c')):=by
 refine⟨by rw[Bq e];exact h.nd,fun x hx=>?_⟩;obtain⟨j,hj⟩:=acD hx;rw[List.getElem?_set]at hj;split at hj
 ·split at hj
  ·cases hj;exact w
  ·cases hj
 ·rename_i ne;exact f.at (h.key i e hj ne) (h.at_ _ (abe hj))
theorem At.set(h:At W L)(i:Nat)(e:L[i]?=some (a,c)):At (aG W a c') (L.set i (a,c')):=h.gm i e (fun b hb=>aA hb) ar
theorem At.old(h:At W L)(hn:W a=none)(hx:x∈L):x.1≠a:=fun z=>by
 have:=h.at_ x hx;rw[z,hn]at this;cases this
theorem At.mono(h:At W L)(k:∀ x∈L,W x.1=some x.2->W' x.1=some x.2):At W' L:=⟨h.nd,fun x hx=>k x hx (h.at_ x hx)⟩
theorem At.cons(h:At W L)(hn:W a=none)(f:Fr a W W')(w:W' a=some c):At W' ((a,c)::L) :=
 ⟨ab1.mpr ⟨fun z=>by obtain⟨x,hx,e⟩:=abg.mp z;exact h.old hn hx e,h.nd⟩,fun x hx=>by
  rcases aaf.mp hx with z | z
  ·subst z;exact w
  ·exact f.at (h.old hn z) (h.at_ x z)⟩
theorem At.perm(h:At W L)(s:L.Perm L'):At W L':=⟨(s.map _).nodup h.nd,fun x hx=>h.at_ x (s.mem_iff.mpr hx)⟩
theorem At.swap(h:At W L)(i:Nat)(hn:W a=none)(f:Fr a W W')(w:W' a=some c):At W' (L.set i (a,c)):=by
 refine⟨?_,fun x hx=>?_⟩
 ·rw[ab3];have WZ:a ∉ L.map (·.1):=fun z=>by obtain⟨x,hx,e⟩:=abg.mp z;exact h.old hn hx e
  exact yH h.nd WZ i
 ·rcases acd hx with z | z
  ·exact f.at (h.old hn z) (h.at_ x z)
  ·subst z;exact w
theorem At.nE(h:At W L):At (nE W fun z=>z∈L.map (·.1)) L:=h.mono fun x hx e=>(JZ (D:=fun z=>z∈L.map (·.1)) (abg.mpr ⟨x,hx,rfl⟩)).trans e
theorem oF(h:PlainL L=true)(hx:x∈L):x.2.plain=true:=aa7.mp h x hx
end
section
variable {W:Wd}{Q:DK}{S:i8}{X:Addr->Prop}{vs:List DV}{L:Ws}
theorem bE(h:At W L)(lL:PlainL L=true)(k:∀(W1:Wd) (R:DV->Wd->Prop),At W1 L->(∀ dv W',(∀ W2,(∀ L',At W' L'->PlainL L'=true->At W2 L')->(∀ a c,a ∉ L.map (·.1)->W a=some c->W2 a=some c)->Q dv W2)->R dv W')->S vs W1 R X):Px S X vs W Q:=by
 refine ES (fun z=>z∈L.map (·.1)) (fun a c ha e=>?_) (k _ _ h.nE fun dv W' g hW=>?_)
 ·obtain⟨x,hx,rfl⟩:=abg.mp ha;have:=h.at_ x hx;rw[e]at this;rw[aaF this];exact oF lL hx
 ·exact g _ (fun L' hL hp=>hL.mono fun x hx e=>J0 e (oF hp hx)) fun a c ha e=>sv hW ha e
structure eU(K:zn)(k:Addr)(fs:ww):Prop where
 c:kL K k
 n:∀ f,f∈fs->bO K k f
variable {K:zn}{k p d:Addr}{fs:List (Str×DV)}{ns:ww}{f m:Str}{v:DV}{i:Nat}
theorem J5{B:DV->Prop}(h:At W L)(c:eU K k ns)(i:Nat)(e:L[i]?=some (p,.ob k d fs))(n:f∈ns)(l:fs.lookup f=some v)(hq:B v):∃ p' k d fs v,DV.pt p=.pt p'/\W p'=some (.ob k d fs)/\kL K k/\bO K k f/\fs.lookup f=some v/\B v:=⟨p,k,d,fs,v,rfl,h.get i e,c.c,c.n f n,l,hq⟩
theorem qa{Pr:Wd->Prop}(h:At W L)(c:eU K k ns)(i:Nat)(e:L[i]?=some (p,.ob k d fs))(n:f∈ns)(hl:fs.length < 1000)(hq:∀ W',At W' (L.set i (p,.ob k d (putD f v fs)))->Fr p W W'->Pr W'):∃ p' k d fs,DV.pt p=.pt p'/\W p'=some (.ob k d fs)/\kL K k/\bO K k f/\fs.length < 1000/\Pr (aG W p' (.ob k d (putD f v fs))) :=
 ⟨p,k,d,fs,rfl,h.get i e,c.c,c.n f n,hl,hq _ (h.set i e) fun b hb=>aA hb⟩
theorem ET{kC:Addr}{Pr:Prop}(h:At W L)(i:Nat)(e:L[i]?=some (p,.ob kC d fs))(l:fs.lookup m=none)(hq:Pr):∃ p' d fs,DV.pt p=.pt p'/\W p'=some (.ob kC d fs)/\fs.lookup m=none/\Pr:=⟨p,d,fs,rfl,h.get i e,l,hq⟩
end
section
variable {K:zn}{f:Str}{da dv:cq}{dr:pK}{ρ:bD}{W:Wd}{r:ju}{nx ct bk:bD->Wd->Prop}{rt:DV->Wd->Prop}
theorem J6(h:xq K f da dv ⟨r ⟨nx,rt,bk,ct⟩,rt,bk,ct⟩ ρ W):cm (xq K f da dv) r ⟨nx,rt,bk,ct⟩ ρ W:=h
theorem EU(h:pZ K f dr da dv ⟨r ⟨nx,rt,bk,ct⟩,rt,bk,ct⟩ ρ W):cm (pZ K f dr da dv) r ⟨nx,rt,bk,ct⟩ ρ W:=h
theorem EV(h:dv ρ W fun y W1=>da ρ W1 fun a W2=>∃ p k d fs,a=.pt p/\W2 p=some (.ob k d fs)/\kL K k/\bO K k f/\fs.length < 1000/\nx ρ (aG W2 p (.ob k d (putD f y fs)))):xq K f da dv ⟨nx,rt,bk,ct⟩ ρ W:=h
theorem Br(h:da ρ W fun a W1=>∃ p k d fs v,a=.pt p/\W1 p=some (.ob k d fs)/\kL K k/\bO K k f/\fs.lookup f=some v /\
 dv ρ W1 fun y W2=>dr v y W2 fun z W3=>∃ d' eW,W3 p=some (.ob k d' eW)/\eW.length < 1000/\nx ρ (aG W3 p (.ob k d' (putD f z eW)))):pZ K f dr da dv ⟨nx,rt,bk,ct⟩ ρ W:=h
end
section
variable {W:Wd}{Q:DK}{ρ:bD}{ds:wP}{g:pP}{c:md}{b:ju}{nx bk ct:bD->Wd->Prop}{rt:DV->Wd->Prop}
theorem lx{kp:Wd->Prop}{e:cq}(Pv:Nat->List DV->Wd->Prop)(hk:ds.length<=sizeLine)(h0:Pv 0 [] W)(Xa:∀ i ys W,Pv i ys W->kp W)(hs:∀ i d ys W,ds[i]?=some d->ys.length<=i->Pv i ys W->g (.im d) ρ W fun ip W2=>c ip W2 fun b W3=>if b=true then e ip W3 fun y W4=>Pv (i+1) (ys++[y]) W4 else Pv (i+1) ys W3)(hd:∀ ys W,Pv ds.length ys W->iU ys W Q) :
  sf ⟨ds.map .im,kp⟩ g c e ρ W Q:=by
 refine⟨by simpa using hk,Pv,h0,Xa,fun i v ys W e hl p=>?_,fun ys W q=>hd ys W (by simpa using q)⟩;rw[aag]at e;cases q:ds[i]? with
 | none=>rw[q]at e;cases e
 | some d=>rw[q]at e;cases e;exact hs i d ys W q hl p
end
theorem mr:∀{us:wf} {ns:wn},IntsAre us ns->Vals (ns.map V.int) us
 | _,_,.nil=>.nil
 | _,_,.cons n t r=>.cons ⟨t,rfl⟩ (mr r)
theorem sx{C:DC}{F:Hp}:∀{ns:wn} {xs:List V},aD C F (ns.map fun i=>.im (.int i)) xs↔xs=ns.map V.int
 | [],xs=>Iff.rfl
 | n::ns,xs=>by
  constructor
  ·rintro⟨y,ys,rfl,h,r⟩;rw[sx.mp r];cases (show y=V.int n from h);rfl
  ·rintro rfl;exact⟨_,_,rfl,rfl,sx.mpr rfl⟩
namespace St
theorem oG:Slot "set" "__iter__" "set.__iter__":=PySem.F.slot_set_iter
theorem u5:entryFor table "set.__iter__"=some Builtin.«frozenset.__iter__» :=
 entryFor_alias (id' := "frozenset.__iter__") (by kernel_rfl) rfl (by decide +kernel) (by kernel_rfl)
theorem slot_next:Slot "set_iterator" "__next__" "set_iterator.__next__" :=
 .of (owner := "set_iterator") (n := "__next__") (by rw[typeLookup_type,builtinLookup_eq_fast];kernel_rfl) (by decide +kernel) (by decide +kernel) (by decide +kernel)
  (by first | exact .inl (by decide +kernel) | exact .inr (by decide +kernel)) (by rw[isSubtype_type];kernel_rfl)
theorem entry_next:entryFor table "set_iterator.__next__"=some Builtin.«set_iterator.__next__»:=entryFor_of_tree (by kernel_rfl)
theorem sy:Manifest.owners.lookup (String.ofList ['r','o','t','a','r','e','t','i','_','t','e','s'].reverse)=some Manifest.sig_set_iterator:=by kernel_rfl
theorem args_next(a:Value):argsOk "set_iterator.__next__" ⟨[a],[]⟩:=by
 unfold argsOk;rw[signature?_of (id := "set_iterator.__next__") (n:=['_','_','t','x','e','n','_','_']) (o:=['r','o','t','a','r','e','t','i','_','t','e','s']) (by kernel_rfl) sy];kernel_rfl
theorem slot_self:Slot "set_iterator" "__iter__" "set_iterator.__iter__" :=
 .of (owner := "set_iterator") (n := "__iter__") (by rw[typeLookup_type,builtinLookup_eq_fast];kernel_rfl) (by decide +kernel) (by decide +kernel) (by decide +kernel)
  (by first | exact .inl (by decide +kernel) | exact .inr (by decide +kernel)) (by rw[isSubtype_type];kernel_rfl)
theorem entry_self:entryFor table "set_iterator.__iter__"=some Builtin.«dict_keyiterator.__iter__» :=
 entryFor_alias (id' := "dict_keyiterator.__iter__") (by kernel_rfl) rfl (by decide +kernel) (by kernel_rfl)
theorem args_self(a:Value):argsOk "set_iterator.__iter__" ⟨[a],[]⟩:=by
 unfold argsOk;rw[signature?_of (id := "set_iterator.__iter__") (n:=['_','_','r','e','t','i','_','_']) (o:=['r','o','t','a','r','e','t','i','_','t','e','s']) (by kernel_rfl) sy];kernel_rfl
end St
def J7(es:Array (Int×Value))(t:SetTable):Bool:=!t.plain&&es.size > 1
def bQ(xs:Array Nat):Prop:=∀ i j (hi:i < xs.size) (hj:j < xs.size),i < j->xs[i] < xs[j]
theorem mw(xs:Array Nat)(j:Nat)(hr:bQ xs):∀(fuel lo hi:Nat),lo<=hi->hi<=xs.size->hi - lo<=fuel->(∀ k (hk:k < xs.size),k < lo->xs[k] < j)->(∀ k (hk:k < xs.size),hi<=k->j<=xs[k]) ->
  SetTable.below.go xs j fuel lo hi<=xs.size/\(∀ k (hk:k < xs.size),k < SetTable.below.go xs j fuel lo hi->xs[k] < j)/\∀ k (hk:k < xs.size),SetTable.below.go xs j fuel lo hi<=k->j<=xs[k]
 | 0,lo,hi,h1,h2,h3,h4,h5=>by
  have:lo=hi:=by omega
  subst this;unfold SetTable.below.go;exact⟨h2,h4,h5⟩
 | fuel+1,lo,hi,h1,h2,h3,h4,h5=>by
  unfold SetTable.below.go
  by_cases h:lo < hi
  ·rw[aau h];have hm:(lo+hi) / 2 < xs.size:=by omega
   have e:xs.getD ((lo+hi) / 2) j=xs[(lo+hi) / 2]:=by simp[Array.getD,hm]
   dsimp only;rw[e]
   by_cases hx:xs[(lo+hi) / 2] < j
   ·rw[aau hx];refine mw xs j hr fuel _ _ (by omega) h2 (by omega) (fun k hk hl=>?_) h5
    by_cases Oe:k=(lo+hi) / 2
    ·subst Oe;exact hx
    ·exact Nat.lt_trans (hr k _ hk hm (by omega)) hx
   ·rw[aao hx];refine mw xs j hr fuel _ _ (by omega) (by omega) (by omega) h4 fun k hk hl=>?_
    by_cases Oe:k=(lo+hi) / 2
    ·subst Oe;omega
    ·have:=hr _ k hm hk (by omega);omega
  ·rw[aao h];have:lo=hi:=by omega
   subst this;exact⟨h2,h4,h5⟩
theorem gL(j:Nat)(hr:bQ xs):SetTable.below xs j<=xs.size/\(∀ k (hk:k < xs.size),k < SetTable.below xs j->xs[k] < j)/\∀ k (hk:k < xs.size),SetTable.below xs j<=k->j<=xs[k]:=by
 unfold SetTable.below;exact mw xs j hr _ _ _ (aaJ _) (aae _) (by omega) (fun k _ h=>absurd h (Nat.not_lt_zero _)) fun k hk h=>absurd hk (by omega)
theorem u7(hr:bQ xs):SetTable.below xs 0=0:=by
 obtain⟨h1,h2,_⟩:=gL 0 hr;rcases Nat.eq_zero_or_pos (SetTable.below xs 0)with h | h
 ·exact h
 ·exact absurd (h2 0 (by omega) h) (Nat.not_lt_zero _)
theorem u9(hr:bQ xs){i:Nat}(hi:i < xs.size):SetTable.below xs (xs[i]+1)=i+1:=by
 obtain⟨h1,h2,h3⟩:=gL (xs[i]+1) hr;rcases Nat.lt_trichotomy (SetTable.below xs (xs[i]+1)) (i+1)with h | h | h
 ·have:=h3 i hi (by omega);omega
 ·exact h
 ·have ha:=h2 (i+1) (by omega) h;have hb:=hr i (i+1) hi (by omega) (by omega);omega
theorem i9{α:Type}:∀{l:List α} {i:Nat} (h:i < l.length),(l[i]::l.eraseIdx i).Perm l
 | x::r,0,_=>acu _
 | x::r,i+1,h=>by
  rw[List.getElem_cons_succ,List.eraseIdx_cons_succ];exact(List.Perm.swap ..).trans ((i9 (Nat.lt_of_succ_lt_succ h)).cons _)
theorem xt{α:Type}(next:Nat->Nat):∀(fuel k:Nat) (left:List α) (out:Array α),left.length<=fuel->(pickOrder.go next fuel k left out).toList.Perm (out.toList++left)
 | 0,k,left,out,h=>by
  have:left=[]:=abp.mp (by omega);subst this;unfold pickOrder.go;simp
 | fuel+1,k,left,out,h=>by
  unfold pickOrder.go;cases hl:left with
  | nil=>simp
  | cons x r =>
   rw[<- hl];have hp:0 < left.length:=by rw[hl];simp
   have hi:next k % left.length < left.length:=Nat.mod_lt _ hp
   rw[aak hi];dsimp only;have ih:=xt next fuel (k+1) (left.eraseIdx (next k % left.length)) (out.push left[next k % left.length]) (by rw[List.length_eraseIdx];split<;>omega)
   refine ih.trans ?_;rw[Array.toList_push,abO];refine List.Perm.append_left _ ?_;exact i9 hi
theorem mx(next:Nat->Nat)(xs:Array α):(pickOrder next xs).toList.Perm xs.toList:=by
 have:=xt next xs.size 0 xs.toList #[] (by simp)
 simpa [pickOrder] using this
section
variable {prog:tz}{w:World}{A:t0}{E:xz}{s:Shared}
theorem wp_choose{src:Source}{n:Nat}{Q:Nat->Shared->Prop}(hn:n≠0)(h:∀ k,k < n->Q k { s with drawn:=s.drawn.bump src }):wpAny (model prog w) A (choose src n) Q E s:=fun _ _ _ =>
 ⟨hn,h _ (Nat.mod_lt _ (Nat.pos_of_ne_zero hn))⟩
theorem jz{α:Type}:∀(n:Nat) (xs:List α) (s:Shared) {Q:List α->Shared->Prop},n=xs.length->(∀ ys d,ys.Perm xs->Q ys { s with drawn:=d })->wpAny (model prog w) A (drawOrder n xs) Q E s
 | 0,xs,s,Q,hn,h=>by
  have:xs=[]:=abp.mp hn.symm;subst this;exact aad (h [] s.drawn (acu _))
 | n+1,[],s,Q,hn,h=>by simp at hn
 | n+1,x::r,s,Q,hn,h=>by
  unfold drawOrder;refine aaa (wp_choose (by simp) fun k hk=>?_);rw[aak hk];dsimp only;refine aaa (jz n _ _ (by rw[List.length_eraseIdx,aau hk];simp at hn ⊢;omega) fun ys d hp=>aad ?_);refine h _ d ?_;exact(hp.cons _).trans (i9 hk)
theorem jZ{Q:Bool->Shared->Prop}(h:Q (w.params.followText "set-order") s):wpAny (model prog w) A setsByText Q E s:=by
 unfold setsByText;exact aaa (wpAny_askSetting (aad h))
end
structure cQ(bt:Bool)(h:Heap)(a:Addr)(es:Array (Int×Value))(ep:Nat)(t:SetTable):Prop where
 ob:∃ o,h.get? a=some o/\o.ExactSet/\o.data=.set es ep t
 fits:t.fits es.size=true
 led:t.led=!bt
 up:bQ t.place
theorem cQ.keep{bt:Bool}{h h':Heap}{ep:Nat}(x:cQ bt h a es ep t)(k:∀ o,h.get? a=some o->h'.get? a=some o):cQ bt h' a es ep t :=
 ⟨let ⟨o,ho,r⟩:=x.ob;⟨o,k o ho,r⟩,x.fits,x.led,x.up⟩
theorem cQ.sz{bt:Bool}{h:Heap}{ep:Nat}(x:cQ bt h a es ep t):t.place.size=es.size:=by
 have:=x.fits;simp only[SetTable.fits,aas,abT]at this;exact this.1
theorem cQ.typeIs{bt:Bool}{s:Shared}{ep:Nat}(x:cQ bt s.heap a es ep t):s.TypeIs (.ref a) "set":=let ⟨o,ho,r,_⟩:=x.ob;⟨o,ho,r.1⟩
end L2
namespace L2
open PySem PySem.Spec PyProof.Rows
variable {prog:tz}{w:World}{A:t0}{E Q:xz}{s:Shared}{I a tp:Addr}{es:Array (Int×Value)}{ep:Nat}{t:SetTable}{ord:List (Int×Value)}{h h':Heap}{ns:wn}{C:DC}
def Mode(w:World)(h:Heap)(a tp:Addr)(es:Array (Int×Value))(ep:Nat)(t:SetTable)(ord:List (Int×Value))(i:Nat)(first:Value):Prop :=
 (w.params.followText "set-order"=true/\first=.int 0 0/\ord=(pickOrder (w.params.setOrder a ep) es).toList) \/
 (w.params.followText "set-order"=false/\J7 es t=false/\ord=es.toList/\∃ slot:Nat,first=.int slot 0/\SetTable.below t.place slot=i) \/
 (w.params.followText "set-order"=false/\∃(ps:List Nat) (c:Nat),first=.ref tp/\h.get? tp=some (seqObj "tuple" (ps.map fun(n:Nat)=>rawInt n).toArray c)/\ps.map (fun k=>es[k]?)=ord.map some)
structure dB(w:World)(h:Heap)(I a tp:Addr)(es:Array (Int×Value))(ep:Nat)(t:SetTable)(ord:List (Int×Value))(i:Nat):Prop where
 so:cQ (w.params.followText "set-order") h a es ep t
 it:∃ o first,h.get? I=some o/\o.cls=.type "set_iterator"/\o.data=.fields #[first,.int i 0,.ref a,.int es.size 0,.int ep 0]/\Mode w h a tp es ep t ord i first
 ne:a≠I/\tp≠I
 pm:ord.Perm es.toList
theorem dB.typeIs{i:Nat}(x:dB w s.heap I a tp es ep t ord i):s.TypeIs (.ref I) "set_iterator":=let ⟨o,_,ho,hc,_⟩:=x.it;⟨o,ho,hc⟩
theorem Mode.keep{i:Nat}{f:Value}(x:Mode w h a tp es ep t ord i f)(k:∀ o,h.get? tp=some o->h'.get? tp=some o):Mode w h' a tp es ep t ord i f:=by
 rcases x with x | x | ⟨b,ps,c,e1,e2,e3⟩
 ·exact .inl x
 ·exact .inr (.inl x)
 ·exact .inr (.inr ⟨b,ps,c,e1,k _ e2,e3⟩)
theorem eM{bt:Bool}{Q:(Array (Int×Value)×Nat×SetTable)->Shared->Prop}(x:cQ bt s.heap a es ep t)(h:Q (es,ep,t) s):wpAny (model prog w) A (setState a) Q E s :=
 let ⟨_,ho,_,hd⟩:=x.ob;wpAny_setState_of ho hd x.fits h
theorem vb{Q:Array (Int×Value)->Shared->Prop}(x:cQ (w.params.followText "set-order") s.heap a es ep t)(hb:w.params.followText "set-order"=true)(hQ:Q (pickOrder (w.params.setOrder a ep) es) s):wpAny (model prog w) A (setWalk a) Q E s:=by
 unfold setWalk;refine aaa (eM x (aaa (jZ (abc (fun _=>aaa (wpAny_askSetting (aad hQ))) fun z=>absurd hb z))))
theorem my{I:Addr}{i:Nat}{n:Nat}{Q:Option (Value×Nat)->Shared->Prop}(x:cQ (w.params.followText "set-order") s.heap a es ep t)(hm:Mode w s.heap a tp es ep t ord i (.int n 0))(hQ:∀ m:Nat,(∀ e,ord[i]?=some e->Mode w s.heap a tp es ep t ord (i+1) (.int m 0))->Q (ord[i]?.map fun e=>(e.2,m)) s):wpAny (model prog w) A (setNext a n i ep) Q E s:=by
 unfold setNext;refine aaa (eM x (aaa (jZ ?_)));rcases hm with⟨hb,hf,jh⟩ | ⟨hb,Py,jh,slot,hf,zv⟩ | ⟨hb,ps,c,hf,J8,Bs⟩
 ·cases hf;refine abc (fun _=>?_) fun z=>absurd hb z;refine abc (fun z=>absurd z (by simp)) fun _=>aaa (vb x hb (aad ?_));have:=hQ 0 fun e he=>.inl ⟨hb,rfl,jh⟩;rw[jh,abC]at this;exact this
 ·have hn:slot=n:=by have:=(Value.int.inj hf).1;omega
  subst hn;refine abc (fun z=>by rw[hb]at z;cases z) fun _=>abc (fun z=>absurd (show J7 es t=true from z) (by rw[Py];decide)) fun _=>?_;refine aaa ?_
  wp_delta
  refine abc (fun z=>absurd z (by rw[x.led,hb];simp)) fun _=>aad ?_;dsimp only;rw[zv]
  by_cases gn:i < es.size
  ·have hp:i < t.place.size:=by rw[x.sz];exact gn
   rw[aa4 gn,aa4 hp];have e1:ord[i]?=some es[i]:=by rw[jh,abC,aa4 gn]
   have:=hQ (t.place[i]+1) fun e he=>.inr (.inl ⟨hb,Py,jh,_,rfl,u9 x.up hp⟩);rw[e1]at this;exact aad this
  ·rw[Array.getElem?_eq_none (by omega)];have e1:ord[i]?=none:=by rw[jh,abC,Array.getElem?_eq_none (by omega)]
   have:=hQ 0 fun e he=>by rw[e1]at he;cases he
   rw[e1]at this;exact aad this
 ·cases hf
theorem next_item{i:Nat}{e:Int×Value}{Q:wS->Shared->Prop}(x:dB w s.heap I a tp es ep t ord i)(hi:ord[i]?=some e)(hQ:∀ h',dB w h' I a tp es ep t ord (i+1)->Heap.SameBut I s.heap h'->Q (some e.2) { s with heap:=h' }):wpAny (model prog w) A (pyNext (.ref I)) Q E s:=by
 obtain⟨o,first,ho,hc,hd,hm⟩:=x.it;have key:∀(h':Heap) (o':Obj) (f':Value),Heap.SameBut I s.heap h'->h'.get? I=some o'->o'.cls=.type "set_iterator"->o'.data=.fields #[f',.int ((i+1:Nat):Int) 0,.ref a,.int es.size 0,.int ep 0]->Mode w s.heap a tp es ep t ord (i+1) f'->dB w h' I a tp es ep t ord (i+1) :=
  fun h' o' f' sb h1 h2 h3 h4=>⟨x.so.keep fun o e=>sb.extBut a o x.ne.1 e,⟨o',f',h1,h2,h3,h4.keep fun o e=>sb.extBut tp o x.ne.2 e⟩,x.ne,x.pm⟩
 unfold pyNext;refine aaa (ac2 (aa1 (name:=Str.ofString "__next__") x.typeIs St.slot_next
  (aa6 St.slot_next x.typeIs St.entry_next ?_ (St.args_next _))))
 unfold Builtin.«set_iterator.__next__»;refine aaa (aad ?_);refine aaa (wpAny_fieldsOf ho hd ?_);dsimp only;unfold setEntries;refine aaa (aaa (eM x.so (aad ?_)));rw[aao (by simp)];have Bt:∀ n:Nat,first=.int n 0->wpAny (model prog w) A.in1 (do
    let aZ <- setNext a (Int.toNat n) (Int.toNat i) (Int.toNat ep)
    match aZ with
     | some (x,next)=>do
      setField (Value.ref I) 0 (rawInt ↑next)
      setField (Value.ref I) 1 (rawInt (↑i+1))
      ret x
     | none=>do
      setField (Value.ref I) 2 Value.none
      let aZ <- newExc (Value.type "StopIteration") []
      raiseNew aZ)
   (fun fin s'=>∃ v,fin=PySem.Fin.done (Flow.ret v)/\wpAny (model prog w) A (pure (some v)) Q E s')
   (fun e s'=>wpAny (model prog w) A (do
     let aZ <- isInstance e (Value.type "StopIteration")
     if aZ=true then pure none else throw e) Q E s') s:=by
  rintro n rfl;rw[aay,aay,aay];refine aaa (my (I:=I) x.so hm fun m Lb=>?_);rw[hi];dsimp only[Option.map];refine aaa (abH ho hd (by simp) ?_);have g1:(s.heap.update I (Obj.mapFields (·.setIfInBounds 0 (rawInt (m:Int))))).get? I=some _:=aaV _ ho (abD (aaT hd _));refine aaa (abH g1 (aaT hd _) (by simp) ?_);refine aad ⟨_,rfl,aad (hQ _ (key _ _ (.int m 0) ?_ (aaV _ g1 (abD (aaT (aaT hd _) _))) ?_ ?_ (Lb e hi)) ?_)⟩
  ·exact(aaI ..).trans (aaI ..)
  ·exact(acr ..).trans ((acr ..).trans hc)
  ·rw[aaT (aaT hd _)];simp[rawInt]
  ·exact(aaI ..).trans (aaI ..)
 rcases id hm with⟨hb,hf,jh⟩ | ⟨hb,Py,jh,slot,hf,zv⟩ | ⟨hb,ps,c,hf,J8,Bs⟩
 ·rw[hf];exact Bt 0 hf
 ·rw[hf];exact Bt slot hf
 ·subst hf;dsimp only;have ls:=abz List.length Bs;rw[aab,aab]at ls;have gn:=(aal.mp hi).1;have RN:i < ps.length:=by omega
  have he:es[ps[i]]?=some e:=by
   have h1:(ps.map fun k=>es[k]?)[i]?=(ord.map some)[i]?:=by rw[Bs]
   rw[aag,aag,hi,aak RN]at h1;simpa using h1
  unfold seqItems?;refine aaa (aaa (wpAny_load J8 (aad ?_)));dsimp only;rw[aay];rw[show(ps.map fun(n:Nat)=>rawInt (n:Int)).toArray[i]?=some (rawInt (ps[i]:Int)) by simp[RN]];dsimp only[rawInt];unfold setNextDrawn;refine aaa (aaa (eM x.so ?_));dsimp only;rw[aao (by simp),aay,he];refine aad ?_;refine aaa (abH ho hd (by simp) ?_);refine aad ⟨_,rfl,aad (hQ _ (key _ _ (.ref tp) (aaI ..) (aaV _ ho (abD (aaT hd _))) ((acr ..).trans hc) ?_ (.inr (.inr ⟨hb,ps,c,rfl,J8,Bs⟩))) (aaI ..))⟩;rw[aaT hd];simp[rawInt]
theorem mz{Q:wS->Shared->Prop}(hh:A.handled=none)(eb:Heap.ExtBut I s.heap h')(hQ:∀ h',Heap.ExtBut I s.heap h'->Q none { s with heap:=h' }):wpAny (model prog w) A.in1 (do
      let aZ <- newExc (Value.type "StopIteration") []
      (raiseNew aZ:Sem PySem.Fin))
   (fun fin s'=>∃ v,fin=PySem.Fin.done (Flow.ret v)/\wpAny (model prog w) A (pure (some v)) Q E s')
   (fun e s'=>wpAny (model prog w) A (do
     let aZ <- isInstance e (Value.type "StopIteration")
     if aZ=true then pure none else throw e) Q E s') { s with heap:=h' }:=by
 refine aaa ?_;simp only[newExc,newTuple];refine aaa (aaX ?_ (by size_fits));refine aaa (m:=firstArgMember _ _) (wpAny_of_eq (a:=Value.none) (by first | rfl | (simp only[firstArgMember];rfl)) ?_);refine aaX ?_ (by size_fits);simp only[raiseNew];refine aaa (wpAny_handled ?_);rw[show A.in1.handled=none from hh];refine aaa (aad (wpAny_throw ?_));refine aaa (wpAny_isInstance (T := "StopIteration") (b:=true) ⟨_,aai _ rfl,rfl⟩ isSubtype_stop ?_);exact aad (hQ _ ((eb.push _).push _))
theorem next_end{i:Nat}{Q:wS->Shared->Prop}(hh:A.handled=none)(x:dB w s.heap I a tp es ep t ord i)(hi:ord[i]?=none)(hQ:∀ h',Heap.ExtBut I s.heap h'->Q none { s with heap:=h' }):wpAny (model prog w) A (pyNext (.ref I)) Q E s:=by
 obtain⟨o,first,ho,hc,hd,hm⟩:=x.it;unfold pyNext;refine aaa (ac2 (aa1 (name:=Str.ofString "__next__") x.typeIs St.slot_next
  (aa6 St.slot_next x.typeIs St.entry_next ?_ (St.args_next _))))
 unfold Builtin.«set_iterator.__next__»;refine aaa (aad ?_);refine aaa (wpAny_fieldsOf ho hd ?_);dsimp only;unfold setEntries;refine aaa (aaa (eM x.so (aad ?_)));rw[aao (by simp)];have Bt:∀ n:Nat,first=.int n 0->wpAny (model prog w) A.in1 (do
    let aZ <- setNext a (Int.toNat n) (Int.toNat i) (Int.toNat ep)
    match aZ with
     | some (x,next)=>do
      setField (Value.ref I) 0 (rawInt ↑next)
      setField (Value.ref I) 1 (rawInt (↑i+1))
      ret x
     | none=>do
      setField (Value.ref I) 2 Value.none
      let aZ <- newExc (Value.type "StopIteration") []
      raiseNew aZ)
   (fun fin s'=>∃ v,fin=PySem.Fin.done (Flow.ret v)/\wpAny (model prog w) A (pure (some v)) Q E s')
   (fun e s'=>wpAny (model prog w) A (do
     let aZ <- isInstance e (Value.type "StopIteration")
     if aZ=true then pure none else throw e) Q E s') s:=by
  rintro n rfl;rw[aay,aay,aay];refine aaa (my (I:=I) x.so hm fun m Lb=>?_);rw[hi];dsimp only[Option.map];refine aaa (abH ho hd (by simp) ?_);exact mz hh (aaI ..).extBut hQ
 rcases id hm with⟨hb,hf,jh⟩ | ⟨hb,Py,jh,slot,hf,zv⟩ | ⟨hb,ps,c,hf,J8,Bs⟩
 ·rw[hf];exact Bt 0 hf
 ·rw[hf];exact Bt slot hf
 ·subst hf;dsimp only;have ls:=abz List.length Bs;rw[aab,aab]at ls;have hge:=List.getElem?_eq_none_iff.mp hi;unfold seqItems?;refine aaa (aaa (wpAny_load J8 (aad ?_)));dsimp only;rw[aay];rw[show(ps.map fun(n:Nat)=>rawInt (n:Int)).toArray[i]?=none by simp;omega];dsimp only;refine aaa (abH ho hd (by simp) ?_);have g1:(s.heap.update I (Obj.mapFields (·.setIfInBounds 0 (rawInt 0)))).get? I=some _:=aaV _ ho (abD (aaT hd _));refine aaa (abH g1 (aaT hd _) (by simp) ?_);have e1:Heap.SameBut I s.heap (s.heap.update I (Obj.mapFields (·.setIfInBounds 0 (rawInt 0)))):=aaI ..;have e2:Heap.SameBut I (s.heap.update I (Obj.mapFields (·.setIfInBounds 0 (rawInt 0)))) ((s.heap.update I (Obj.mapFields (·.setIfInBounds 0 (rawInt 0)))).update I (Obj.mapFields (·.setIfInBounds 2 Value.none))):=aaI ..;exact mz (s:=s) hh (e1.trans e2).extBut hQ
theorem yI{i:Nat}(x:dB w s.heap I a tp es ep t ord i)(h:Q (.ref I) s):wpAny (model prog w) A (pyIter (.ref I)) Q E s:=by
 refine wpAny_pyIter_slot x.typeIs St.slot_self (aa6 St.slot_self x.typeIs St.entry_self ?_ (St.args_self _));show wpAny _ _ (ret (.ref I)) _ _ s;exact aad ⟨_,rfl, "set_iterator",_,x.typeIs,St.slot_next.lookup,h⟩
theorem dB.keep{h h':Heap}{I a tp:Addr}{es:Array (Int×Value)}{ep i:Nat}{t:SetTable}{ord:List (Int×Value)}(x:dB w h I a tp es ep t ord i)(k:∀ b∈[I,a,tp],∀ o,h.get? b=some o->h'.get? b=some o):dB w h' I a tp es ep t ord i :=
 ⟨x.so.keep fun o e=>k a (by simp) o e,let ⟨o,f,h1,h2,h3,h4⟩:=x.it;⟨o,f,k I (by simp) o h1,h2,h3,h4.keep fun o e=>k tp (by simp) o e⟩,x.ne,x.pm⟩
theorem yJ(hh:A.handled=none)(I a tp:Addr)(es:Array (Int×Value))(ep:Nat)(t:SetTable)(ord:List (Int×Value)) :
  Walks prog w A I [I,a,tp] [I] ord.length (fun i v=>∃ e,ord[i]?=some e/\v=e.2) (fun i h=>dB w h I a tp es ep t ord i) where
 sub:=fun b hb=>by simp at hb;simp[hb]
 frame:=fun _ _ _ st hk=>st.keep hk
 item:=fun i s Q E hi st hQ=>next_item st (aak hi) fun h' x' sb=>hQ _ h' s.toks ⟨_,aak hi,rfl⟩ x' fun b o hb e=>sb.extBut b o (fun h=>hb (by simp[h])) e
 done:=fun s Q E st hQ=>next_end hh st (List.getElem?_eq_none (aae _)) fun h' eb=>hQ h' s.toks fun b o hb e=>eb b o (fun h=>hb (by simp[h])) e
 self:=fun _ _ _ _ st hQ=>yI st hQ
theorem yK(x:cQ (w.params.followText "set-order") s.heap a es ep t)(hz:es.size<=sizeLine)(hQ:∀(h':Heap) (d:Drawn) (I tp:Addr) (ord:List (Int×Value)),(∀ b o,s.heap.get? b=some o->h'.get? b=some o)->s.heap.objs.size<=I->(tp=a\/s.heap.objs.size<=tp)->dB w h' I a tp es ep t ord 0->Q (.ref I) { s with heap:=h',drawn:=d }) :
  wpAny (model prog w) A (pyIter (.ref a)) Q E s:=by
 have gn:a < s.heap.objs.size:=let ⟨_,ho,_⟩:=x.ob;aah ho;refine wpAny_pyIter_slot x.typeIs St.oG (aa6 St.oG x.typeIs St.u5 ?_ (PySem.F.args_set_iter_1 _));unfold Builtin.«frozenset.__iter__»;refine aaa (m:=Builtin.Frozenset.slot0 _ _) (aaa (aad (aad ?_)));unfold Builtin.Frozenset.sizeOf setEntries;refine aaa (aaa (aaa (eM x (aad (aad ?_)))));unfold setDrawn;refine aaa (aaa (eM x (aaa (jZ (aad ?_)))));dsimp only;have g:∀(h1:Heap) (d:Drawn) (first:Value) (tp:Addr) (ord:List (Int×Value)),(∀ b o,s.heap.get? b=some o->h1.get? b=some o)->s.heap.objs.size<=h1.objs.size->(tp=a\/s.heap.objs.size<=tp)->tp < h1.objs.size->Mode w h1 a tp es ep t ord 0 first->ord.Perm es.toList ->
   wpAny (model prog w) A.in1 (do
     let aZ <- setEpoch a
     let aZ <- newFields "set_iterator" [first,rawInt 0,Value.ref a,rawInt ↑es.size,rawInt ↑aZ]
     (ret aZ:Sem PySem.Fin))
    (fun fin s'=>∃ v,fin=PySem.Fin.done (Flow.ret v)/\∃ T' r,s'.TypeIs v T'/\typeLookup (Value.type T') (Str.ofString "__next__")=pure (some r)/\Q v s') E { s with heap:=h1,drawn:=d }:=by
  intro h1 d first tp ord k1 wx ht Xb hm hp
  unfold setEpoch;refine aaa (aaa (eM (s:={ s with heap:=h1,drawn:=d }) (x.keep fun o e=>k1 a o e) (aad ?_)));refine aaa (aaX (aad ⟨_,rfl, "set_iterator",_,⟨_,aai _ rfl,rfl⟩,St.slot_next.lookup,?_⟩));refine hQ _ d h1.objs.size tp ord (fun b o e=>aac _ (k1 b o e)) wx ht ⟨x.keep fun o e=>aac _ (k1 a o e),⟨_,first,aai _ rfl,rfl,rfl,hm.keep fun o e=>aac _ e⟩,⟨aaD (aat gn wx),aaD Xb⟩,hp⟩
 cases hb:w.params.followText "set-order" with
 | true =>
  rw[aao (by simp)];refine aaa (aad ?_);exact g s.heap s.drawn _ a _ (fun b o e=>e) (aae _) (.inl rfl) gn (.inl ⟨hb,rfl,rfl⟩) (mx _ _)
 | false =>
  cases hd:J7 es t with
  | false =>
   rw[aao (by simp;exact hd)];refine aaa (aad ?_);exact g s.heap s.drawn _ a _ (fun b o e=>e) (aae _) (.inl rfl) gn (.inr (.inl ⟨hb,hd,rfl,0,rfl,u7 x.up⟩)) (acu _)
  | true =>
   rw[aau (by simp;exact hd)];refine aaa (jz _ _ _ (by simp) fun ps d hp=>?_);refine aaa (wpAny_newTuple ?_ (by rw[aab,hp.length_eq,List.length_range];exact hz));have hr:(List.range es.size).map (fun k=>es[k]?)=es.toList.map some:=by
    apply ac7 (by simp);intro i h1 h2;simp at h1 h2 ⊢
   have nL:∀ k∈ps,k < es.size:=fun k hk=>List.mem_range.mp (hp.mem_iff.mp hk);have RO:ps.map (fun k=>es[k]?)=(ps.filterMap fun k=>es[k]?).map some:=by
    clear hp;induction ps with
    | nil=>rfl
    | cons k r ih =>
     have hk:=nL k (aaw ..);rw[aaQ,ih fun j hj=>nL j (aan _ hj),acg,aa4 hk]
     rfl
   refine g _ d _ s.heap.objs.size (ps.filterMap fun k=>es[k]?) (fun b o e=>aac _ e) (by rw[size_push'];exact abk _) (.inr (aae _)) (by rw[size_push'];exact abv _) (.inr (.inr ⟨hb,ps,0,rfl,aai _ rfl,RO⟩)) ?_;have h1:=hp.filterMap (fun k=>es[k]?);rw[filterMap_getElem?_range]at h1;exact h1
theorem Bu{r:Addr}{Q:Bool->Shared->Prop}(hT:s.TypeIs (.ref r) "set")(h:Q false s):wpAny (model prog w) A (Builtin.List.listLengthHint (.ref r)) Q E s:=by
 unfold Builtin.List.listLengthHint;refine aaa (wpAny_specialOf hT PySem.F.slot_set_len.lookup ?_);generalize UP:("set.__len__":String)=Xc
 wp_delta
 rw[show splitId Xc=some ("set", "__len__") from by subst UP;decide +kernel];subst UP;refine aaa (wpAny_isInstance (T := "set") (b:=true) hT (by rw[isSubtype_type];kernel_rfl) ?_);refine abc (fun Dd=>absurd Dd (by decide)) (fun _=>?_);refine abc (fun _=>?_) (fun Dd=>absurd (by decide +kernel) Dd);refine aaa (wpAny_typeOf hT ?_);exact aad h
theorem sA{R:wf->Shared->Prop}(hh:A.handled=none)(x:cQ (w.params.followText "set-order") s.heap a es ep t)(hz:es.size<=sizeLine)(hR:∀(h':Heap) (tk:Nat) (d:Drawn) (vs:wf),(∀ b o,s.heap.get? b=some o->h'.get? b=some o)->vs.Perm (es.toList.map (·.2))->R vs { s with heap:=h',toks:=tk,drawn:=d }) :
  wpAny (model prog w) A (collect (.ref a)) R E s:=by
 have gn:a < s.heap.objs.size:=let ⟨_,ho,_⟩:=x.ob;aah ho;unfold collect;refine aaa (wpAny_runValue (ab4 entry_proto_collect' ?_));rw[abJ PySem.F.plain_proto_collect _];show wpAny _ A.in1 (newList [] >>= fun l=>again (.builtin "list.__iadd__" ⟨[l,.ref a],[]⟩)) _ _ s;refine aaa (aaX ?_);refine aad ⟨acE PySem.F.plain_list_iadd _,ab4 entry_list_iadd' ?_⟩;rw[abJ PySem.F.plain_list_iadd _];have xu:(s.heap.push { cls:=.type "list",data:=.seq ([]:wf).toArray }).get? s.heap.objs.size=some { cls:=.type "list",data:=.seq #[] }:=aai _ rfl;have x1:cQ (w.params.followText "set-order") (s.heap.push { cls:=.type "list",data:=.seq ([]:wf).toArray }) a es ep t:=x.keep fun o e=>aac _ e;have Pz:(s.heap.push { cls:=.type "list",data:=.seq ([]:wf).toArray }).objs.size=s.heap.objs.size+1:=size_push' ..;have k1:∀ b o,s.heap.get? b=some o->(s.heap.push { cls:=.type "list",data:=.seq ([]:wf).toArray }).get? b=some o:=fun b o e=>aac _ e;generalize (s.heap.push { cls:=.type "list",data:=.seq ([]:wf).toArray })=h1 at xu x1 Pz k1;show wpAny _ A.in1 (Builtin.List.listExtendWith (.ref s.heap.objs.size) (.ref a) (.ref s.heap.objs.size)) _ _ _;unfold Builtin.List.listExtendWith;refine aaa (wpAny_typeOf (T := "set") (cQ.typeIs (s:={ s with heap:=h1 }) x1) ?_);have oh:Builtin.List.listSameRef (.ref s.heap.objs.size) (.ref a)=false:=by simp[Builtin.List.listSameRef,abA gn]
 simp only[oh,show(Value.type "set" == Value.type "list")=false by decide,show(Value.type "set" == Value.type "tuple")=false by decide,Bool.or_false,acn,adh];refine aaa (yK (s:={ s with heap:=h1 }) x1 hz fun h2 d I tp ord k2 hI J8 it=>?_);have UQ:s.heap.objs.size ∉ [I,a,tp]:=by
  have JF:h1.objs.size<=I:=hI;have:tp=a\/h1.objs.size<=tp:=J8;intro z;simp only[aaf,abx,adj]at z;rcases z with z | z | z
  ·rw[<- z,Pz]at JF;exact absurd JF (Nat.not_succ_le_self _)
  ·exact abA gn z
  ·rcases this with q | q
   ·rw[q]at z;exact abA gn z
   ·rw[<- z,Pz]at q;exact absurd q (Nat.not_succ_le_self _)
 have RP:=k2 _ _ xu;have hlen:ord.length<=sizeLine:=by rw[it.pm.length_eq];simpa using hz
 have key:∀(h:Heap) (c₁ tk:Nat),dB w h I a tp es ep t ord 0->(∀ b o,s.heap.get? b=some o->h.get? b=some o) ->
   h.get? s.heap.objs.size=some { cls:=.type "list",data:=.seq #[] c₁ }->codeAny (model prog w) A (.builtin "list.extend.loop" ⟨[.ref s.heap.objs.size,.ref I,.ref s.heap.objs.size],[]⟩) (fun r s'=>match r with
    | .ok (.ret (.ref l))=>∃(h':Heap) (tk:Nat) (vs:wf) (c':Nat),s'={ s with heap:=h',toks:=tk,drawn:=d }/\(∀ b o,s.heap.get? b=some o->h'.get? b=some o)/\h'.get? l=some { cls:=.type "list",dict:=none,data:=.seq vs.toArray c',slots:=#[] }/\vs.Perm (es.toList.map (·.2))
    | _=>False) { s with heap:=h,toks:=tk,drawn:=d }:=by
  intro h c₁ tk nH hk xu;refine codeAny_extend_loopS (yJ (A:=A.in1) (prog:=prog) (w:=w) hh I a tp es ep t ord).toS hlen s.heap.objs.size UQ (.ref s.heap.objs.size) ord.length 0 _ #[] c₁ rfl (aaJ _) nH xu (ItemsOf.nil _) fun s' J9 c' hm Xd Of=>?_;rw[Moved.eq_with hm];refine⟨s'.heap,s'.toks,J9.toList,c',rfl,fun b o e=>hm.heap b o (fun Ka=>?_) (hk b o e),by rw[Array.toArray_toList];exact Xd,?_⟩
  ·have hb:=aah e;rcases aaf.mp Ka with e' | Ka
   ·rw[e']at hb;exact absurd hb (aaP _)
   ·rw[aaN.mp Ka]at hb;have JF:h1.objs.size<=I:=hI;rw[Pz]at JF;exact absurd (Nat.lt_trans hb JF) (aaP _)
  ·have e1:J9.toList=ord.map (·.2):=by
    apply ac7 (by rw[aaA,aab];exact Of.1);intro j h1 h2;rw[aaA]at h1;obtain⟨e,he,hv⟩:=Of.2 j J9[j] (by rw[aa4 h1]);rw[aab]at h2;rw[aak h2]at he;cases he;rw[abK,acA];exact hv
   rw[e1];exact it.pm.map _
 have go:∀(h:Heap) (c₁ tk:Nat),dB w h I a tp es ep t ord 0->(∀ b o,s.heap.get? b=some o->h.get? b=some o)->h.get? s.heap.objs.size=some { cls:=.type "list",data:=.seq #[] c₁ } ->
   codeAny (model prog w) A (.builtin "list.extend.loop" ⟨[.ref s.heap.objs.size,.ref I,.ref s.heap.objs.size],[]⟩) (fun r s'=>match r with
    | .ok (.ret v)=>wpAny (model prog w) A (match v with
      | Value.ref a=>do
       let aZ <- load a
       match aZ.data with
        | Data.seq xs UR=>pure xs.toList
        | x=>unsupported "internal:collect"
      | x=>unsupported "internal:collect") R E s'
    | .ok a=>False
    | .error e=>E e s') { s with heap:=h,toks:=tk,drawn:=d }:=fun h c₁ tk i1 i2 i3=>ab0 (key h c₁ tk i1 i2 i3) fun r s' hr=>by
  cases r with
  | error e=>exact hr.elim
  | ok f =>
   cases f with
   | ret v =>
    cases v with
    | ref l =>
     obtain⟨h',Xe,vs,c',rfl,q1,q2,q3⟩:=hr;dsimp only;refine aaa (wpAny_load q2 (aad ?_));exact hR h' Xe d vs q1 q3
    | _=>exact hr.elim
   | _=>exact hr.elim
 refine aaa (aa0 (Bu (cQ.typeIs (s:={ s with heap:=h2,drawn:=d }) it.so) ?_));refine abc (fun _=>?_) (fun _=>aad ⟨acE acT _,go _ 0 _ it (fun b o e=>k2 b o (k1 b o e)) RP⟩);refine aaa (acs ?_);refine aaa ?_;show wpAny _ _ (updateSeq s.heap.objs.size (·.push .none) >>= fun _=>updateSeq s.heap.objs.size (·.pop)) _ _ _;refine aaa (wpAny_updateSeq RP rfl ?_);have G3:=aaV (Obj.mapSeq (·.push Value.none)) RP rfl;refine wpAny_updateSeq (hz:=by seq_fits) G3 rfl ?_;have Og:=aaV (Obj.mapSeq (·.pop)) G3 rfl;have Oh:∀ b o,b≠s.heap.objs.size->h2.get? b=some o->((h2.update s.heap.objs.size (Obj.mapSeq (·.push Value.none))).update s.heap.objs.size (Obj.mapSeq (·.pop))).get? b=some o:=fun b o hb e =>
  (abV _ _ (acj hb)).trans ((abV _ _ (acj hb)).trans e)
 refine aad ⟨acE acT _,go _ _ _ (it.keep fun b hb o e=>Oh b o (fun z=>UQ (z▸hb)) e) (fun b o e=>Oh b o (aaD (aah e)) (k2 b o (k1 b o e))) Og⟩
section
variable {κ:KeyOrd}{kv:Value->κ.α}{kd:SortKind}{S:Value->Prop}
theorem mB{r:Addr}{Rc:wf->Prop}(RQ:∀(A:t0) (R:wf->Shared->Prop) (E:xz),A.handled=none->(∀(h':Heap) (tk:Nat) (d:Drawn) (vs:wf),(∀ b o,s.heap.get? b=some o->h'.get? b=some o)->Rc vs->R vs { s with heap:=h',toks:=tk,drawn:=d })->wpAny (model prog w) A (collect (.ref r)) R E s)(hh:A.handled=none)(hz:∀ vs,Rc vs->vs.length < 64)(hI:∀ vs,Rc vs->∃ ns,IntsAre vs ns)(h:∀(h1 h':Heap) (tk:Nat) (d:Drawn) (vs out:wf) (ns iC:wn) (c:Nat),(∀ b o,s.heap.get? b=some o->h1.get? b=some o)->(∀ b o,h1.get? b=some o->h'.get? b=some o)->Rc vs->IntsAre vs ns->h'.get? h1.objs.size=some (seqObj "list" out.toArray c)->IntsAre out iC->iC.Perm ns->iC.Pairwise (·<=·)->Q (.ref h1.objs.size) { s with heap:=h',toks:=tk,drawn:=d }) :
  wpAny (model prog w) A (call (.builtin "sorted") [.ref r]) Q E s:=by
 refine Calls.call_function_entry kind_sorted plain_sorted entry_sorted (args_sorted1 _) ?_;unfold Builtin.«sorted»;refine aaa (m:=checkCount "sorted" 1 1 _) (aad (aaa (RQ _ _ _ hh fun h1 tk d vs k1 rc=>aaa (wpAny_newList ?_ (aam (aaL (hz vs rc)) (by decide))))));obtain⟨ns,hi⟩:=hI vs rc;have ho:(h1.push (seqObj "list" vs.toArray 0)).get? h1.objs.size=some (seqObj "list" vs.toArray 0):=aai _ rfl;refine aaa (aa0 (aa6 slot_list_sort ⟨_,ho,rfl⟩ entry_list_sort (list_sort_tree (s:={ s with heap:=h1.push (seqObj "list" vs.toArray 0),toks:=tk,drawn:=d }) ho hi (hz vs rc) fun out iC a p o=>⟨_,rfl,aad ⟨_,rfl,?_⟩⟩) (args_list_sort _)));obtain⟨c,hc⟩:=sortedHeap_at (vs:=vs) (out:=out) ho;refine h h1 _ tk d vs out.toList ns iC c k1 (fun b o e=>?_) rc hi (by rw[Array.toArray_toList];exact hc) a p o;have hl:=aah e;have e2:(h1.push (seqObj "list" vs.toArray 0)).get? b=some o:=aac _ e;exact(sortedHeap_old (aaD hl) (aah e2)).trans e2
end
theorem iR{xs:Array Nat}:bQ xs↔xs.toList.Pairwise (· < ·):=by
 rw[abI];constructor
 ·intro h i j hi hj hl;exact h i j (by simpa using hi) (by simpa using hj) hl
 ·intro h i j hi hj hl;exact h i j (by simpa using hi) (by simpa using hj) hl
theorem mD:bQ #[]:=fun i j hi=>absurd hi (by simp)
theorem fm(n:Nat):bQ (Array.range n):=by
 rw[iR,Array.toList_range];exact List.pairwise_lt_range
theorem sC{j:Nat}(hr:bQ t.place)(h:∀ i,t.slot j≠.live i):j ∉ t.place.toList:=fun hm=>by
 obtain⟨i,hi,e⟩:=aca.mp hm;have yB:i < t.place.size:=by simpa using hi
 rw[abK]at e;obtain⟨h1,h2,h3⟩:=gL j hr;have eb:SetTable.below t.place j=i:=by
  rcases Nat.lt_trichotomy (SetTable.below t.place j) i with q | q | q
  ·have a:=h3 (SetTable.below t.place j) (by omega) (aae _);have b:=hr _ i (by omega) yB q;omega
  ·exact q
  ·have a:=h2 i yB q;omega
 refine h i ?_;unfold SetTable.slot;dsimp only;rw[eb,aa4 yB,e];simp
theorem j0{t:SetTable}(hr:bQ t.place){ha:Nat->Int}{h:Int}:∀(fuel:Nat) (p:SetTable.Probe) {j:Nat} {d:Option Nat},(∀ k,p.dummy=some k->k ∉ t.place.toList)->SetTable.probe.go t ha h fuel p=some (.empty j d)->j ∉ t.place.toList/\∀ k,d=some k->k ∉ t.place.toList
 | 0,p,j,d,hp,e=>by unfold SetTable.probe.go at e;cases e
 | fuel+1,p,j,d,hp,e=>by
  unfold SetTable.probe.go at e;have US:∀ q:SetTable.Probe,(t.advance q).dummy=q.dummy:=fun q=>by unfold SetTable.advance;split<;>rfl
  cases hs:t.slot p.j with
  | empty =>
   rw[hs]at e;cases e;exact⟨sC hr (fun i z=>by rw[hs]at z;cases z),hp⟩
  | dummy =>
   rw[hs]at e;refine j0 hr fuel _ (fun k hk=>?_) e;rw[US]at hk;cases hk;exact sC hr fun i z=>by rw[hs]at z;cases z
  | live i =>
   rw[hs]at e;dsimp only at e;split at e
   ·cases e
   ·exact j0 hr fuel _ (fun k hk=>hp k (by rw[US]at hk;exact hk)) e
theorem Bv(hr:bQ t.place){h:Int}{slot:Nat}{wd:Bool}(e:t.freeSlot h=some (slot,wd)):slot ∉ t.place.toList:=by
 unfold SetTable.freeSlot SetTable.probe at e;cases q:SetTable.probe.go t (fun _=>h+1) h (10 * SetTable.turns t.mask) (t.probeStart h) with
 | none=>rw[q]at e;cases e
 | some m =>
  rw[q]at e;cases m with
  | candidate j i n=>cases e
  | empty j d =>
   obtain⟨h1,h2⟩:=j0 hr _ _ (fun k hk=>by unfold SetTable.probeStart at hk;cases hk) q;cases d with
   | none=>simp at e;rw[<- e.1];exact h1
   | some d=>simp at e;rw[<- e.1];exact h2 d rfl
theorem vc(hr:bQ t.place){j:Nat}(hj:j ∉ t.place.toList):bQ (t.put j).1.place:=by
 obtain⟨h1,h2,h3⟩:=gL j hr;show bQ (SetTable.insertAt t.place (SetTable.below t.place j) j);rw[iR,SetTable.toList_insertAt];have hp:=iR.mp hr;refine List.pairwise_append.mpr ⟨hp.sublist (List.take_sublist ..),acQ.mpr ⟨fun x hx=>?_,hp.sublist (List.drop_sublist ..)⟩,fun x hx y hy=>?_⟩
 ·obtain⟨k,hk,e⟩:=aca.mp hx;rw[List.getElem_drop,abK]at e;rw[abw,aaA]at hk;have:=h3 (SetTable.below t.place j+k) (by omega) (by omega);have oh:x≠j:=fun z=>hj (z▸List.mem_of_mem_drop hx);omega
 ·obtain⟨k,hk,e⟩:=aca.mp hx;rw[List.getElem_take,abK]at e;rw[abf,aaA]at hk;have Oe:=h2 k (by omega) (by omega);have Xf:x < j:=by omega
  rcases aaf.mp hy with rfl | hy
  ·exact Xf
  ·obtain⟨m,hm,e'⟩:=aca.mp hy;rw[List.getElem_drop,abK]at e';rw[abw,aaA]at hm;have:=h3 (SetTable.below t.place j+m) (by omega) (by omega);omega
theorem qb(hr:bQ t.place)(n:Nat):bQ (t.orStandIn n).place/\(t.orStandIn n).led=t.led:=by
 unfold SetTable.orStandIn;split
 ·exact⟨hr,rfl⟩
 ·exact⟨fm n,rfl⟩
theorem yL(hr:bQ t.place)(es:Array (Int×Value))(h:Int)(x:Value):bQ (layNew t es h x).2.1.place/\(layNew t es h x).2.1.led=t.led:=by
 unfold layNew;cases q:t.freeSlot h with
 | none=>exact⟨fm _,rfl⟩
 | some sw =>
  obtain⟨slot,wd⟩:=sw;have h1:=vc hr (Bv hr q);have h2:=qb h1 (SetTable.insertAt es (t.put slot).2 (h,x)).size;exact⟨h2.1,h2.2⟩
theorem yM{t':SetTable}{hs:Array Int}{wanted:Nat}{order:Array Nat}(e:t.relaid hs wanted=some (t',order)):bQ t'.place/\t'.led=t.led:=by
 unfold SetTable.relaid SetTable.laid at e;cases q:SetTable.layClean (SetTable.sizeAbove wanted - 1) hs with
 | none=>rw[q]at e;cases e
 | some owner =>
  rw[q]at e;simp only[bind,Option.bind,pure]at e;have e':=aaF e;have e1:=abz Prod.fst e';dsimp only at e1;subst e1;refine⟨?_,rfl⟩;rw[iR];dsimp only;rw[List.pairwise_map];have hp:List.Pairwise (· < ·) (List.range (SetTable.sizeAbove wanted - 1+1)):=List.pairwise_lt_range;refine List.Pairwise.filterMap _ (fun a b Dd x hx y hy=>?_) hp;cases q1:owner.getD a none with
  | none=>rw[q1]at hx;simp at hx
  | some u =>
   cases q2:owner.getD b none with
   | none=>rw[q2]at hy;simp at hy
   | some v =>
    rw[q1]at hx;rw[q2]at hy;simp at hx hy;subst hx hy;exact Dd
theorem sD(es:Array (Int×Value))(wanted:Nat):bQ (relayAll t es wanted).2.1.place/\(relayAll t es wanted).2.1.led=t.led:=by
 unfold relayAll;cases q:t.relaid (es.map (·.1)) wanted with
 | none=>exact⟨fm _,rfl⟩
 | some to =>
  obtain⟨t',order⟩:=to;dsimp only;split
  ·exact yM q
  ·exact⟨fm _,rfl⟩
def vd(prog:tz)(w:World)(l:List (Int×Value)):Prop:=∀ e∈l,∃ n t,e.2=.int n t/\e.1=(intKind prog w).hash n
theorem vd.elems{l:List (Int×Value)}(h:vd prog w l):ElemsOf (intKind prog w) l:=fun e he=>by
 obtain⟨n,t,e1,e2⟩:=h e he;exact⟨⟨n,by rw[e1];exact adk _ _ _ _,e2⟩,by rw[e1];rfl⟩
theorem vd.perm{l l':List (Int×Value)}(h:vd prog w l)(p:l'.Perm l):vd prog w l':=fun e he=>h e (p.mem_iff.mp he)
def ve(prog:tz)(w:World)(h:Heap)(a:Addr)(ns:wn):Prop :=
 ∃ es ep t,cQ (w.params.followText "set-order") h a es ep t/\es.size < scanBound/\vd prog w es.toList/\(es.toList.map fun e=>numOf e.2).Perm ns/\ns.Nodup
theorem ve.keep{prog:tz}{w:World}{h h':Heap}{a:Addr}{ns:wn}(x:ve prog w h a ns)(k:∀ o,h.get? a=some o->h'.get? a=some o):ve prog w h' a ns :=
 let ⟨es,ep,t,x1,r⟩:=x;⟨es,ep,t,x1.keep k,r⟩
theorem sE{CZ:Array (Int×Value)}{t':SetTable}{bt:Bool}(x:cQ bt h a es ep t)(hf:t'.fits CZ.size=true)(hl:t'.led=t.led)(hr:bQ t'.place):cQ bt (h.update a (Obj.putSet CZ t')) a CZ (ep+1) t':=by
 obtain⟨o,ho,hex,hd⟩:=x.ob;have:=aaV (Obj.putSet CZ t') ho (by rw[putSet_of CZ t' hd];rfl);rw[putSet_of CZ t' hd]at this;exact⟨⟨_,this,hex,rfl⟩,hf,hl.trans x.led,hr⟩
theorem sF{g:Bool->Sem Unit}(hg:∀(b:Bool) (bo:Shared) (Q':Unit->Shared->Prop),Q' () bo->wpAny (model prog w) A (g b) Q' E bo)(x:cQ (w.params.followText "set-order") s.heap a es ep t){kA:Array (Int×Value)}{t2:SetTable}(hz:kA.size<=sizeLine)(Xg:t2.fits kA.size=true)(hl:t2.led=t.led)(hr:bQ t2.place){sG:Bool}{R:Option Bool->Shared->Prop}(h:∀ h' yN EW t3,Heap.SameBut a s.heap h'->cQ (w.params.followText "set-order") h' a yN EW t3->yN.toList.Perm kA.toList->R (some true) { s with heap:=h' }) :
  wpAny (model prog w) A (do
    storeSet a kA t2
    if(!sG&&t2.tooFull)=true then do
      g (relayAll t2 kA (SetTable.grown kA.size)).2.2
      storeSet a (relayAll t2 kA (SetTable.grown kA.size)).1 (relayAll t2 kA (SetTable.grown kA.size)).2.1
      pure (some true)
     else pure (some true)) R E s:=by
 obtain⟨o,ho,hex,hd⟩:=x.ob;refine aaa (wpAny_storeSet_of ho hd ?_ hz);have x1:=sE x Xg hl hr;have Oi:=aaI s.heap a (Obj.putSet kA t2);split
 ·have hp:=relayAll_perm t2 kA (SetTable.grown kA.size);have K7:=relayAll_fits t2 kA (SetTable.grown kA.size);have jh:=sD (t:=t2) kA (SetTable.grown kA.size);generalize hRl:relayAll t2 kA (SetTable.grown kA.size)=Rl at hp K7 jh ⊢;obtain⟨yN,t3,UT⟩:=Rl;dsimp only at hp K7 jh ⊢;have wx:yN.size=kA.size:=by rw[<- aaA,hp.length_eq,aaA]
  refine aaa (hg _ _ _ ?_);obtain⟨o1,Gv,Xh,Lc⟩:=x1.ob;refine aaa (wpAny_storeSet_of Gv Lc ?_ (by rw[wx];exact hz));exact aad (h _ _ _ _ (Oi.trans (aaI _ a _)) (sE x1 K7 jh.2 jh.1) hp)
 ·exact aad (h _ _ _ _ Oi x1 (acu _))
theorem add_int{k:Int}{tk:Tok}{Q:Bool->Shared->Prop}(hS:ve prog w s.heap a ns)(G4:ns.length+1 < scanBound)(h:∀ h' iC b,Heap.SameBut a s.heap h'->ve prog w h' a iC->(∀ n,n∈iC↔n∈ns\/n=k)->iC.length<=ns.length+1->Q b { s with heap:=h' }) :
  wpAny (model prog w) A (setAddHashed a (.int k tk) ((intKind prog w).hash k)) Q E s:=by
 obtain⟨es,ep,t,x,hb,Kb,G5,PB⟩:=hS;obtain⟨o,ho,hex,hd⟩:=x.ob;have hn:es.size=ns.length:=by have:=G5.length_eq;simpa using this
 have Ig:(intKind prog w).is k (.int k tk)=true:=adk _ _ _ _;have Eo:∀ e∈es.toList,(intKind prog w).is k e.2=true↔numOf e.2=k:=fun e he=>by
  obtain⟨n,t',e1,_⟩:=Kb e he;rw[e1];constructor
  ·intro q;exact((intKind prog w).inj _ _ _ q (adk _ _ n t')).symm
  ·rintro rfl;exact adk _ _ _ _
 unfold setAddHashed setAddHashedIn;refine aa0 (aaa (wpAny_setState_of ho hd x.fits ?_));dsimp only;rw[byScan_of rfl hb Kb.elems];simp only[↓reduceIte];unfold setAddByScan;refine aaa ?_;refine aaa (acs ?_);refine aaa (wpAny_setScan_of Ig ho hd x.fits Kb.elems ?_);cases hr:List.findIdx? (fun e=>(intKind prog w).is k e.2) es.toList with
 | some j =>
  dsimp only;obtain⟨hj,Xi,_⟩:=List.findIdx?_eq_some_iff_getElem.mp hr;have hk:k∈ns:=G5.mem_iff.mp (abg.mpr ⟨_,aa8 hj,(Eo _ (aa8 hj)).mp Xi⟩);refine aad (aad ?_);exact h s.heap ns false (Heap.SameBut.refl a s.heap) ⟨es,ep,t,x,hb,Kb,G5,PB⟩ (fun n=>⟨.inl,fun z=>z.elim id fun z=>z▸hk⟩) (by omega)
 | none =>
  dsimp only;have hk:k ∉ ns:=fun hk=>by
   obtain⟨e,he,q⟩:=abg.mp (G5.mem_iff.mpr hk);have:=List.findIdx?_eq_none_iff.mp hr e he;rw[(Eo e he).mpr q]at this;cases this
  have Xj:∀(b:Bool) {bo:Shared} {Q':Unit->Shared->Prop},Q' () bo->wpAny (model prog w) A (match b with | true=>rule "set.scan.the-table-gave-way" | false=>pure ()) Q' E bo :=
   fun b bo Q' hq=>by cases b<;>first | exact aad hq | exact acs hq
  have oH:=layNew_perm t es ((intKind prog w).hash k) (.int k tk);have sH:=layNew_fits t es ((intKind prog w).hash k) (.int k tk);have yO:=yL x.up es ((intKind prog w).hash k) (.int k tk);generalize hL:layNew t es ((intKind prog w).hash k) (.int k tk)=L at oH sH yO ⊢;obtain⟨kA,t1,sG,Xk⟩:=L;dsimp only at oH sH yO ⊢;rw[Array.toList_push]at oH;have Oj:kA.size=es.size+1:=by rw[<- aaA,oH.length_eq,aaB,aaA];rfl
  have RS:vd prog w kA.toList:=fun e he=>by
   rcases aaZ.mp (oH.mem_iff.mp he)with q | q
   ·exact Kb e q
   ·rw[aaN]at q;subst q;exact⟨k,tk,rfl,rfl⟩
  have RT:(kA.toList.map fun e=>numOf e.2).Perm (ns++[k]):=by
   have h1:=oH.map (fun e=>numOf e.2);rw[ab5]at h1;exact h1.trans (G5.append_right _)
  have RU:(ns++[k]).Nodup:=List.nodup_append.mpr ⟨PB,by simp,fun a ha b Ol=>by rw[aaN]at Ol;subst Ol;exact fun z=>hk (z▸ha)⟩;have rO:∀ h' yN EW t3,Heap.SameBut a s.heap h'->cQ (w.params.followText "set-order") h' a yN EW t3->yN.toList.Perm kA.toList->Q true { s with heap:=h' }:=fun h' yN EW t3 sb x2 p2=>by
   refine h h' (ns++[k]) true sb ⟨yN,EW,t3,x2,?_,RS.perm p2,(p2.map _).trans RT,RU⟩ (fun n=>by simp) (by simp);rw[<- aaA,p2.length_eq,aaA,Oj,hn];exact G4
  have UU:kA.size<=sizeLine:=fits_of_scanBound (by rw[Oj,hn];exact G4);refine aaa (Xj _ ?_);split
  ·refine aaa ?_;rw[hashByValue_scannable 8 rfl];refine aad ?_;refine sF ?_ x UU ?_ ?_ ?_ ?_
   ·intro b bo Q' hq;cases b<;>first | exact aad hq | exact acs hq
   ·split
    ·exact sH
    ·exact SetTable.fits_plain_off sH
   ·split<;>exact yO.2
   ·split<;>exact yO.1
   ·intro h' yN EW t3 sb x2 p2;dsimp only;exact aad (rO h' yN EW t3 sb x2 p2)
  ·refine aaa (aad ?_);simp only[↓reduceIte];refine sF ?_ x UU sH yO.2 yO.1 ?_
   ·intro b bo Q' hq;cases b<;>first | exact aad hq | exact acs hq
   ·intro h' yN EW t3 sb x2 p2;dsimp only;exact aad (rO h' yN EW t3 sb x2 p2)
structure Kd(prog:tz)(w:World)(u:Nat)(S I:Addr)(n:Nat)(P:Nat->Value->Prop)(J:Nat->Heap->Prop):Prop where
 keep:∀ i h h',J i h->(∀ b o,b≠I->h.get? b=some o->h'.get? b=some o)->J i h'
 add:∀(A:t0) (s:Shared) i v,A.units<=u->i < n->P i v->J i s.heap->∀(Q:Bool->Shared->Prop) (E:xz),(∀ h' tk b,Heap.SameBut S s.heap h'->s.toks<=tk->J (i+1) h'->Q b { s with heap:=h',toks:=tk })->wpAny (model prog w) A (setAdd S v) Q E s
theorem yP{R:Result->Shared->Prop}{S:Addr}{fp:wE}{n:Nat}{P:Nat->Value->Prop}{St:Nat->Heap->Prop}{J:Nat->Heap->Prop}{u:Nat}(W:Walks prog w A.in1 I fp [I] n P St)(F:Kd prog w u S I n P J)(hu:A.units+1<=u)(Xl:S ∉ fp) :
  ∀(k:Nat) (s:Shared),k<=n->St (n - k) s.heap->J (n - k) s.heap ->
   (∀ h' tk,(∀ b o,b≠S->b≠I->s.heap.get? b=some o->h'.get? b=some o)->J n h'->R (.ok (.ret .none)) { s with heap:=h',toks:=tk }) ->
   codeAny (model prog w) A (.builtin "set.update.loop" ⟨[.ref S,.ref I],[]⟩) R s:=by
 intro k;induction k with
 | zero =>
  intro s _ nH hJ hR;refine ab4 ace ?_;rw[abJ abr];refine aaa (W.done s _ _ nH fun h' tk hk=>?_);have kk:∀ b o,b≠I->s.heap.get? b=some o->h'.get? b=some o:=fun b o hb e=>hk b o (by simpa using hb) e;exact aad (hR h' tk (fun b o _ hb e=>kk b o hb e) (F.keep _ _ _ hJ kk))
 | succ k ih =>
  intro s hle nH hJ hR;refine ab4 ace ?_;rw[abJ abr];refine aaa (W.item (n - (k+1)) s _ _ (by omega) nH fun v h1 tk1 hP Om hk=>?_);have kk:∀ b o,b≠I->s.heap.get? b=some o->h1.get? b=some o:=fun b o hb e=>hk b o (by simpa using hb) e;refine aaa (aa0 (F.add _ _ _ v hu (by omega) hP (F.keep _ _ _ hJ kk) _ _ fun h2 Xm b sb _ UW=>?_));have e:n - (k+1)+1=n - k:=by omega
  rw[e]at Om UW;have Oh:∀ b o,b≠S->h1.get? b=some o->h2.get? b=some o:=fun b o hb q=>sb.extBut b o hb q;refine aad ⟨acE abr _,ih { s with heap:=h2,toks:=Xm } (by omega) ?_ UW fun h3 Xn k3 Xo=>hR h3 Xn (fun b o C8 UX q=>k3 b o C8 UX (Oh b o C8 (kk b o UX q))) Xo⟩;exact W.frame _ _ _ Om fun b hb o q=>Oh b o (fun z=>Xl (z▸hb)) q
abbrev el(w:World):Obj:={ cls:=.type "set",dict:=none,data:=.set #[] 0 (.fresh 0 0 (!w.params.followText "set-order")) }
theorem Bw(x:Value)(h:Q (.ref s.heap.objs.size) { s with heap:=s.heap.push (el w) }):codeAny (model prog w) A (.call (.builtin "set.__new__") ⟨[.type "set",x],[]⟩) (wants Q E) s:=by
 refine codeAny_of_tree (aaa (m:=checkBuiltinCall "set.__new__" _) (wpAny_of_eq (PySem.F.newCall_set_1 x) (aad ⟨acE PySem.F.plain_set_new _,ab4 PySem.F.entry_set_new ?_⟩)));rw[abJ PySem.F.plain_set_new];unfold Builtin.«set.__new__» newSet;refine aaa (Q:=_) (m:=Builtin.Frozenset.newClass _ _) ?_;unfold Builtin.Frozenset.newClass;have DX:=sub_set_self
 wp_walk
 refine wpAny_askSetting (aad ?_);simp only[newObj];exact aaa (wpAny_alloc (aad (aad h)))
theorem sJ{T ni ii:String}{args:wf}{M:xz}(c:TypeCalled T ni ii)(hc:checkTypeCall T ⟨args,[]⟩=pure ())(hm:codeAny (model prog w) A.in1 (.call (.builtin ni) ⟨.type T::args,[]⟩) (wants M E) s)(hf:∀ x s1,M x s1->s1.TypeIs x T/\codeAny (model prog w) A.in1 (.call (.builtin ii) ⟨x::args,[]⟩) (wants (fun r s2=>r=.none/\Q x s2) E) s1):wpAny (model prog w) A (call (.type T) args) Q E s:=by
 have⟨nt,cc,⟨_,_,mro⟩,mk,_,sb,PD⟩:=c;refine wpAny_call (codeAny_of_tree (aad ⟨Code.quiet_builtin _ (by decide +kernel),ab4 PySem.F.entry_type_call ?_⟩));rw[Around.under_plain (weight_type_call_type T args []) rfl]
 repeat (any_goals (first | wp_step | assumption))
 refine ab0 hm fun r s1 hr=>?_;rcases r with e | f
 ·exact hr
 cases f with
 | next=>exact hr.elim
 | brk=>exact hr.elim
 | cont=>exact hr.elim
 | ret x =>
 have⟨hT,hi⟩:=hf _ _ hr;have il:=PD.lookup;have ib:=PD.bind x
 repeat (any_goals (first | wp_step | assumption))
 refine ab0 hi fun r s2 JD=>?_;rcases r with e | f
 ·exact JD
 cases f with
 | next=>exact JD.elim
 | brk=>exact JD.elim
 | cont=>exact JD.elim
 | ret y =>
 obtain⟨rfl,q⟩:=JD
 repeat (any_goals (first | wp_step | assumption))
theorem sL{l:Addr}{items:Array Value}{J:Nat->Heap->Prop}{u:Nat}(hu:A.units+8<=u)(hh:A.handled=none)(hl:s.heap.IsList l items)(F:Kd prog w u s.heap.objs.size (s.heap.objs.size+1) items.size (fun i v=>items[i]?=some v) J)(h0:∀ h',(∀ b o,s.heap.get? b=some o->h'.get? b=some o)->h'.get? s.heap.objs.size=some (el w)->J 0 h')(h:∀(h':Heap) (tk:Nat),(∀ b o,s.heap.get? b=some o->h'.get? b=some o)->J items.size h'->Q (.ref s.heap.objs.size) { s with heap:=h',toks:=tk }) :
  wpAny (model prog w) A (call (.type "set") [.ref l]) Q E s:=by
 refine sJ (M:=fun o bo=>o=.ref s.heap.objs.size/\bo={ s with heap:=s.heap.push (el w) }) PySem.F.called_set (PySem.F.typeCall_set_1 _) (Bw _ ⟨rfl,rfl⟩) ?_;rintro _ _ ⟨rfl,rfl⟩;have hS:(s.heap.push (el w)).get? s.heap.objs.size=some (el w):=aai _ rfl;have nM:(s.heap.push (el w)).IsList l items:=hl.push _;have wx:(s.heap.push (el w)).objs.size=s.heap.objs.size+1:=aaW ..;have k1:∀ b o,s.heap.get? b=some o->(s.heap.push (el w)).get? b=some o:=fun b o e=>aac _ e;have gn:l < s.heap.objs.size:=let ⟨_,ho,_⟩:=hl;aah ho;have Xp:Shared.TypeIs { s with heap:=s.heap.push (el w) } (.ref l) "list":=let ⟨o,ho,hc,_⟩:=nM;⟨o,ho,hc⟩;refine⟨⟨_,hS,rfl⟩,codeAny_call_builtin PySem.F.called_set.init.plain PySem.F.entry_set_init (check_set_init_1 ⟨_,hS,rfl⟩ ?_)⟩;generalize hG:s.heap.push (el w)=G at hS nM wx k1 Xp;have x0:cQ (w.params.followText "set-order") G s.heap.objs.size #[] 0 (.fresh 0 0 (!w.params.followText "set-order")):=⟨⟨_,hS,⟨rfl,rfl,rfl⟩,rfl⟩,rfl,rfl,mD⟩;unfold Builtin.«set.__init__» noKeywords;refine aaa (abc (fun _=>aad ?_) fun z=>absurd rfl z);have hTS:Shared.TypeIs { s with heap:=G } (.ref s.heap.objs.size) "set":=⟨_,hS,rfl⟩;generalize Xq:Builtin.Frozenset.updateFrom=UF
 wp_walk
 subst Xq;unfold Builtin.Frozenset.updateFrom Builtin.Frozenset.isAnySet;have n1:=PySem.F.sub_list_set;have n2:=PySem.F.sub_list_frozenset;generalize Xr:pyIter=PI
 wp_walk
 subst Xr;refine abj nM (aaa (wpAny_runValue ?_));have hI:G.objs.size=s.heap.objs.size+1:=wx;dsimp only;rw[hI];have k2:∀ b o,s.heap.get? b=some o->(G.push { cls:=.type "list_iterator",data:=.fields #[.ref l,.int 0 0] }).get? b=some o:=fun b o e=>aac _ (k1 b o e);refine yP (Walks.list (by simp[hh]) (s.heap.objs.size+1) l (aaD (acV gn)) items) F (by show _<=u;simp only[Around.in1];omega) (fun z=>?_) items.size _ (aae _) ?_ ?_ fun h' tk k3 hJ=>?_
 ·rcases aaf.mp z with e | e
  ·exact absurd e (aaD (abv _))
  ·rw[aaN]at e;exact absurd e (abA gn)
 ·rw[acw];exact⟨⟨_,by rw[<- hI];exact aai _ rfl,rfl,rfl⟩,nM.push _⟩
 ·rw[acw];exact h0 _ k2 (aac _ hS)
 ·refine aad (aad ⟨rfl,h h' tk (fun b o e=>k3 b o (aaD (aah e)) (aaD (acV (aah e))) (k2 b o e)) hJ⟩)
def Oo(prog:tz)(w:World)(S:Addr)(ns:wn)(i:Nat)(h:Heap):Prop:=∃ iC,ve prog w h S iC/\(∀ k,k∈iC↔k∈ns.take i)/\iC.length<=i
theorem yQ{S:Addr}{items:Array Value}{u:Nat}(oh:S≠I)(hi:IntsAre items.toList ns)(hb:ns.length+1 < scanBound) :
  Kd prog w u S I items.size (fun i v=>items[i]?=some v) (Oo prog w S ns) where
 keep:=fun i h h' ⟨iC,x,r⟩ k=>⟨iC,x.keep fun o e=>k S o oh e,r⟩
 add:=fun A s i v _ gn hv ⟨iC,x,hm,hl⟩ Q E hQ=>by
  have UY:items.size=ns.length:=by have:=IntsAre.length hi;simpa using this
  obtain⟨t,rfl⟩:=IntsAre.int_at hi i v (by rw[abC];exact hv);unfold setAdd;refine aa0 (aaa ((intKind prog w).pyHash (k:=ns.getD i 0) (adk _ _ _ _) ?_));refine add_int (s:={ s with toks:=s.toks+1 }) x (by omega) fun h' Xs b sb x2 Lb rQ=>hQ h' (s.toks+1) b sb (abk _) ⟨Xs,x2,fun k=>?_,by omega⟩;have UZ:i < ns.length:=by omega
  have e:ns.getD i 0=ns[i]:=by rw[aaE,aak UZ];rfl
  have et:ns.take (i+1)=ns.take i++[ns[i]]:=by rw[aaY,aak UZ];rfl
  rw[Lb,hm,e,et,aaZ,aaN]
def sM(K:zn):V->Hp->VK->Prop:=fun x H Q=>∃(p:Addr) (ns:wn),x=.ref p/\eQ K H p (ns.map V.int)/\ns.length < 64 /\
 ∀(l:Addr) (iC:wn),H l=none->iC.Pairwise (· < ·)->(∀ k,k∈iC↔k∈ns)->Q (.ref l) (upd H l (.lst (iC.map V.int)))
theorem xw:∀{vs:wf} {ns:wn},IntsAre vs ns->ns=vs.map numOf
 | _,_,.nil=>rfl
 | _,_,.cons n t r=>by rw[aaQ,<- xw r];rfl
section
variable {X:Cx}{pins:yp}{σ:St}{H:Hp}
theorem Inv.drew{t':Nat}{d:Drawn}(I:Inv X pins σ H { s with heap:=h',toks:=t' }):Inv X pins σ H { s with heap:=h',toks:=t',drawn:=d } :=
 ⟨I.ok,I.os,I.bare,I.base,I.loc,I.cell,I.free,I.gp,I.pin,I.bN,I.len⟩
theorem yR{U0:wn}{Q:VK}(hc:X.calm=true)(I:Inv X pins σ H s)(x:ve X.prog X.w s.heap a ns)(hm:∀ k,k∈ns↔k∈U0)(h64:ns.length < 64)(q:∀(l:Addr) (iC:wn),H l=none->iC.Pairwise (· < ·)->(∀ k,k∈iC↔k∈U0)->Q (.ref l) (upd H l (.lst (iC.map V.int)))) :
  wpAny (model X.prog X.w) X.A (call (.builtin "sorted") [.ref a]) (EP X pins σ Q) E s:=by
 obtain⟨es,ep,t,so,hb,Kb,G5,PB⟩:=x;have hz:es.size<=sizeLine:=fits_of_scanBound hb;have UY:ns.length=es.size:=by have:=G5.length_eq;simpa using this.symm
 have nL:∀ vs:List Value,vs.Perm (es.toList.map (·.2))->∀ v∈vs,∃ n t,v=Value.int n t:=fun vs hv v Xu=>by
  obtain⟨e,he,rfl⟩:=abg.mp (hv.mem_iff.mp Xu);obtain⟨n,t,e1,_⟩:=Kb e he;exact⟨n,t,e1⟩
 refine mB (Rc:=fun vs=>vs.Perm (es.toList.map (·.2))) (fun A R E hh hR=>sA hh so hz fun h' tk d vs k p=>hR h' tk d vs k p) (I.ok.hd hc) (fun vs hv=>?_) (fun vs hv=>⟨_,intsAre_map vs (nL vs hv)⟩) fun h1 h' tk d vs out Xv iC c k1 k2 rc Xw e hi pm pw=>?_
 ·rw[hv.length_eq,aab,aaA];omega
 ·have e1:Xv=vs.map numOf:=xw Xw;have p2:iC.Perm ns:=by
   have h3:=rc.map numOf;rw[acx]at h3;rw[e1]at pm;exact pm.trans (h3.trans G5)
  have I1:Inv X pins σ H { s with heap:=h1,toks:=tk }:=I.kept k1;have hv:=mr hi;have hl:=p2.length_eq;have I2:=I1.laid (t':=tk) (a:=h1.objs.size) (o:=.lst (iC.map V.int)) k2 (aae _) (show cn X.prog X.w _ h' _ (.lst _) from ⟨by rw[aab];omega,out,c,hv,e⟩);refine⟨.ref h1.objs.size,_,I2.drew,rfl,q _ _ (I1.bN.fresh (aae _)) ?_ fun k=>by rw[p2.mem_iff,hm]⟩;have nd:iC.Nodup:=p2.nodup_iff.mpr PB;exact(pw.and nd).imp fun⟨a,b⟩=>by omega
variable {e:Expr}{te:TE}{p p2 pos RV:Pos}
theorem yS(hc:X.calm=true)(Xx:X.mg "sorted"=none)(Lb:X.mg "set"=none)(he:SE X e te)(hs:noStar e=true:=by rfl)(Xy:Gl X "sorted":=by rfl)(Xz:Gl X "set":=by rfl) :
  SE X (.Call (.Name "sorted" p) [.Call (.Name "set" p2) [e] [] RV] [] pos) (O4 (sM X.K) te):=⟨by
 intro pins s σ H Q I h
 refine abB (iY I Xy Xx PyProof.Rows.boot_sorted ?_)
 refine acv (acN ?_) rfl rfl
 refine abB (iY I Xz Lb PyProof.Rows.boot_set ?_)
 refine abt ?_ (bX [] X.env hs) rfl
 rw[bX [] X.env hs]
 refine acN (ck (he.run pins s σ H _ I h) fun u s1 ⟨x,H1,I1,r1,q1⟩=>?_)
 obtain⟨p,ns,rfl,hq,hb,q⟩:=q1
 cases r1
 obtain⟨aL,rv,pl,hz⟩:=I1.list hq
 refine acU ?_
 have hi:=intsAre_of rv
 have hlen:aL.length=ns.length:=by have:=rv.length;simp at this;omega
 refine sL (items:=aL.toArray) (aae _) (I1.ok.hd hc) pl.isList (yQ (aaD (abv _)) (by simpa using hi) (aat (Nat.succ_lt_succ hb) (by decide))) (fun h' k e0=>⟨[],⟨#[],0,_,⟨⟨_,e0,⟨rfl,rfl,rfl⟩,rfl⟩,rfl,rfl,mD⟩,by decide,(fun e he=>by simp at he),acu _,List.nodup_nil⟩,fun k=>by simp,aae _⟩) fun h' tk k2 ⟨iC,x,hm,hle⟩=>?_
 refine acU ?_
 refine yR (s:={ s1 with heap:=h',toks:=tk }) hc (I1.kept k2) x (fun k=>?_) (by simp at hle;omega) q
 rw[hm,abW (by simp;omega)]⟩
end
def Bx:DV->Wd->DK->Prop:=fun a W Q=>∃ ns:List Int,dH W a=some (ns.map fun i=>.im (.int i))/\ns.length < 64/\∀ iC:List Int,iC.Pairwise (· < ·)->(∀ k,k∈iC↔k∈ns)->iU (iC.map fun i=>.im (.int i)) W Q
instance {K:zn}[hk:mf C K]:Q4 C (sM K) Bx:=by
 obtain⟨rfl⟩:=hk;exact⟨fun D h ⟨ns,e,hb,q⟩ k=>by
  obtain⟨p,xs,rfl,hq,r⟩:=D.dH h e;rw[sx.mp r]at hq;exact⟨p,ns,rfl,eQ.of hq,hb,fun l iC hl h1 h2=>gJ D (sx.mpr rfl) hl (q iC h1 h2) k⟩⟩
def By(K:zn):V->List V->Hp->VK->Prop:=fun x vs H Q=>∃(p:Addr) (ns:wn) (k:Int),x=.ref p/\vs=[.int k]/\eQ K H p (ns.map V.int)/\Q (.int (ns.count k:Nat)) H
section
variable {X:Cx}
theorem sN:Qv X "list.count" (By X.K):=by
 intro pins s σ H x vs v us Q I rx rv h;obtain⟨p,ns,k,rfl,rfl,hq,q⟩:=h;cases rx;obtain⟨u,rfl,t,rfl⟩:=vals1 rv;obtain⟨aL,rv,⟨o,n,ho,hc,hd,hs⟩,hz⟩:=I.list hq;have hi:=intsAre_of rv;obtain⟨cls,dd,data,sl⟩:=o;simp only at hc hd hs;subst hc hd hs;refine adi F.slot_list_count ⟨_,ho,rfl⟩ F.entry_list_count (F.args_list_count_2 _ _) (PySem.SeqAt.list_countAt p aL.toArray n none sl (.int k t) (fun y=>numOf y == k)) ⟨ho,fun y hy=>?_,?_⟩
 ·obtain⟨m,t',rfl⟩:=hi.all y (by simpa using hy);exact PySem.SeqAt.EqAt.int_int m t' k t
 ·refine⟨.int (ns.count k:Nat),H,I.tok _,⟨s.toks,?_⟩,q⟩;rw[<- hi.nums,List.count,List.countP_map]
  rfl
end
def Ke:DV->List DV->Wd->DK->Prop:=fun a as W Q=>∃(ns:wn) (n:Int),as=[.im (.int n)]/\dH W a=some (ns.map fun i=>.im (.int i))/\Q (.im (.int (ns.count n:Nat))) W
instance {K:zn}[hk:mf C K]:Po C (By K) Ke:=by
 obtain⟨rfl⟩:=hk;exact⟨fun D h1 h2 ⟨ns,n,e,e1,q⟩ k=>by
  subst e;obtain⟨y,rfl,hy⟩:=h2.df;obtain⟨p,xs,rfl,hq,r⟩:=D.dH h1 e1;rw[sx.mp r]at hq;exact⟨p,ns,n,rfl,by rw[show y=V.int n from hy],eQ.of hq,k.now (dv:=.im (.int _)) D rfl q⟩⟩
theorem anyI(z:Int):∀ xs:List Int,((xs.map PyData.int).any fun d=>PyData.eqv d (.int z))=decide (z∈xs)
 | []=>by simp
 | x::xs=>by
  rw[aaQ,abR,anyI z xs,show PyData.eqv (.int x) (.int z)=(x == z) from rfl]
  by_cases e:x=z
  ·simp[e]
  ·have:¬ z=x:=fun q=>e q.symm;simp[e,this]
theorem anyS(z:Str):∀ xs:List Str,((xs.map PyData.str).any fun d=>PyData.eqv d (.str z))=decide (z∈xs)
 | []=>by simp
 | x::xs=>by
  rw[aaQ,abR,anyS z xs,show PyData.eqv (.str x) (.str z)=(x == z) from rfl]
  by_cases e:x=z
  ·simp[e]
  ·have:¬ z=x:=fun q=>e q.symm;simp[e,this]
section
variable {W:Wd}{Q:DK}{neg:Bool}{b:DV}{p:Addr}{ds:wP}
theorem Oq(e:W p=some (.lst (ds.map .im))):gh W (.pt p)=some ds:=by
 have e1:dH W (.pt p)=some (ds.map .im):=by unfold dH;dsimp only;rw[e]
 unfold gh gy;rw[e1];exact js (fun _=>by rfl) ds
theorem mE{z:Int}{xs:wn}(e:gh W b=some (xs.map .int))(h:Q (.im (.bool (if neg then !decide (z∈xs)else decide (z∈xs)))) W):yy neg (.im (.int z)) b W Q :=
 ⟨_,_,rfl,e,.inl ⟨rfl,by rw[aa7];intro d hd;obtain⟨x,_,rfl⟩:=abg.mp hd;rfl⟩,by rw[anyI];exact h⟩
theorem mF{z:Str}{xs:ww}(e:gh W b=some (xs.map .str))(h:Q (.im (.bool (if neg then !decide (z∈xs)else decide (z∈xs)))) W):yy neg (.im (.str z)) b W Q :=
 ⟨_,_,rfl,e,.inl ⟨rfl,by rw[aa7];intro d hd;obtain⟨x,_,rfl⟩:=abg.mp hd;rfl⟩,by rw[anyS];exact h⟩
end
end L2
namespace L2
open PySem PySem.Spec PyProof.Rows PySem.StrLaws PySem.Builtin.Str
end L2
namespace L2
open PySem PySem.Spec PyProof.Rows
end L2
namespace L2
open PySem PySem.Spec PyProof.Rows
variable {C:DC}
theorem Kf{W:Wd}{L:Ws}{K:zn}{k p d:Addr}{fs:List (Str×DV)}{ns:ww}{f:Str}{v:DV}{B:Addr->Addr->DV->Prop}(h:At W L)(c:eU K k ns)(i:Nat)(e:L[i]?=some (p,.ob k d fs))(n:f∈ns)(l:fs.lookup f=some v)(hq:B p k v):∃ p' k d fs v,DV.pt p=.pt p'/\W p'=some (.ob k d fs)/\kL K k/\bO K k f/\fs.lookup f=some v/\B p' k v:=⟨p,k,d,fs,v,rfl,h.get i e,c.c,c.n f n,l,hq⟩
end L2
set_option synthInstance.maxHeartbeats 0
set_option synthInstance.maxSize 100000
namespace T1
open PySem L2
variable {P:tz}{w:World}{mg:xL}{base:Heap}{f aR aS kH f1 f2 f3 f4 C:Addr}{fd Ov d1 d2 d3 d4:v6}{k b pl:Int}{W:Wd}{Q:DK}{α:Type}{xs ws ns:wn}{n:Nat}{ds:wP}
local macro_rules | `(tactic| array_mem_dec) => `(tactic| first
 | (with_reducible first|refine JI ?_|refine JJ ?_|refine Od ?_|refine J6 ?_|refine EU ?_|refine EV ?_|refine Br ?_|refine J2 ?_|refine J3 ?_|refine RW ?_|refine RX ?_|refine RY ?_|refine RZ ?_|refine R0 ?_|refine R3 ?_|refine R4 ?_|refine U1 ?_|refine XA ?_|refine XB ?_)
 | ((with_reducible apply XC);(· exact rfl))
 | (with_reducible first|refine JG ?_|refine Nj ?_|refine R5 ?_|refine JH ?_|refine Nk ?_|refine Nl ?_|refine Ro ?_|refine Rp ?_|refine Rr ?_|refine Rq ?_|refine NW ?_|refine NY ?_)
 | ((with_reducible apply NV);(· exact rfl))
 | ((with_reducible apply U2);(· exact rfl))
 | ((with_reducible apply Np);· exact rfl)
 | ((with_reducible apply U3);· exact rfl)
 | (with_reducible first|refine WS ?_|refine RH ?_|refine RK ?_|refine Rt ?_|refine NN ?_|refine NO ?_|refine Ru ?_|refine Rv ?_|refine Rx ?_|refine Nq ?_|refine Ry ?_|refine Nr ?_|refine JK ?_|refine Nt ?_|refine JL ?_|refine Rz ?_|refine Nu ?_|refine JM ?_|refine EH ?_|refine Nv ?_|refine JN ?_)
 | ((with_reducible refine RA ?_);refine⟨rfl,?_⟩)
 | (with_reducible first|refine Nw ?_|refine Ny ?_|refine RB ?_|refine bV ?_|refine XD ?_|refine RC ?_|refine U4 ?_|refine RD ?_|refine Bf ?_|refine JO ?_|refine RE ?_|refine JP ?_|refine Nz ?_|refine Nm ?_|refine U5 ?_|refine R6 ?_|refine x_raise ?_|refine JT ?_|refine R7 ?_|refine R8 ?_|refine U6 ?_)
 | ((with_reducible apply RG);(· omega);(· omega))
 | ((with_reducible apply XE);(· omega))
 | (with_reducible first|refine EI ?_|refine PF ?_|refine R9 ?_|refine U7 ?_|refine NI ?_|refine NJ ?_)
 | ((with_reducible apply sq);(· assumption))
 | (with_reducible first|refine Sa ?_|refine U8 ?_|refine RF ?_)
 | ((with_reducible apply UG);· first | (show(0:Int) < _;omega) | (show(0:Int) < _;decide) | exact⟨by omega,by omega⟩ | exact .inl ⟨by omega,by omega⟩ | exact .inr ⟨by omega,by omega⟩ | exact .inr ⟨by decide,by decide⟩ | exact⟨by decide,by decide,by decide⟩ | exact⟨by decide,by decide,by omega⟩)
 | (with_reducible first|refine WU ?_|refine NA ?_|refine NB ?_|refine NC ?_|refine ND ?_|refine U9 ?_|refine Va ?_|refine JQ ?_|refine JR ?_|refine Sb ?_|refine Vb ?_|refine Vc ?_|refine NP ?_|refine JV ?_|refine NQ ?_|refine JU ?_)
 | ((with_reducible apply JS);(· assumption))
 | ((with_reducible apply RI);(· assumption))
 | ((with_reducible apply Vd);(· assumption))
 | (with_reducible first|refine C7 ?_|refine wN ?_|refine QW ?_|refine QX ?_)
 | with_reducible refine XF ?_)
local macro_rules | `(tactic| array_get_dec) => `(tactic| repeat (first
 | array_mem_dec
 | ((with_reducible apply bT);(· exact rfl))
 | ((with_reducible apply nN);· decide)
 | ((with_reducible apply kP);· decide)
 | ((with_reducible apply El);· decide)
 | ((with_reducible apply Em);· decide)
 | ((with_reducible apply nN);· omega)
 | ((with_reducible apply kP);· omega)
 | ((with_reducible apply El);· omega)
 | ((with_reducible apply Em);· omega)))
local macro_rules | `(tactic| sizeOf_list_dec) => `(tactic| repeat (first
 | array_mem_dec
 | ((with_reducible apply bT);(· exact rfl))
 | ((with_reducible apply dM);(· assumption);(· exact rfl))
 | with_reducible refine J5 (by assumption) (by assumption) 0 (by with_unfolding_all rfl) (by decide +kernel) (by with_unfolding_all rfl) ?_
 | with_reducible refine Kf (by assumption) (by assumption) 0 (by with_unfolding_all rfl) (by decide +kernel) (by with_unfolding_all rfl) ?_
 | with_reducible refine ET (by assumption) 0 (by with_unfolding_all rfl) (by with_unfolding_all rfl) ?_
 | ((with_reducible apply nN);· decide)
 | ((with_reducible apply kP);· decide)
 | ((with_reducible apply El);· decide)
 | ((with_reducible apply Em);· decide)
 | (apply bT;(· exact rfl))
 | refine C7 ?_
 | refine wN ?_))
local macro_rules | `(tactic| rfl') => `(tactic| repeat array_mem_dec)
local macro_rules | `(tactic| symm) => `(tactic| (try dsimp only[fj,Cx.zq,Cx.lE,gF,Cx.MH,Cx.marked]))
local macro_rules | `(tactic| ac_rfl) => `(tactic| exact ⟨rfl,rfl,rfl,by decide +kernel,rfl,by decide +kernel,by decide +kernel⟩)
local macro_rules | `(tactic| nofun) => `(tactic| (intros; rename_i h; repeat (first | (obtain ⟨e, _⟩ := h; rw [e]; rfl) | obtain ⟨_, h⟩ := h)))
set_option hygiene false in
local macro_rules | `(tactic| exact_mod_cast $e) => `(tactic| (refine $e fun bq A outer s H E hr=>?_;have hu:=hr.units))
set_option hygiene false in
local macro_rules | `(tactic| norm_cast) => `(tactic| (clear hu;symm;refine fun O X W=>⟨_,inferInstance,?_⟩))
set_option hygiene false in
local macro_rules | `(tactic| push_cast) => `(tactic| (clear hu;symm;refine fun O X=>⟨_,inferInstance,?_⟩))
def top(i:Nat):Stmt:=PySem.Challenge.pw_twomakes_k22_ends_that_break_a_rule.main.body.getD i (.Pass ⟨0,0,0,0⟩)
def Ve:u8->Nat->Stmt
 | x::_,0=>x
 | _::r,n+1=>Ve r n
 | [],_=>.Pass ⟨0,0,0,0⟩
def met(j i:Nat):Stmt:=match top j with
 | .ClassDef _ _ _ b _ _ _ _ _ _ _=>Ve b i
 | x=>x
abbrev Bz(K:zn):Sp:=uY K
abbrev Kg:Stmt:=top 36
abbrev BA:Stmt:=top 37
theorem oI:ay ["script", "great", "fold", "cell"] ["script"] (defScope Kg):=by ac_rfl
theorem qc:ay ["bag", "many", "great", "one", "mixed"] ["bag", "many"] (defScope BA):=by ac_rfl
def Bg:Addr->Nat->Cell->wn->Prop:=fun g n c gs=>∃ f k:Int,c=.lst [.pt g,.im (.int f),.im (.int k)]/\0<=f/\f < 2147483629/\0<=k/\k<=n/\gs.length<=100
section
variable {K:zn}
theorem Kh(F:cA K "_law_bag" "_law_bag" Kg f fd):aW P w K mg base cI 1 f fd ["script"] (EF K (cJ Bg)):=by
 refine F.Rn oI fun bq A outer s H E hr=>?_;refine⟨_,(ae (aC 1 oI.nd (bM ag))
  (ae (aC 2 oI.nd af)
  (ae (oj (g9 (ah 0)) (a9 3 oI.nd) (ae (aU (aF jf (ah 3) af) (ai (aC 3 oI.nd (aQ cu af (ah 3)))) az)
   (ae (aC 2 oI.nd (aQ cW (aQ a8 (aQ a8 (aQ gf (ah 2) af) (aQ cW (ah 3) af)) af) af))
   (ai (aU (aF rE (ah 3) (aQ iZ af af)) (ai (dO (kO aaC aaR aaS cS (ah 1) (aa (aQ cu (ah 3) (aQ iZ af af)) ag)))) az)))))
  (ai (ax (bM (aa (ah 1) (aa (ah 2) (aa af ag))))))))),?_⟩
 symm;refine⟨_,inferInstance,fun ns EC=>?_⟩;refine cG [_,none,none,none] rfl ?_
 rfl'
 refine⟨aaJ _,.inl fun p hp=>?_⟩
 rfl'
 refine ao ?_
 rfl'
 refine EK (fun i ρ W=>∃(fo:Int) (gs:wn) (u:Option DV),ρ=[some (.iO ns),some (.pt p),some (.im (.int fo)),u]/\W=aG W0 p (.lst (eZ gs))/\gs.length<=i/\0<=fo/\fo < 2147483629) ⟨5,[],none,rfl,rfl,aae _,by decide,by decide⟩ ?_ ?_
 ·rintro i z ρ W hi ⟨fo,gs,u,rfl,rfl,hl,f0,f1⟩;have Dg:i < ns.length:=(aal.mp hi).1;have hw:aG W0 p (.lst (eZ gs)) p=some (.lst (eZ gs)):=ar
  rfl'
  refine ao ?_
  rfl'
  refine gR (fun _=>?_) (fun _=>?_)
  all_goals
   rfl'
   refine gR (fun _=>?_) (fun _=>?_)
   ·rfl'
    refine sk hw (by rw[aab];exact bR (by omega)) ?_
    rfl'
    exact⟨_,gs++[_],_,rfl,by rw[jU,show ∀ z:Int,eZ gs++[DV.im (.int z)]=eZ (gs++[z]) from fun z=>by simp],by rw[aaB];simp;omega,aa5 _ (by decide),aaU _ (by decide)⟩
   ·rfl'
    exact⟨_,gs,_,rfl,rfl,by omega,aa5 _ (by decide),aaU _ (by decide)⟩
 ·rintro ρ W ⟨fo,gs,u,rfl,rfl,hl,f0,f1⟩
  rfl'
  refine⟨(by show 3<=sizeLine;decide),.inl fun q hq=>?_⟩;have pq:p≠q:=fun z=>by rw[<- z,ar]at hq;cases hq
  exact⟨q,p,_,gs,rfl,ar,by rw[aA pq];exact ar,pq,⟨fo,0,rfl,f0,f1,ab6 _,ab6 _,by omega⟩,rfl⟩
theorem EX(F:cA K "_law_draw" "_law_draw" BA f fd):aW P w K mg base cI 1 f fd ["bag", "many"] (spT (cJ Bg) iA):=by
 exact_mod_cast F.WQ qc rfl (by nofun);refine⟨_,(ae (jo (aQ a8 (aj (ah 0) af) af) (om (ah 0) af set_list))
  (ae (aC 2 qc.nd (aj (ah 0) af))
  (ae (Ec (qW (w_and (aF (eT hu) (ah 2) (bM ag)) (dP (aF (aB hu) (aj (ah 2) af) af)))) (ai (dO (kO aaC PySem.F.slot_list_pop PySem.F.type_list_pop Av (ah 2) (aa af ag)))))
  (ae (aU (aF (eT hu) (ah 2) (bM ag)) (ae (aC 3 qc.nd (aQ cW (aj (ah 2) af) (ah 1)))
   (ae (jo (aQ jk (aj (ah 2) af) (ah 1)) (om (ah 2) af set_list))
   (ai (ax (ah 3))))) az)
  (ae (aC 4 qc.nd (aQ cW (aQ a8 (aQ gf (aQ a8 (aj (ah 0) af) af) (aQ iZ (aQ a8 (aj (ah 0) af) af) af)) (aQ gf af (aj (ah 0) af))) af))
  (ai (ax (aQ cW (aQ jk (aQ cW (aQ iZ (ah 4) af) af) af) (ah 1))))))))),?_⟩
 clear hu;symm;refine fun t g O=>⟨_,inferInstance,?_⟩;rintro n ds R c gs gt ⟨fo,kk,rfl,f0,f1,k0,k1,hl⟩ ⟨m,rfl,hn,m0,m1,q⟩;refine cG [_,_,none,none,none] rfl ?_;have keys:∀(gs:wn) (k:Int),WO t g (.lst [.pt g,.im (.int fo),.im (.int k)]) gs t=some (.lst [.pt g,.im (.int fo),.im (.int k)])/\WO t g (.lst [.pt g,.im (.int fo),.im (.int k)]) gs g=some (.lst (eZ gs)):=fun gs k=>⟨ar,by unfold WO;rw[aA gt];exact ar⟩;obtain⟨wt,wg⟩:=keys gs kk
 rfl'
 refine dM wt rfl ?_
 rfl'
 refine⟨t,_,2,2,rfl,rfl,wt,rfl,?_⟩;rw[show aG (WO t g (.lst [.pt g,.im (.int fo),.im (.int kk)]) gs) t (.lst ([DV.pt g,.im (.int fo),.im (.int kk)].set 2 (.im (.int (kk+1)))))=WO t g (.lst [.pt g,.im (.int fo),.im (.int (kk+1))]) gs from jU];clear wt wg;have kt:=fun gs=>(keys gs (kk+1)).1;have kg:=fun gs=>(keys gs (kk+1)).2;have re:∀ x y,aG (WO t g (.lst [.pt g,.im (.int fo),.im (.int (kk+1))]) x) g (.lst (eZ y))=WO t g (.lst [.pt g,.im (.int fo),.im (.int (kk+1))]) y:=fun x y=>by unfold WO;rw[yD (acj gt),jU]
 rfl'
 refine dM (kt gs) rfl ?_
 rfl'
 refine ao ?_;refine EG (fun j ρ W=>∃ Dc:List Int,j=Dc.length/\Dc.length<=100/\ρ=[some (.pt t),some (.im (.int m)),some (.pt g),none,none]/\W=WO t g (.lst [.pt g,.im (.int fo),.im (.int (kk+1))]) Dc) gs.length ⟨gs,rfl,hl,rfl,rfl⟩ ?_;rintro j ρ W ⟨Dc,rfl,PH,rfl,rfl⟩;have cl:PyData.canLay0 (.list (Dc.map .int))=true:=kr Dc
 rfl'
 refine⟨_,mm (kg Dc),cl,?_⟩;cases Dc with
 | nil =>
  rfl'
  refine wN ?_
  rfl'
  refine ao ?_
  rfl'
  refine⟨_,mm (kg []),cl,?_⟩
  rfl'
  refine wN ?_
  rfl'
  refine dM (kt []) rfl ?_
  rfl'
  refine dM (kt []) rfl ?_
  rfl'
  refine dM (kt []) rfl ?_
  rfl'
  exact⟨n+1,_,[],_,rfl,kt _,kg _,⟨fo,kk+1,rfl,f0,f1,by omega,by omega,by simp⟩,rfl,q _ (aa5 _ (by omega)) (aaU _ m0)⟩
 | cons z L =>
  have kz:WO t g (.lst [.pt g,.im (.int fo),.im (.int (kk+1))]) (z::L) g=some (.lst (.im (.int z)::eZ L)):=kg (z::L)
  rfl'
  refine C7 ?_
  rfl'
  refine dM kz (bB (j:=0) rfl) ?_
  rfl'
  refine gR (fun h2=>?_) (fun h2=>?_)
  ·rfl'
   refine⟨g,_,0,0,_,rfl,rfl,kz,by decide,by decide,by unfold seqIndex?;simp,rfl,?_⟩;exact⟨L.length,by simp,L,rfl,by simp at PH;omega,rfl,re _ _⟩
  ·refine ao ?_
   rfl'
   refine⟨_,mm (kg _),cl,?_⟩
   rfl'
   refine C7 ?_
   rfl'
   refine dM kz (bB (j:=0) rfl) ?_
   rfl'
   refine dM kz (bB (j:=0) rfl) ?_
   rfl'
   refine⟨g,_,0,0,rfl,rfl,kz,mn (ab6 _) (by simp only[aaG];omega),?_⟩;rw[show(DV.im (.int z)::eZ L).set 0 (.im (.int (z / m)))=eZ (z / m::L) from rfl,re]
   rfl'
   exact⟨n+1,_,_,_,rfl,kt _,kg _,⟨fo,kk+1,rfl,f0,f1,by omega,by omega,by simpa using PH⟩,rfl,q _ (aa5 _ (by omega)) (aaU _ m0)⟩
end
inductive Rw where
 | put (d v:Int) | op (x:Str) (d a b:Int) | mv (x:Str) (d a n:Int) | go (a p:Int) | one (x:Str)
variable {rs:List Rw}
def cC:Rw->PyData
 | .put d v=>.tuple [.str "put",.int d,.int v]
 | .op x d a b=>.tuple [.str x,.int d,.int a,.int b]
 | .mv x d a n=>.tuple [.str x,.int d,.int a,.int n]
 | .go a p=>.tuple [.str "go",.int a,.int p]
 | .one x=>.tuple [.str x]
def G6(i:Int):Prop:=0<=i/\i < 8
def Wr(i:Int):Prop:=0<=i/\i < 4294967296
def eO(m:Int):Rw->Prop
 | .put d v=>G6 d/\Wr v
 | .op x d a b=>(x = "sum"\/x = "mul"\/x = "less")/\G6 d/\G6 a/\G6 b
 | .mv x d a n=>(x = "take"\/x = "lay")/\G6 d/\G6 a/\0<=n/\n < 16
 | .go a p=>G6 a/\0<=p/\p<=m
 | .one x=>x = "shut"\/x = "open"\/x = "home"
def c7(rs:List Rw)(bs:wn):PyData:=.tuple [.tuple (rs.map cC),.tuple (bs.map .int)]
structure qd(rs:List Rw)(bs:wn):Prop where
 r1:1<=rs.length
 r2:rs.length<=40
 XG:∀ r∈rs,eO rs.length r
 b1:bs.length<=4
 XH:∀ b∈bs,0<=b/\b<=rs.length
def ua:ul->PyData
 | none=>.none
 | some k=>.int k
def XI(pl:Int)(sp ce:wn)(sh:Bool)(kp:ul):PyData:=.tuple [.int pl,.tuple (sp.map .int),.tuple (ce.map .int),.bool sh,ua kp]
structure Se(m:Int)(pl:Int)(sp ce:wn)(kp:ul):Prop where
 p0:0<=pl
 p1:pl<=m
 s8:sp.length=8
 sw:∀ z∈sp,Wr z
 Ki:ce.length=16
 cw:∀ z∈ce,Wr z
 kb:∀ k,kp=some k->0<=k/\k<=m
def pairD(p:Int×Int):PyData:=.tuple [.int p.1,.int p.2]
abbrev Kj:Stmt:=top 38
abbrev vf:Stmt:=top 39
abbrev vg:Stmt:=top 46
theorem xx:ay ["bag", "far", "k"] ["bag"] (defScope Kj):=by ac_rfl
theorem xy:ay ["bag", "kind"] ["bag"] (defScope vf):=by ac_rfl
theorem EY:ay ["found", "due"] ["found", "due"] (defScope vg):=by ac_rfl
def EZ:si:=fun n ds R=>ds=[]/\n<=999000000/\∀(r:Int) (n':Nat),0<=r->n'<=n+7->R (.im (.int r)) n'
def qe:si:=fun n ds R=>ds=[]/\n<=999000000/\∀(r:Int) (n':Nat),Wr r->n'<=n+3->R (.im (.int r)) n'
def nQ:Option (Int×Str)->PyData
 | none=>.none
 | some (i,x)=>.tuple [.int i,.str x]
def BB:jv:=fun ds R _=>∃ a b:Option (Int×Str),ds=[nQ a,nQ b]/\R (.im (.bool (decide (a=b))))
theorem E1{l:wn}(h0:0<=k)(h1:k < l.length):∃ v∈l,gX (l.map PyData.int) k=some (.int v):=by
 obtain⟨j,rfl⟩:=abq h0;have hj:j < l.length:=by omega
 exact⟨l[j],aa8 hj,bB (by rw[aag,aak hj];rfl)⟩
theorem fY{l:wn}(h0:0<=k)(h1:k < l.length)(h:∀ v∈l,Q (.im (.int v)) W):Jt (.im (.list (l.map .int))) (.im (.int k)) W Q:=by
 obtain⟨v,hv,e⟩:=E1 h0 h1;exact cV e (h v hv)
section
variable {K:zn}
theorem Kk{fD:Addr}{Sf:v6}(F:cA K "_law_far" "_law_far" Kj f fd)(aq:Dn P w K mg base 1 "_law_draw" fD Sf ["bag", "many"] (spT (cJ Bg) iA))(cH:mg "range"=none):aW P w K mg base cI 2 f fd ["bag"] (spT (cJ Bg) EZ):=by
 exact_mod_cast F.GX xx ei rfl (by nofun);refine⟨_,(ae (aC 1 xx.nd af)
  (ae (oj (gu cH (aa af ag)) (a9 2 xx.nd) (ai (aC 1 xx.nd (aQ a8 (aQ gf (ah 1) (aQ iZ af af)) (au aq hr (aa (ah 0) (aa (aQ iZ af af) ag)))))))
  (ai (ax (ah 1))))),?_⟩
 clear hu;symm;refine fun t g O=>⟨_,inferInstance,?_⟩;rintro n ds R ⟨rfl,hn,q⟩;refine cG [_,none,none] rfl ?_;have wt:WT t g n t=some (.aM g n):=ar;generalize WT t g n=W at wt;have e8:(10:Int) ^ Int.toNat 8=100000000:=by decide
 rfl'
 refine ao ?_
 rfl'
 refine xj (fun i ρ W=>∃(r:Int) (u:Option DV) (k:Nat),ρ=[some (.pt t),some (.im (.int r)),u]/\0<=r/\W t=some (.aM g k)/\k<=n+i) ⟨0,_,_,rfl,ab6 _,wt,by omega⟩ ?_ ?_
 ·rintro i ρ W hi ⟨r,u,k,rfl,r0,wt,hk⟩;have hi7:i < 7:=by omega
  rfl'
  rw[e8];refine aX wt (by omega) (by omega) (by omega) fun z W1 z0 z1 wt f1=>?_
  rfl'
  exact⟨_,_,_,rfl,by omega,wt,by omega⟩
 ·rintro ρ W ⟨r,u,k,rfl,r0,wt,hk⟩
  rfl'
  exact⟨_,wt,q r _ r0 (by have:(7:Int).toNat=7:=rfl;omega)⟩
theorem BC{fD:Addr}{Sf:v6}(F:cA K "_law_worth" "_law_worth" vf f fd)(aq:Dn P w K mg base 1 "_law_draw" fD Sf ["bag", "many"] (spT (cJ Bg) iA)):aW P w K mg base cI 2 f fd ["bag"] (spT (cJ Bg) qe):=by
 exact_mod_cast F.GX xy ei rfl (by nofun);refine⟨_,(ae (aC 1 xy.nd (au aq hr (aa (ah 0) (aa af ag))))
  (ae (aU (aF jf (ah 1) af) (ai (ax (aj (bM (cM rfl)) (ah 1)))) az)
  (ae (aU (aF (aB hu) (ah 1) af) (ai (ax (au aq hr (aa (ah 0) (aa af ag))))) az)
  (ai (ax (aQ a8 (aQ gf (au aq hr (aa (ah 0) (aa af ag))) af) (au aq hr (aa (ah 0) (aa af ag))))))))),?_⟩
 clear hu;symm;refine fun t g O=>⟨_,inferInstance,?_⟩;rintro n ds R ⟨rfl,hn,q⟩;refine cG [_,none] rfl ?_;have wt:WT t g n t=some (.aM g n):=ar;generalize WT t g n=W at wt
 rfl'
 refine aX wt (by omega) (by omega) (by omega) fun k W1 k0 k1 wt f1=>?_
 rfl'
 refine ao ?_
 rfl'
 refine gR (fun h=>?_) (fun h=>?_)
 ·rfl'
  refine cg (ds:=[0,1,4294967295].map PyData.int) (by show 3<=sizeLine;decide) ?_
  rfl'
  refine fY k0 h fun v hv=>?_;have:v=0\/v=1\/v=4294967295:=by simpa using hv
  exact⟨_,wt,q v _ ⟨by omega,by omega⟩ (by omega)⟩
 rfl'
 refine ao ?_
 rfl'
 refine gR (fun h=>?_) (fun h=>?_)
 ·rfl'
  refine aX wt (by omega) (by omega) (by omega) fun r W2 r0 r1 wt f2=>?_;exact⟨_,wt,q r _ ⟨by omega,by omega⟩ (by omega)⟩
 rfl'
 refine aX wt (by omega) (by omega) (by omega) fun r W2 r0 r1 wt f2=>?_
 rfl'
 refine aX wt (by omega) (by omega) (by omega) fun r' W3 r0' r1' wt f3=>?_
 rfl'
 exact⟨_,wt,q _ _ ⟨by omega,by omega⟩ (by omega)⟩
theorem BD(F:cA K "_law_right" "_law_right" vg f fd)(cT:mg "isinstance"=none)(eB:mg "tuple"=none)(bL:mg "len"=none)(BE:mg "str"=none)(vh:mg "bool"=none)(gz:mg "int"=none):aW P w K mg base cI 1 f fd ["found", "due"] (dm BB):=by
 exact_mod_cast F.pS EY (by nofun);refine⟨_,(ae (aU (iW (ah 1)) (ai (ax (Gq (ah 0)))) az)
  (ae (aU (qW (w_or (ku (pv (wM cT eB abS (ah 0)))) (w_or (aF (eT hu) (cE bZ bL aba (aa (ah 0) ag)) af) (rX (ku (pv (wM cT BE PyProof.Rows.boot_str (aj (ah 0) af)))))))) (ai (ax rW)) az)
  (ae (aU (qW (w_or (pv (wM cT vh PyProof.Rows.boot_bool (aj (ah 0) af))) (rX (ku (pv (wM cT gz abF (aj (ah 0) af))))))) (ai (ax rW)) az)
  (ai (ax (AM (gw (aB hu) (aj (ah 0) af) (aj (ah 1) af)) (wL (gw (aB hu) (aj (ah 0) af) (aj (ah 1) af))))))))),?_⟩
 push_cast;rintro ds R ⟨a,b,rfl,q⟩;refine ao ?_;rcases a with _ | ⟨i,x⟩<;>rcases b with _ | ⟨j,y⟩<;>dsimp only[nQ]
 ·sizeOf_list_dec
  exact q
 ·sizeOf_list_dec
  refine ao ?_
  sizeOf_list_dec
  exact q
 ·sizeOf_list_dec
  exact q
 ·sizeOf_list_dec
  refine ao ?_
  sizeOf_list_dec
  refine ao ?_
  sizeOf_list_dec
  refine gR (fun h=>?_) (fun h=>?_)
  ·sizeOf_list_dec
   rw[show decide (x=y)=decide (some (i,x)=some (j,y)) by rw[h];simp];exact q
  ·rw[aaq (by simp[h])]at q;exact q
end
abbrev mG:Stmt:=top 11
abbrev qf:Stmt:=top 12
abbrev BF:Stmt:=top 14
abbrev Kl:Stmt:=top 17
abbrev BG:Stmt:=top 18
abbrev qg:Stmt:=top 19
abbrev vi:Stmt:=top 20
abbrev vj:Stmt:=top 21
abbrev qh:Stmt:=top 22
abbrev vk:Stmt:=top 26
abbrev BH:Stmt:=top 27
abbrev BI:Stmt:=top 28
abbrev BJ:Stmt:=top 29
theorem yT:ay ["number"] ["number"] (defScope mG):=by ac_rfl
theorem BK:ay ["worth", "n"] ["worth", "n"] (defScope qf):=by ac_rfl
theorem vm:ay ["row", "part", "number"] ["row"] (defScope BF):=by ac_rfl
theorem xA:ay ["row", "spots", "cells", "word", "one", "other"] ["row", "spots", "cells"] (defScope Kl):=by ac_rfl
theorem BL:ay ["row", "spots", "cells", "spot"] ["row", "spots", "cells"] (defScope BG):=by ac_rfl
theorem BM:ay ["row", "place", "spots", "kept"] ["row", "place", "spots", "kept"] (defScope qg):=by ac_rfl
theorem E2:ay ["row", "shut"] ["row", "shut"] (defScope vi):=by ac_rfl
theorem E3:ay ["row", "kept"] ["row", "kept"] (defScope vj):=by ac_rfl
theorem BN:ay ["mill", "k"] ["mill", "k"] (defScope qh):=by ac_rfl
theorem E4:ay ["mill", "state"] ["mill", "state"] (defScope vk):=by ac_rfl
theorem BO:ay ["worths", "kind", "wrote", "at"] ["worths", "kind", "wrote"] (defScope BH):=by ac_rfl
theorem iD:ay ["mill", "state", "place", "spots", "cells", "kept", "row", "wrote", "behind"] ["mill", "state"] (defScope BI):=by ac_rfl
theorem Km:ay ["mill", "state", "k"] ["mill", "state", "k"] (defScope BJ):=by ac_rfl
def bI:List (Str×ww):=[("put",["d", "worth"]),("sum",["d", "a", "b"]),("mul",["d", "a", "b"]),("less",["d", "a", "b"]),("take",["d", "a", "n"]),("lay",["b", "a", "n"]),("go",["a", "p"]),("shut",[]),("open",[]),("home",[])]
def j1(x:Str):Option (List V):=(bI.lookup x).map fun ps=>ps.map V.str
theorem lookup_mem{α β:Type}[BEq α][LawfulBEq α]{a:α}{b:β}:∀{l:List (α×β)},l.lookup a=some b->(a,b)∈l
 | [],h=>by cases h
 | (x,y)::r,h=>by
  rw[aaM]at h
  by_cases e:a == x
  ·rw[e]at h;cases h;rw[abT.mp e];exact aaw ..
  ·rw[Bool.not_eq_true _ |>.mp e]at h;exact aan _ (lookup_mem h)
structure Parts(K:zn)(w:World)(a:Addr):Prop where
 ex:∃ bC:List (Key×V),ym K w a bC/\(∀ x ps,bI.lookup x=some ps->∃ b,lM bC (Sum.inr x)=some (.ref b)/\∀ H,eY K H b (ps.map V.str))/\∀ x,bI.lookup x=none->lM bC (Sum.inr x)=none
theorem Parts.mt{K:zn}{a:Addr}(h:Parts K w a):ModT K w a j1:=by
 obtain⟨bC,h1,h2,_⟩:=h.ex;refine⟨bC,h1,fun x xs e=>?_⟩;unfold j1 at e;cases q:bI.lookup x with
 | none=>rw[q]at e;cases e
 | some ps=>rw[q]at e;cases e;exact h2 x ps q
def fA(ps:ww)(ns:wn):Option Int:=((ps.zip ns).find? fun p=>decide (p.1=("d":Str))).map (·.2)
def gI(xs:wn)(i:Int):Int:=xs.getD i.toNat 0
theorem G7{i:Int}(h0:0<=i)(h1:i < xs.length):gX (xs.map PyData.int) i=some (.int (gI xs i)):=by
 obtain⟨n,rfl⟩:∃ n:Nat,i=(n:Int):=⟨i.toNat,by omega⟩;refine bB ?_;have hn:n < xs.length:=by omega
 rw[aag,aak hn];unfold gI;simp[aaE,hn]
theorem BP{i:Int}(h0:0<=i)(h1:i < xs.length):gI xs i∈xs:=by
 unfold gI;have hn:i.toNat < xs.length:=by omega
 rw[aaE,aak hn];exact aa8 hn
abbrev jK:=Option (Str×Int×Int)
def dD:jK->PyData
 | none=>.none
 | some (k,a,w)=>.tuple [.str k,.int a,.int w]
structure nF where
 place:Int
 aY:List Int
 cells:List Int
 fN:Bool
 kept:Option Int
abbrev dQ(s:nF):PyData:=XI s.place s.aY s.cells s.fN s.kept
abbrev fZ(n:Nat)(s:nF):Prop:=Se n s.place s.aY s.cells s.kept
def Kn(e:Int×jK):PyData:=.tuple [.int e.1,dD e.2]
def Rw.d?:Rw->Option Int
 | .put d _=>some d
 | .op _ d _ _=>some d
 | .mv x d _ _=>if x = "lay" then none else some d
 | _=>none
def Rw.gives(sp ce:wn):Rw->Int
 | .put _ v=>v
 | .op x _ a b=>if x = "sum" then(gI sp a+gI sp b) % 4294967296 else if x = "mul" then gI sp a * gI sp b % 4294967296 else if gI sp a < gI sp b then 1 else 0
 | .mv _ _ a n=>gI ce ((gI sp a+n) % 16)
 | _=>0
def Rw.wrote(sp ce:wn):Rw->jK
 | .mv x d a n=>if x = "lay" then some ("cell",(gI sp a+n) % 16,gI sp d)else some ("spot",d,Rw.gives sp ce (.mv x d a n))
 | .put d v=>some ("spot",d,v)
 | .op x d a b=>some ("spot",d,Rw.gives sp ce (.op x d a b))
 | _=>none
def iE(sp:wn)(place:Int)(kept:ul):Rw->Int
 | .go a p=>if gI sp a=0 then place+1 else p
 | .one x=>if x = "home" then kept.getD (place+1)else place+1
 | _=>place+1
def BQ(fN:Bool):Rw->Bool
 | .one x=>decide (x = "shut")
 | _=>fN
def oJ(kept:ul):Rw->Option Int
 | .one x=>if x = "home" then none else kept
 | _=>kept
def c8(kind:Str)(ws:wn):jK->List Int
 | none=>ws
 | some (k,a,w)=>if k=kind then ws.set a.toNat w else ws
def rowOf(rows:List Rw)(place:Int):Rw:=rows.getD place.toNat (.one "home")
def gb(r:Rw)(s:nF):nF:=⟨iE s.aY s.place s.kept r,c8 "spot" s.aY (r.wrote s.aY s.cells),c8 "cell" s.cells (r.wrote s.aY s.cells),BQ s.fN r,oJ s.kept r⟩
def xB(sO:wn)(k:Int)(s:nF):nF:=⟨gI sO k,s.aY,s.cells,true,some s.place⟩
theorem BR(n:Int):Wr (n % 4294967296):=⟨aa5 _ (by decide),aaU _ (by decide)⟩
def kB:jK->Prop
 | none=>True
 | some (k,a,w)=>((k = "spot"/\0<=a/\a < 8)\/(k = "cell"/\0<=a/\a < 16))/\Wr w
theorem sP(h:∀ z∈xs,Wr z)(i:Int):Wr (gI xs i):=by
 unfold gI;rw[aaE];cases e:xs[i.toNat]? with
 | none=>exact⟨by decide,by decide⟩
 | some z=>exact h z (abe e)
theorem iF{r:Rw}{m:Int}{sp ce:wn}(ok:eO m r)(ws:∀ z∈sp,Wr z)(wc:∀ z∈ce,Wr z):kB (r.wrote sp ce):=by
 cases r with
 | put d n=>exact⟨.inl ⟨rfl,ok.1⟩,ok.2⟩
 | op x d a b =>
  refine⟨.inl ⟨rfl,ok.2.1⟩,?_⟩;show Wr (if x = "sum" then(gI sp a+gI sp b) % 4294967296 else if x = "mul" then gI sp a * gI sp b % 4294967296 else if gI sp a < gI sp b then 1 else 0);split
  ·exact BR _
  split
  ·exact BR _
  split
  ·exact⟨by decide,by decide⟩
  ·exact⟨by decide,by decide⟩
 | mv x d a n =>
  show kB (if x = "lay" then some ("cell",(gI sp a+n) % 16,gI sp d)else some ("spot",d,gI ce ((gI sp a+n) % 16)));split
  ·exact⟨.inr ⟨rfl,aa5 _ (by decide),aaU _ (by decide)⟩,sP ws _⟩
  ·exact⟨.inl ⟨rfl,ok.2.1⟩,sP wc _⟩
 | go a p=>trivial
 | one x=>trivial
theorem oK(k:Str)(ws:wn)(w:jK):(c8 k ws w).length=ws.length:=by
 unfold c8;split
 ·rfl
 ·split
  ·rw[acI]
  ·rfl
theorem sQ{k:Str}{w:jK}(h:∀ z∈ws,Wr z)(ok:kB w):∀ z∈c8 k ws w,Wr z:=by
 unfold c8;split
 ·exact h
 ·split
  ·intro z hz;rcases acd hz with hz | hz
   ·exact h z hz
   ·rw[hz];exact ok.2
  ·exact h
theorem gA{bs:wn}(h:qd rs bs){place:Int}(h0:0<=place)(h1:place < rs.length):gX (rs.map cC) place=some (cC (rowOf rs place))/\eO rs.length (rowOf rs place):=by
 have gn:place.toNat < rs.length:=by omega
 have e:rs[place.toNat]?=some rs[place.toNat]:=aak gn;have e2:rowOf rs place=rs[place.toNat]:=by unfold rowOf;rw[aaE,e];rfl
 rw[e2];refine⟨?_,h.XG _ (aa8 gn)⟩;have ha:gX (rs.map cC) ((place.toNat:Nat):Int)=some (cC rs[place.toNat]):=bB (by rw[aag,e];rfl);rw[show((place.toNat:Nat):Int)=place by omega]at ha;exact ha
theorem xC{s:nF}{r:Rw}(h:fZ n s)(hp:s.place < n)(ok:eO n r):fZ n (gb r s):=by
 have Dh:=iF ok h.sw h.cw;refine⟨?_,?_,by show(c8 _ _ _).length=8;rw[oK];exact h.s8,sQ h.sw Dh,by show(c8 _ _ _).length=16;rw[oK];exact h.Ki,sQ h.cw Dh,?_⟩
 ·show 0<=iE s.aY s.place s.kept r;have:=h.p0;unfold iE;split
  ·split
   ·omega
   ·exact ok.2.1
  ·split
   ·cases e:s.kept with
    | none=>show 0<=s.place+1;omega
    | some k=>exact(h.kb k e).1
   ·omega
  ·omega
 ·show iE s.aY s.place s.kept r<=n;unfold iE;split
  ·split
   ·omega
   ·exact ok.2.2
  ·split
   ·cases e:s.kept with
    | none=>show s.place+1<=n;omega
    | some k=>exact(h.kb k e).2
   ·omega
  ·omega
 ·intro k e;have e:oJ s.kept r=some k:=e;unfold oJ at e;split at e
  ·split at e
   ·cases e
   ·exact h.kb k e
  ·exact h.kb k e
theorem E5{s:nF}{sO:wn}(h:fZ n s)(hb:∀ b∈sO,0<=b/\b<=(n:Int))(k0:0<=k)(k1:k < sO.length):fZ n (xB sO k s) :=
 ⟨(hb _ (BP k0 k1)).1,(hb _ (BP k0 k1)).2,h.s8,h.sw,h.Ki,h.cw,fun j e=>by cases e;exact⟨h.p0,h.p1⟩⟩
def G8:jv:=fun ds R _=>∃ i:Int,ds=[.int i]/\R (.im (.int (i % 4294967296)))
def qi:jv:=fun ds R _=>∃ a n:Int,ds=[.int a,.int n]/\R (.im (.int ((a+n) % 16)))
def xD:jv:=fun ds R _=>∃(x:Str) (ps:ww) (ns:wn),ds=[.tuple (.str x::ns.map .int)]/\bI.lookup x=some ps/\R (.im (ua (fA ps ns)))
def bJ(xs:wn):PyData:=.tuple (xs.map .int)
def Ot:jv:=fun ds R _=>∃(r:Rw) (m:Int) (sp ce:wn),ds=[cC r,bJ sp,bJ ce]/\eO m r/\sp.length=8/\ce.length=16/\(∀ z∈sp,Wr z)/\r.d?.isSome=true/\R (.im (.int (r.gives sp ce)))
def G9:jv:=fun ds R _=>∃(r:Rw) (m:Int) (sp ce:wn),ds=[cC r,bJ sp,bJ ce]/\eO m r/\sp.length=8/\ce.length=16/\(∀ z∈sp,Wr z)/\R (.im (dD (r.wrote sp ce)))
def xE:jv:=fun ds R _=>∃(r:Rw) (m place:Int) (sp:wn) (kept:ul),ds=[cC r,.int place,bJ sp,ua kept]/\eO m r/\sp.length=8/\R (.im (.int (iE sp place kept r)))
def BS:jv:=fun ds R _=>∃(r:Rw) (m:Int) (fN:Bool),ds=[cC r,.bool fN]/\eO m r/\R (.im (.bool (BQ fN r)))
def BU:jv:=fun ds R _=>∃(r:Rw) (m:Int) (kept:ul),ds=[cC r,ua kept]/\eO m r/\R (.im (ua (oJ kept r)))
def xF:jv:=fun ds R _=>∃(rs:List Rw) (bs:wn) (k:Int),ds=[c7 rs bs,.int k]/\R (.im (.bool (decide (0<=k)&&decide (k < bs.length))))
def qj:jv:=fun ds R _=>∃(rs:List Rw) (bs:wn) (pl:Int) (r:wP),ds=[c7 rs bs,.tuple (.int pl::r)]/\R (.im (.bool (decide (pl=rs.length))))
def Ha:jv:=fun ds R _=>∃(ws:wn) (kind:Str) (wr:jK),ds=[bJ ws,.str kind,dD wr]/\2<=ws.length/\ws.length<=16/\(∀ a w,wr=some (kind,a,w)->0<=a/\a < ws.length)/\R (.im (bJ (c8 kind ws wr)))
def SStep(aR:Addr):jv:=fun ds R X=>∃(rs:List Rw) (bs:wn) (s:nF),ds=[c7 rs bs,dQ s]/\qd rs bs/\fZ rs.length s /\
 (s.place < rs.length->R (.im (.tuple [dQ (gb (rowOf rs s.place) s),Kn (s.place,(rowOf rs s.place).wrote s.aY s.cells)])))/\(s.place=rs.length->X aR)
def BV(aN aS:Addr):jv:=fun ds R X=>∃(rs:List Rw) (bs:wn) (s:nF) (k:Int),ds=[c7 rs bs,dQ s,.int k] /\
 (0<=k/\k < bs.length->s.fN=false->R (.im (dQ (xB bs k s))))/\(¬ (0<=k/\k < bs.length)->X aN)/\(0<=k/\k < bs.length->s.fN=true->X aS)
theorem BW{x:PyData}{xs:wP}(h:Q (.im (.tuple xs)) W):Ex (.im (.tuple (x::xs))) (some 1) none W Q:=by
 have e:HT.dj (x::xs).length 0 (some 1)=1:=by
  rw[show(some 1:ul)=some ((1:Nat):Int) from rfl,HT.lh];show min 1 (xs.length+1)=1;omega
 refine⟨_,rfl,fun h=>by rw[e]at h;exact absurd h.1 (by decide),?_⟩;have e2:cutD (x::xs) (some 1) none=xs:=by
  unfold cutD;rw[e];show((x::xs).drop 1).take ((x::xs).length - 1)=_;rw[List.drop_one,List.tail_cons,aaG,Nat.add_sub_cancel,aby]
 rw[e2];exact h
theorem Ko(h0:0<=k)(h1:k < ws.length)(h:Q (.im (bJ (ws.take k.toNat))) W):Ex (.im (bJ ws)) none (some k) W Q:=by
 have e:HT.dj (ws.map PyData.int).length (ws.map PyData.int).length (some k)=k.toNat:=by
  have ek:k=((k.toNat:Nat):Int):=by omega
  rw[ek,HT.lh,aab];simp only[aay];omega
 refine⟨_,rfl,fun h=>by rw[e,aab]at h;omega,?_⟩;have e2:cutD (ws.map PyData.int) none (some k)=(ws.take k.toNat).map .int:=by
  unfold cutD;rw[e,HT.lQ,List.drop_zero,Nat.sub_zero,List.map_take]
 rw[e2];exact h
theorem BX(h0:0 < k)(h1:k<=ws.length)(h:Q (.im (bJ (ws.drop k.toNat))) W):Ex (.im (bJ ws)) (some k) none W Q:=by
 have e:HT.dj (ws.map PyData.int).length 0 (some k)=k.toNat:=by
  have ek:k=((k.toNat:Nat):Int):=by omega
  rw[ek,HT.lh,aab];simp only[aay];omega
 refine⟨_,rfl,fun h=>by rw[e]at h;omega,?_⟩;have e2:cutD (ws.map PyData.int) (some k) none=(ws.drop k.toNat).map .int:=by
  unfold cutD;rw[e,HT.lQ,List.map_drop];exact abW (by rw[abw];exact aae _)
 rw[e2];exact h
theorem E6{k:Nat}{x:Int}(h:k < ws.length):ws.take k++[x]++ws.drop (k+1)=ws.set k x:=by
 rw[List.set_eq_take_append_cons_drop,aau h,abO];rfl
theorem sR{a b:Str}:decide (a=b)=decide (b=a):=decide_eq_decide.mpr eq_comm
theorem gS(h0:0<=k)(h1:k < ws.length)(h:Q (.im (.int (gI ws k))) W):Jt (.im (bJ ws)) (.im (.int k)) W Q:=bT (G7 h0 h1) h
section
variable {K:zn}
theorem vn{tk:Tok}(F:cA K "wrapped" "wrapped" mG f fd)(mH:mg "WORTHS"=some (.int 4294967296 tk)):aW P w K mg base cI 1 f fd ["number"] (dm G8):=by
 refine F.pS yT (by nofun) fun bq A outer s H E hr=>?_;refine⟨_,(ai (ax (aQ cW (ah 0) (Gp mH)))),?_⟩;symm;refine fun O X=>⟨_,inferInstance,?_⟩;rintro ds R ⟨i,rfl,q⟩
 rfl'
 exact q
theorem yU{tk:Tok}(F:cA K "cell_at" "cell_at" qf f fd)(qk:mg "CELLS"=some (.int 16 tk)):aW P w K mg base cI 1 f fd ["worth", "n"] (dm qi):=by
 refine F.pS BK (by nofun) fun bq A outer s H E hr=>?_;refine⟨_,(ai (ax (aQ cW (aQ a8 (ah 0) (ah 1)) (Gp qk)))),?_⟩;symm;refine fun O X=>⟨_,inferInstance,?_⟩;rintro ds R ⟨a,n,rfl,q⟩
 rfl'
 exact q
theorem E7{aP:Addr}(F:cA K "spot_written" "spot_written" BF f fd)(iS:mg "PARTS"=some (.ref aP))(hP:ModT K w aP j1)(oM:mg "zip"=none):aW P w K mg base cI 1 f fd ["row"] (dm xD):=by
 exact_mod_cast F.pS vm (by nofun);refine⟨_,(ae (oj (Gn .T .T oM (aa (NZ iS hP (aj (ah 0) af)) (aa (AN o8 (ah 0) (l4 af) l0) ag))) (gK (n:=2) (bh (a9 1 vm.nd) (bh (a9 2 vm.nd) gD))) (ai (aU (aF (aB hu) (ah 1) aE) (ai (ax (ah 2))) az)))
  (ai (ax dJ))),?_⟩
 push_cast;rintro ds R ⟨x,ps,ns,rfl,hx,q⟩;refine cG [_,none,none] rfl ?_;refine ao ?_
 rfl'
 refine bT (D:=.str x) (bB (j:=0) rfl) ?_;refine⟨x,_,rfl,by unfold j1;rw[hx];rfl,?_⟩
 rfl'
 refine BW ?_
 rfl'
 have fl:(ps.map V.str).all cU=true:=by rw[List.all_map];exact aa7.mpr fun _ _=>rfl
 refine GY (ds:=ps.map .str) (es:=ns.map .int) (by show jt (.cst _)=_;simp only[jt,fl,acq,acx];rfl) rfl ?_;refine xm (fun i ρ W=>∃ u v,ρ=[some (.im (.tuple (.str x::ns.map .int))),u,v]/\((ps.zip ns).take i).find? (fun p=>decide (p.1=("d":Str)))=none) ⟨_,_,rfl,rfl⟩ (fun _ _ _ _=>⟨trivial,trivial⟩) ?_ ?_
 ·rintro i a d ρ W ha hd ⟨u,v,rfl,h4⟩;rw[aag]at ha hd;obtain⟨pz,Ou,rfl⟩:=aaH.mp ha;obtain⟨nz,PJ,rfl⟩:=aaH.mp hd;have hz:(ps.zip ns)[i]?=some (pz,nz):=aa3.mpr ⟨Ou,PJ⟩
  rfl'
  refine gR (fun c1=>?_) (fun c1=>?_)
  ·rfl'
   have e:fA ps ns=some nz:=by
    unfold fA;have h5:((ps.zip ns).take (i+1)).find? (fun p=>decide (p.1=("d":Str)))=some (pz,nz):=by
     rw[aaY,hz,acW,h4,Option.none_or];show(List.find? _ [(pz,nz)])=_;rw[ab2,show decide (((pz,nz):Str×Int).1=("d":Str))=true from abm c1]
    rw[<- List.take_append_drop (i+1) (ps.zip ns),acW,h5]
    rfl
   rw[e]at q;exact q
  ·rfl'
   refine⟨_,_,rfl,?_⟩;rw[aaY,hz,acW,h4,Option.none_or];show(List.find? _ [(pz,nz)])=_;rw[ab2,show decide (((pz,nz):Str×Int).1=("d":Str))=false from aaq c1]
   rfl
 ·rintro ρ W ⟨u,v,rfl,h4⟩
  rfl'
  have e:fA ps ns=none:=by
   unfold fA;rw[abW (by rw[adg,aab,aab];exact aae _)]at h4;rw[h4]
   rfl
  rw[e]at q;exact q
theorem Kq{fW fC:Addr}{Sg:v6}(F:cA K "worth_got" "worth_got" Kl f fd)(sS:Dn P w K mg base 1 "wrapped" fW Ov ["number"] (dm G8))(mI:Dn P w K mg base 1 "cell_at" fC Sg ["worth", "n"] (dm qi)):aW P w K mg base cI 2 f fd ["row", "spots", "cells"] (dm Ot):=by
 exact_mod_cast F.pS xA (by nofun);refine⟨_,(ae (aC 3 xA.nd (aj (ah 0) af))
  (ae (aU (aF (aB hu) (ah 3) aE) (ai (ax (aj (ah 0) af))) az)
  (ae (aC 4 xA.nd (aj (ah 1) (aj (ah 0) af)))
  (ae (aU (aF (aB hu) (ah 3) aE) (ai (ax (aj (ah 2) (au mI hr (aa (ah 4) (aa (aj (ah 0) af) ag)))))) az)
  (ae (aC 5 xA.nd (aj (ah 1) (aj (ah 0) af)))
  (ae (aU (aF (aB hu) (ah 3) aE) (ai (ax (au sS hr (aa (aQ a8 (ah 4) (ah 5)) ag)))) az)
  (ae (aU (aF (aB hu) (ah 3) aE) (ai (ax (au sS hr (aa (aQ gf (ah 4) (ah 5)) ag)))) az)
  (ai (ax (px (aF jf (ah 4) (ah 5)) af af)))))))))),?_⟩
 push_cast;rintro ds R ⟨r,m,sp,ce,rfl,ok,l8,Ld,sw,hd,q⟩;refine cG [_,_,_,none,none,none] rfl ?_;cases r with
 | put d v =>
  dsimp only[cC];array_get_dec;refine ao ?_;array_get_dec;exact q
 | op x d a b =>
  obtain⟨hx,o1,o2,o3⟩:=ok;dsimp only[cC];array_get_dec;refine ao ?_;have ra:=sP sw a;have ra0:=ra.1;have ra1:=ra.2;rcases hx with rfl | rfl | rfl
  ·array_get_dec;refine gS o2.1 (by have:=o2.2;omega) ?_;array_get_dec;refine ao ?_;array_get_dec;refine gS o3.1 (by have:=o3.2;omega) ?_;array_get_dec;refine ao ?_;array_get_dec;exact aV (ds:=[.int _]) ⟨_,rfl,q⟩
  ·array_get_dec;refine gS o2.1 (by have:=o2.2;omega) ?_;array_get_dec;refine ao ?_;array_get_dec;refine gS o3.1 (by have:=o3.2;omega) ?_;array_get_dec;refine ao ?_;array_get_dec;refine ao ?_;array_get_dec;exact aV (ds:=[.int _]) ⟨_,rfl,q⟩
  ·array_get_dec;refine gS o2.1 (by have:=o2.2;omega) ?_;array_get_dec;refine ao ?_;array_get_dec;refine gS o3.1 (by have:=o3.2;omega) ?_;array_get_dec;refine ao ?_;array_get_dec;refine ao ?_;array_get_dec;have q':R (.im (.int (if gI sp a < gI sp b then 1 else 0))):=q;refine gR (fun h=>?_) (fun h=>?_)
   ·rw[aau h]at q';array_get_dec;exact q'
   ·rw[aao h]at q';array_get_dec;exact q'
 | mv x d a n =>
  obtain⟨hx,o1,o2,o3⟩:=ok;have XJ:x = "take":=by
   rcases hx with h | h
   ·exact h
   ·subst h;cases hd
  subst XJ;dsimp only[cC];array_get_dec;refine ao ?_;array_get_dec;refine gS o2.1 (by have:=o2.2;omega) ?_;array_get_dec;refine ao ?_;array_get_dec;refine aV (ds:=[.int _,.int _]) ⟨_,_,rfl,?_⟩;array_get_dec;refine gS (aa5 _ (by decide)) (by rw[Ld];exact aaU _ (by decide)) ?_;exact q
 | go a p=>cases hd
 | one x=>cases hd
theorem E8{fC fS fG:Addr}{Sg Sh XM:v6}(F:cA K "what_it_writes" "what_it_writes" BG f fd)(mI:Dn P w K mg base 1 "cell_at" fC Sg ["worth", "n"] (dm qi))(gj:Dn P w K mg base 1 "spot_written" fS Sh ["row"] (dm xD))(vo:Dn P w K mg base 2 "worth_got" fG XM ["row", "spots", "cells"] (dm Ot)):aW P w K mg base cI 3 f fd ["row", "spots", "cells"] (dm G9):=by
 exact_mod_cast F.pS BL (by nofun);refine⟨_,(ae (aU (aF (aB hu) (aj (ah 0) af) aE) (ai (ax (bg (aa aE (aa (au mI hr (aa (aj (ah 1) (aj (ah 0) af)) (aa (aj (ah 0) af) ag))) (aa (aj (ah 1) (aj (ah 0) af)) ag)))))) az)
  (ae (aC 3 BL.nd (au gj hr (aa (ah 0) ag)))
  (ae (aU (iW (ah 3)) (ai (ax dJ)) az)
  (ai (ax (bg (aa aE (aa (ah 3) (aa (au vo hr (aa (ah 0) (aa (ah 1) (aa (ah 2) ag)))) ag))))))))),?_⟩
 push_cast;rintro ds R ⟨r,m,sp,ce,rfl,ok,l8,Ld,sw,q⟩;refine cG [_,_,_,none] rfl ?_;have hg:=ok;cases r with
 | put d v =>
  refine ao ?_;dsimp only[cC];array_get_dec;refine aV (ds:=[.tuple [.str "put",.int d,.int v]]) ⟨"put",["d", "worth"],[d,v],rfl,rfl,?_⟩;show i6 _ _ (.im (.int d));array_get_dec;refine ao ?_;array_get_dec;refine wN ?_;array_get_dec;refine aV (ds:=[cC (.put d v),bJ sp,bJ ce]) ⟨.put d v,m,sp,ce,rfl,hg,l8,Ld,sw,rfl,?_⟩;array_get_dec;exact aw (ds:=[.str "spot",.int d,.int _]) (by show 3<=sizeLine;decide) q
 | op x d a b =>
  refine ao ?_;dsimp only[cC];have hw:∃ ps,bI.lookup x=some ps/\fA ps [d,a,b]=some d:=by
   rcases hg.1 with rfl | rfl | rfl
   ·exact⟨_,rfl,rfl⟩
   ·exact⟨_,rfl,rfl⟩
   ·exact⟨_,rfl,rfl⟩
  obtain⟨ps,Vf,Pw⟩:=hw;have nl:¬ (x = "lay"):=by rcases hg.1 with rfl | rfl | rfl<;>decide +kernel
  array_get_dec;refine aV (ds:=[.tuple [.str x,.int d,.int a,.int b]]) ⟨x,ps,[d,a,b],rfl,Vf,?_⟩;rw[Pw];show i6 _ _ (.im (.int d));array_get_dec;refine ao ?_;array_get_dec;refine wN ?_;array_get_dec;refine aV (ds:=[cC (.op x d a b),bJ sp,bJ ce]) ⟨.op x d a b,m,sp,ce,rfl,hg,l8,Ld,sw,rfl,?_⟩;array_get_dec;exact aw (ds:=[.str "spot",.int d,.int _]) (by show 3<=sizeLine;decide) q
 | mv x d a n =>
  obtain⟨hx,o1,o2,o3⟩:=ok;refine ao ?_;dsimp only[cC];rcases hx with rfl | rfl
  ·array_get_dec;refine aV (ds:=[.tuple [.str "take",.int d,.int a,.int n]]) ⟨"take",_,[d,a,n],rfl,rfl,?_⟩;show i6 _ _ (.im (.int d));array_get_dec;refine ao ?_;array_get_dec;refine wN ?_;array_get_dec;refine aV (ds:=[cC (.mv "take" d a n),bJ sp,bJ ce]) ⟨.mv "take" d a n,m,sp,ce,rfl,hg,l8,Ld,sw,rfl,?_⟩;array_get_dec;exact aw (ds:=[.str "spot",.int d,.int _]) (by show 3<=sizeLine;decide) q
  ·array_get_dec;refine gS o2.1 (by have:=o2.2;omega) ?_;array_get_dec;refine aV (ds:=[.int _,.int _]) ⟨_,_,rfl,?_⟩;array_get_dec;refine gS o1.1 (by have:=o1.2;omega) ?_;array_get_dec;exact aw (ds:=[.str "cell",.int _,.int _]) (by show 3<=sizeLine;decide) q
 | go a p =>
  refine ao ?_;dsimp only[cC];array_get_dec;refine aV (ds:=[.tuple [.str "go",.int a,.int p]]) ⟨"go",_,[a,p],rfl,rfl,?_⟩;show i6 _ _ (.im .none);array_get_dec;refine ao ?_;array_get_dec;refine C7 ?_;array_get_dec;exact q
 | one x =>
  refine ao ?_;dsimp only[cC];rcases (show x = "shut"\/x = "open"\/x = "home" from ok)with rfl | rfl | rfl
  all_goals
   array_get_dec
   refine aV (ds:=[.tuple [.str _]]) ⟨_,_,[],rfl,rfl,?_⟩
   show i6 _ _ (.im .none)
   array_get_dec
   refine ao ?_
   array_get_dec
   refine C7 ?_
   array_get_dec
   exact q
theorem BY(F:cA K "place_behind" "place_behind" qg f fd):aW P w K mg base cI 1 f fd ["row", "place", "spots", "kept"] (dm xE):=by
 exact_mod_cast F.pS BM (by nofun);refine⟨_,(ae (aU (qW (w_and (aF (aB hu) (aj (ah 0) af) aE) (dP (aF (eT hu) (aj (ah 2) (aj (ah 0) af)) af)))) (ai (ax (aj (ah 0) af))) az)
  (ae (aU (qW (w_and (aF (aB hu) (aj (ah 0) af) aE) (dP (lZ (ah 3))))) (ai (ax (ah 3))) az)
  (ai (ax (aQ a8 (ah 1) af))))),?_⟩
 push_cast;rintro ds R ⟨r,m,place,sp,kept,rfl,ok,l8,q⟩;refine ao ?_;cases r with
 | put d v =>
  dsimp only[cC];array_get_dec;refine ao ?_;array_get_dec;exact q
 | op x d a b =>
  dsimp only[cC];rcases ok.1 with rfl | rfl | rfl
  all_goals
   array_get_dec
   refine ao ?_
   array_get_dec
   exact q
 | mv x d a n =>
  dsimp only[cC];rcases ok.1 with rfl | rfl
  all_goals
   array_get_dec
   refine ao ?_
   array_get_dec
   exact q
 | go a p =>
  obtain⟨o1,o2⟩:=ok;dsimp only[cC];array_get_dec;refine gS o1.1 (by have:=o1.2;omega) ?_;have q':R (.im (.int (if gI sp a=0 then place+1 else p))):=q;array_get_dec;refine En (fun h=>?_) (fun h=>?_)
  ·rw[aao h]at q';array_get_dec;exact q'
  ·rw[aau h]at q';array_get_dec;refine ao ?_;array_get_dec;exact q'
 | one x =>
  dsimp only[cC];rcases (show x = "shut"\/x = "open"\/x = "home" from ok)with rfl | rfl | rfl
  ·array_get_dec;refine ao ?_;array_get_dec;exact q
  ·array_get_dec;refine ao ?_;array_get_dec;exact q
  ·cases kept with
   | none =>
    array_get_dec;refine ao ?_;array_get_dec;refine wN ?_;array_get_dec;exact q
   | some k =>
    array_get_dec;refine ao ?_;array_get_dec;refine C7 ?_;array_get_dec;exact q
theorem BZ(F:cA K "is_shut_behind" "is_shut_behind" vi f fd):aW P w K mg base cI 1 f fd ["row", "shut"] (dm BS):=by
 exact_mod_cast F.pS E2 (by nofun);refine⟨_,(ae (aU (aF (aB hu) (aj (ah 0) af) aE) (ai (ax rW)) az)
  (ae (aU (AL (mh hu) (aj (ah 0) af) (bg (cM rfl))) (ai (ax rW)) az)
  (ai (ax (ah 1))))),?_⟩
 push_cast;rintro ds R ⟨r,m,fN,rfl,ok,q⟩;have two:∀{W:Wd} {Q:DK} {x:Str},Q (.im (.bool (decide (x = "open")||decide (x = "home")))) W->yy false (.im (.str x)) (.im (.tuple [.str "open",.str "home"])) W Q:=fun{W Q x} h=>by
  refine⟨.str x,[.str "open",.str "home"],rfl,rfl,.inl ⟨rfl,rfl⟩,?_⟩;have e:(List.any [PyData.str "open",.str "home"] fun d=>PyData.eqv d (.str x))=(decide (x = "open")||decide (x = "home")):=by
   show(PyData.eqv (.str "open") (.str x)||(PyData.eqv (.str "home") (.str x)||false))=_;rw[jw,jw,Bool.or_false,sR,sR (b:=x)]
  rw[aao (by decide),e];exact h
 refine ao ?_;cases r with
 | put d v =>
  dsimp only[cC];array_get_dec;refine ao ?_;array_get_dec;refine aw (ds:=[.str "open",.str "home"]) (by show 2<=sizeLine;decide) (two ?_)
  rfl'
  refine wN ?_;array_get_dec;exact q
 | op x d a b =>
  dsimp only[cC];rcases ok.1 with rfl | rfl | rfl
  all_goals
   array_get_dec
   refine ao ?_
   array_get_dec
   refine aw (ds:=[.str "open",.str "home"]) (by show 2<=sizeLine;decide) (two ?_)
   rfl'
   refine wN ?_
   array_get_dec
   exact q
 | mv x d a n =>
  dsimp only[cC];rcases ok.1 with rfl | rfl
  all_goals
   array_get_dec
   refine ao ?_
   array_get_dec
   refine aw (ds:=[.str "open",.str "home"]) (by show 2<=sizeLine;decide) (two ?_)
   rfl'
   refine wN ?_
   array_get_dec
   exact q
 | go a p =>
  dsimp only[cC];array_get_dec;refine ao ?_;array_get_dec;refine aw (ds:=[.str "open",.str "home"]) (by show 2<=sizeLine;decide) (two ?_)
  rfl'
  refine wN ?_;array_get_dec;exact q
 | one x =>
  dsimp only[cC];rcases (show x = "shut"\/x = "open"\/x = "home" from ok)with rfl | rfl | rfl
  ·array_get_dec;exact q
  all_goals
   array_get_dec
   refine ao ?_
   array_get_dec
   refine aw (ds:=[.str "open",.str "home"]) (by show 2<=sizeLine;decide) (two ?_)
   rfl'
   refine C7 ?_
   array_get_dec
   exact q
theorem B0(F:cA K "kept_behind" "kept_behind" vj f fd):aW P w K mg base cI 1 f fd ["row", "kept"] (dm BU):=by
 exact_mod_cast F.pS E3 (by nofun);refine⟨_,(ai (ax (px (aF (aB hu) (aj (ah 0) af) aE) dJ (ah 1)))),?_⟩;push_cast;rintro ds R ⟨r,m,kept,rfl,ok,q⟩;cases r with
 | put d v =>
  dsimp only[cC];array_get_dec;exact q
 | op x d a b =>
  dsimp only[cC];rcases ok.1 with rfl | rfl | rfl
  all_goals
   array_get_dec
   exact q
 | mv x d a n =>
  dsimp only[cC];rcases ok.1 with rfl | rfl
  all_goals
   array_get_dec
   exact q
 | go a p =>
  dsimp only[cC];array_get_dec;exact q
 | one x =>
  dsimp only[cC];rcases (show x = "shut"\/x = "open"\/x = "home" from ok)with rfl | rfl | rfl
  all_goals
   array_get_dec
   exact q
theorem yV(F:cA K "is_bell" "is_bell" qh f fd)(bL:mg "len"=none):aW P w K mg base cI 1 f fd ["mill", "k"] (dm xF):=by
 exact_mod_cast F.pS BN (by nofun);refine⟨_,(ai (ax (Ed Ga jf af (ah 1) (cE bZ bL aba (aa (aj (ah 0) af) ag))))),?_⟩;push_cast;rintro ds R ⟨rs,bs,k,rfl,q⟩
 rfl'
 by_cases h:(0:Int)<=k
 ·rw[abm h]at q ⊢;refine C7 ?_
  rfl'
  refine bT (D:=.tuple (bs.map .int)) rfl ?_
  rfl'
  rw[aab];exact q
 ·rw[aaq h]at q ⊢;refine wN ?_;exact q
theorem B1(F:cA K "rests" "rests" vk f fd)(bL:mg "len"=none):aW P w K mg base cI 1 f fd ["mill", "state"] (dm qj):=by
 exact_mod_cast F.pS E4 (by nofun);refine⟨_,(ai (ax (gw (aB hu) (aj (ah 1) af) (cE bZ bL aba (aa (aj (ah 0) af) ag))))),?_⟩;push_cast;rintro ds R ⟨rs,bs,pl,r,rfl,q⟩
 rfl'
 refine bT (D:=.int pl) (JY (k:=0) (by decide) (by simp)) ?_
 rfl'
 refine bT (D:=.tuple (rs.map cC)) rfl ?_
 rfl'
 rw[aab];exact q
theorem E9(F:cA K "with_written" "with_written" BH f fd):aW P w K mg base cI 1 f fd ["worths", "kind", "wrote"] (dm Ha):=by
 exact_mod_cast F.pS BO (by nofun);refine⟨_,(ae (aU (qW (w_or (iW (ah 2)) (rX (aF (eT hu) (aj (ah 2) af) (ah 1))))) (ai (ax (ah 0))) az)
  (ae (aC 3 BO.nd (aj (ah 2) af))
  (ai (ax (aQ rZ (aQ rZ (AN o8 (ah 0) l0 (l4 (ah 3))) (bg (aa (aj (ah 2) af) ag))) (AN o8 (ah 0) (l4 (aQ a8 (ah 3) af)) l0)))))),?_⟩
 push_cast;rintro ds R ⟨ws,kind,wr,rfl,l2,Ld,PK,q⟩;refine cG [_,_,_,none] rfl ?_;refine ao ?_;cases wr with
 | none =>
  rfl'
  refine C7 ?_
  rfl'
  exact q
 | some t =>
  obtain⟨k,a,x⟩:=t;dsimp only[dD]
  rfl'
  refine wN ?_
  rfl'
  refine bT (D:=.str k) rfl ?_
  rfl'
  have q':R (.im (bJ (if k=kind then ws.set a.toNat x else ws))):=q;refine En (fun h=>?_) (fun h=>?_)
  ·rfl'
   rw[aao h]at q';exact q'
  ·subst h;rw[aau rfl]at q';obtain⟨a0,a1⟩:=PK a x rfl
   rfl'
   refine bT (D:=.int a) rfl ?_
   rfl'
   refine Ko a0 a1 ?_
   rfl'
   refine bT (D:=.int x) rfl ?_
   rfl'
   refine aw (ds:=[.int x]) (by show 1<=sizeLine;decide) ?_;refine⟨_,_,rfl,rfl,aaL (bR (by simp only[aab,abf,aaG,abP];omega)),?_⟩
   rfl'
   refine BX (by omega) (by omega) ?_;refine⟨_,_,rfl,rfl,aaL (bR (by simp only[aaB,aab,abf,abw,aaG,abP];omega)),?_⟩;have e:(ws.take a.toNat).map PyData.int++[PyData.int x]++(ws.drop (a+1).toNat).map PyData.int=(ws.set a.toNat x).map .int:=by
    rw[<- E6 (ws:=ws) (k:=a.toNat) (x:=x) (by omega),show(a+1).toNat=a.toNat+1 by omega];simp only[ab5,aaQ,List.map_nil]
   rw[e];exact q'
theorem Fb(yW:pE K aR)(j2:mg "Resting"=some (.ref aR)){fR fH fP fW fS fK:Addr}{Si XN XO Sh XQ:v6}(F:cA K "step" "step" BI f fd)(vp:Dn P w K mg base 1 "rests" fR Si ["mill", "state"] (dm qj))(kQ:Dn P w K mg base 3 "what_it_writes" fH XN ["row", "spots", "cells"] (dm G9))(nR:Dn P w K mg base 1 "place_behind" fP XO ["row", "place", "spots", "kept"] (dm xE))(iX:Dn P w K mg base 1 "with_written" fW Ov ["worths", "kind", "wrote"] (dm Ha))(kR:Dn P w K mg base 1 "is_shut_behind" fS Sh ["row", "shut"] (dm BS))(ql:Dn P w K mg base 1 "kept_behind" fK XQ ["row", "kept"] (dm BU)) :
  aW P w K mg base (tX P w) 4 f fd ["mill", "state"] (dm (SStep aR)):=by
 exact_mod_cast F.Nf iD (by nofun);refine⟨_,(ae (aU (pv (au vp hr (aa (ah 0) (aa (ah 1) ag)))) (ai (pG yW j2 (aa aE ag))) az)
  (ae (aC 2 iD.nd (aj (ah 1) af))
  (ae (aC 3 iD.nd (aj (ah 1) af))
  (ae (aC 4 iD.nd (aj (ah 1) af))
  (ae (aC 5 iD.nd (aj (ah 1) af))
  (ae (aC 6 iD.nd (aj (aj (ah 0) af) (ah 2)))
  (ae (aC 7 iD.nd (au kQ hr (aa (ah 6) (aa (ah 3) (aa (ah 4) ag)))))
  (ae (aC 8 iD.nd (bg (aa (au nR hr (aa (ah 6) (aa (ah 2) (aa (ah 3) (aa (ah 5) ag))))) (aa (au iX hr (aa (ah 3) (aa aE (aa (ah 7) ag)))) (aa (au iX hr (aa (ah 4) (aa aE (aa (ah 7) ag)))) (aa (au kR hr (aa (ah 6) (aa (aj (ah 1) af) ag))) (aa (au ql hr (aa (ah 6) (aa (ah 5) ag))) ag)))))))
  (ai (ax (bg (aa (ah 8) (aa (bg (aa (ah 2) (aa (ah 7) ag))) ag))))))))))))),?_⟩
 push_cast;rintro ds R ⟨rs,bs,st,rfl,Sj,mJ,q,qX⟩;refine cG [_,_,none,none,none,none,none,none,none] rfl ?_;refine ao ?_
 rfl'
 refine aV (ds:=[c7 rs bs,dQ st]) ⟨rs,bs,st.place,_,rfl,?_⟩
 rfl'
 refine gR (fun h=>?_) (fun h=>?_)
 ·rfl'
  exact⟨by show 1<=sizeLine;decide,qX h⟩
 have hp:st.place < rs.length:=by have:=mJ.p1;omega
 replace q:=q hp;obtain⟨er,gM⟩:=gA Sj mJ.p0 hp;generalize rowOf rs st.place=r at er gM q;have Dh:=iF gM mJ.sw mJ.cw
 rfl'
 refine bT (D:=.int st.place) rfl ?_
 rfl'
 refine bT (D:=bJ st.aY) rfl ?_
 rfl'
 refine bT (D:=bJ st.cells) rfl ?_
 rfl'
 refine bT (D:=ua st.kept) rfl ?_
 rfl'
 refine bT (D:=.tuple (rs.map cC)) rfl ?_
 rfl'
 refine bT er ?_
 rfl'
 refine aV (ds:=[cC r,bJ st.aY,bJ st.cells]) ⟨r,rs.length,st.aY,st.cells,rfl,gM,mJ.s8,mJ.Ki,mJ.sw,?_⟩
 rfl'
 refine aV (ds:=[cC r,.int st.place,bJ st.aY,ua st.kept]) ⟨r,rs.length,st.place,st.aY,st.kept,rfl,gM,mJ.s8,?_⟩
 rfl'
 refine aV (ds:=[bJ st.aY,.str "spot",dD (r.wrote st.aY st.cells)]) ⟨st.aY, "spot",_,rfl,by rw[mJ.s8];decide,by rw[mJ.s8];decide,fun a w e=>?_,?_⟩
 ·rw[e]at Dh;rcases Dh.1 with⟨_,z⟩ | ⟨z,_⟩
  ·rw[mJ.s8];exact z
  ·exact absurd z (by decide +kernel)
 rfl'
 refine aV (ds:=[bJ st.cells,.str "cell",dD (r.wrote st.aY st.cells)]) ⟨st.cells, "cell",_,rfl,by rw[mJ.Ki];decide,by rw[mJ.Ki];decide,fun a w e=>?_,?_⟩
 ·rw[e]at Dh;rcases Dh.1 with⟨z,_⟩ | ⟨_,z⟩
  ·exact absurd z (by decide +kernel)
  ·rw[mJ.Ki];exact z
 rfl'
 refine bT (D:=.bool st.fN) rfl ?_
 rfl'
 refine aV (ds:=[cC r,.bool st.fN]) ⟨r,rs.length,st.fN,rfl,gM,?_⟩
 rfl'
 refine aV (ds:=[cC r,ua st.kept]) ⟨r,rs.length,st.kept,rfl,gM,?_⟩
 rfl'
 refine aw (ds:=[.int (iE st.aY st.place st.kept r),bJ (c8 "spot" st.aY (r.wrote st.aY st.cells)),bJ (c8 "cell" st.cells (r.wrote st.aY st.cells)),.bool (BQ st.fN r),ua (oJ st.kept r)]) (by show 5<=sizeLine;decide) ?_
 rfl'
 refine aw (ds:=[.int st.place,dD (r.wrote st.aY st.cells)]) (by show 2<=sizeLine;decide) ?_
 rfl'
 exact aw (ds:=[dQ (gb r st),Kn (st.place,r.wrote st.aY st.cells)]) (by show 2<=sizeLine;decide) q
theorem Fc{aN:Addr}(B2:pE K aN)(mK:mg "NoBell"=some (.ref aN))(Kr:pE K aS)(vq:mg "Shut"=some (.ref aS)){fI:Addr}{XR:v6}(F:cA K "bell" "bell" BJ f fd)(B3:Dn P w K mg base 1 "is_bell" fI XR ["mill", "k"] (dm xF)) :
  aW P w K mg base (tX P w) 2 f fd ["mill", "state", "k"] (dm (BV aN aS)):=by
 exact_mod_cast F.Nf Km (by nofun);refine⟨_,(ae (aU (ku (pv (au B3 hr (aa (ah 0) (aa (ah 2) ag))))) (ai (pG B2 mK (aa aE ag))) az)
  (ae (aU (pv (aj (ah 1) af)) (ai (pG Kr vq (aa aE ag))) az)
  (ai (ax (bg (aa (aj (aj (ah 0) af) (ah 2)) (aa (aj (ah 1) af) (aa (aj (ah 1) af) (aa rW (aa (aj (ah 1) af) ag)))))))))),?_⟩
 push_cast;rintro ds R ⟨rs,bs,st,k,rfl,q,qN,qS⟩;refine ao ?_
 rfl'
 refine aV (ds:=[c7 rs bs,.int k]) ⟨rs,bs,k,rfl,?_⟩
 rfl'
 by_cases hk:0<=k/\k < bs.length
 ·rw[show(decide (0<=k)&&decide (k < (bs.length:Int)))=true by simp[hk.1,hk.2]]
  rfl'
  refine ao ?_
  rfl'
  refine bT (D:=.bool st.fN) rfl ?_
  rfl'
  cases e:st.fN with
  | true =>
   rfl'
   exact⟨by show 1<=sizeLine;decide,qS hk e⟩
  | false =>
   rfl'
   refine bT (D:=bJ bs) rfl ?_
   rfl'
   refine gS hk.1 hk.2 ?_
   rfl'
   refine bT (D:=bJ st.aY) rfl ?_
   rfl'
   refine bT (D:=bJ st.cells) rfl ?_
   rfl'
   refine bT (D:=.int st.place) rfl ?_
   rfl'
   exact aw (ds:=[.int (gI bs k),bJ st.aY,bJ st.cells,.bool true,.int st.place]) (by show 5<=sizeLine;decide) (q hk e)
 ·rw[show(decide (0<=k)&&decide (k < (bs.length:Int)))=false by
   by_cases h:0<=k
   ·rw[abm h,aaq (fun z=>hk ⟨h,z⟩)];rfl
   ·rw[aaq h];rfl]
  rfl'
  exact⟨by show 1<=sizeLine;decide,qN hk⟩
end
def cz(ps:ww)(ns:wn):List Int:=(ps.zip ns).foldl (fun acc p=>if(p.1=("a":Str)\/p.1=("b":Str))/\p.2 ∉ acc then acc++[p.2]else acc) []
def vt:jv:=fun ds R _=>∃(x:Str) (ps:ww) (ns:wn),ds=[.tuple (.str x::ns.map .int)]/\bI.lookup x=some ps/\R (.nw ((cz ps ns).map .int))
theorem qm{ps:ww}{i:Nat}{p:Str}{n:Int}(hp:ps[i]?=some p)(hn:ns[i]?=some n):cz (ps.take (i+1)) (ns.take (i+1))=if(p=("a":Str)\/p=("b":Str))/\n ∉ cz (ps.take i) (ns.take i)then cz (ps.take i) (ns.take i)++[n]else cz (ps.take i) (ns.take i):=by
 have e:(ps.take (i+1)).zip (ns.take (i+1))=(ps.take i).zip (ns.take i)++[(p,n)]:=by
  have h1:i < ps.length:=(aal.mp hp).1;have h2:i < ns.length:=(aal.mp hn).1;rw[aaY,hp,aaY,hn];exact List.zip_append (by rw[abf,abf];omega)
 unfold cz;rw[e,List.foldl_append]
 rfl
theorem sT{ps:ww}:cz (ps.take (min ps.length ns.length)) (ns.take (min ps.length ns.length))=cz ps ns:=by
 unfold cz;rw[<- List.zip_eq_zip_take_min]
def ff(rs:tx)(aK:Int):List Int:=(rs.filter fun r=>decide (r.1<=aK)).map (·.2)
def xG(rs:tx)(tk:wn)(aK:Int):List Int:=(ff rs aK).filter fun k=>decide (tk.count k < (ff rs aK).count k)
def Hb:jv:=fun ds R _=>∃(rs:tx) (aK:Int),ds=[.list (rs.map pairD),.int aK]/\rs.length<=60/\R (.nw ((ff rs aK).map .int))
def B4:jv:=fun ds R _=>∃(rs:tx) (tk:wn) (aK:Int),ds=[.list (rs.map pairD),.list (tk.map .int),.int aK]/\rs.length<=60/\∀ ns:List Int,ns.Pairwise (· < ·)->(∀ k,k∈ns↔k∈xG rs tk aK)->R (.nw (ns.map .int))
theorem yX(rs:tx)(aK:Int):(ff rs aK).length<=rs.length:=by unfold ff;rw[aab];exact List.length_filter_le ..
theorem oN{α:Type}[BEq α][LawfulBEq α]:∀{l l':List α},l.Nodup->(∀ x∈l,x∈l')->l.length<=l'.length
 | [],_,_,_=>aaJ _
 | x::r,l',nd,h=>by
  have hx:=h x (aaw ..);have⟨n1,n2⟩:=ab1.mp nd;have:=oN (l:=r) (l':=l'.erase x) n2 fun y hy=>(List.mem_erase_of_ne (show y≠x from fun z=>n1 (z▸hy))).mpr (h y (aan _ hy));rw[List.length_erase_of_mem hx]at this;have hp:0 < l'.length:=List.length_pos_of_mem hx;rw[aaG];omega
theorem ty_list:yz "list" (.im (.list ds)) W:=.inl ⟨rfl,_,rfl⟩
theorem qo:dH W (.im (.list (ns.map .int)))=some (ns.map fun i=>.im (.int i)):=by show some _=_;rw[acx];rfl
theorem mM:∀ ns:List Int,jr (ns.map PyData.int)=true
 | []=>rfl
 | n::r=>by rw[aaQ];unfold jr;rw[mM r];rfl
theorem dR{f:DV->Option PyData}{x:DV}{d:PyData}{r:List DV}(h:f x=some d)(hr:eJ f r=some ds):eJ f (x::r)=some (d::ds):=by unfold eJ;rw[h,hr];rfl
theorem gk(h:n<=100000):n < sizeLine:=acP h (by decide)
abbrev mO:=Option (Str×Int×ul)
def dS:mO->PyData
 | none=>.none
 | some (k,x,v)=>.tuple [.str k,.int x,ua v]
inductive Ev where
 | fin (b pl:Int) (t:mO) | kS (b n v:Int) | down (b n c v:Int) | kT (b k:Int)
def eC:Ev->PyData
 | .fin b pl t=>.tuple [.str "end",.int b,.int pl,dS t]
 | .kS b n v=>.tuple [.str "late",.int b,.int n,.int v]
 | .down b n c v=>.tuple [.str "down",.int b,.int n,.int c,.int v]
 | .kT b k=>.tuple [.str "bell",.int b,.int k]
def Ev.aK:Ev->Int
 | .fin b _ _=>b
 | .kS b _ _=>b
 | .down b _ _ _=>b
 | .kT b _=>b
def sU:Option (Str×Int)->PyData
 | none=>.none
 | some (k,n)=>.tuple [.str k,.int n]
abbrev mO.kD(t:mO):Option (Str×Int):=t.map fun x=>(x.1,x.2.1)
abbrev jK.told(t:jK):mO:=t.map fun x=>(x.1,x.2.1,some x.2.2)
theorem mP(t:jK):dD t=dS t.told:=by cases t<;>rfl
def mQ:Rw->Bool
 | .op x _ _ _=>decide (x = "mul")
 | .mv x _ _ _=>decide (x = "take")
 | _=>false
def B5:jv:=fun ds R _=>∃(r:Rw) (n:Int),ds=[cC r]/\eO n r/\R (.im (.bool (mQ r)))
def vv:jv:=fun ds R _=>∃ t:mO,ds=[dS t]/\R (.im (sU t.kD))
structure HM where
 rows:List Rw
 dE:List Int
 rings:List (Int×Int)
 (width room queue fE longest:Int)
 st:nF
 (aK events ends iG bw:Int)
 taken:List Int
 bW:List (Int×Int×Int×Int)
 laid:List (Int×Int×Int)
 cause:Option Str
variable {h:HM}
structure B6 where
 (p d tk ow la:Addr)
def sW(x:Int×Int×Int×Int):PyData:=.tuple [.int x.1,.int x.2.1,.int x.2.2.1,.int x.2.2.2]
def mR(x:Int×Int×Int):PyData:=.tuple [.int x.1,.int x.2.1,.int x.2.2]
def sX:Option Str->PyData
 | none=>.none
 | some x=>.str x
def bx:List Str:=["mill", "state", "rings", "terms", "width", "room", "queue", "patience", "longest", "beat", "events", "ends", "ends_of_beat", "pressed", "taken", "owed", "laid", "cause"]
def rh(a:B6)(h:HM):List (Str×DV):=[("mill",.im (c7 h.rows h.dE)),("state",.im (dQ h.st)),("rings",.im (.list (h.rings.map pairD))),("terms",.im (.tuple [.int h.width,.int h.room,.int h.queue,.int h.fE,.int h.longest])),("width",.im (.int h.width)),("room",.im (.int h.room)),("queue",.im (.int h.queue)),("patience",.im (.int h.fE)),("longest",.im (.int h.longest)),("beat",.im (.int h.aK)),("events",.im (.int h.events)),("ends",.im (.int h.ends)),("ends_of_beat",.im (.int h.iG)),("pressed",.im (.int h.bw)),("taken",.pt a.tk),("owed",.pt a.ow),("laid",.pt a.la),("cause",.im (sX h.cause))]
def sY(ds:wP):Cell:=.lst (ds.map .im)
def cZ(kH:Addr)(a:B6)(h:HM):Ws:=[(a.p,.ob kH a.d (rh a h)),(a.tk,sY (h.taken.map .int)),(a.ow,sY (h.bW.map sW)),(a.la,sY (h.laid.map mR))]
theorem aH{a:B6}:PlainL (cZ kH a h)=true:=rfl
def B6.on(a' a:B6):Prop:=a'.p=a.p/\a'.d=a.d
section
variable {K:zn}{W':Wd}{p:Addr}{a:B6}{f:Str}{v:DV}{Pr:Wd->Prop}
theorem Hc(h':HM)(hA:At W (cZ kH a h))(c:eU K kH bx)(q:∀ W1,At W1 (cZ kH a h')->Pr W1)(n:f∈bx:=by decide +kernel)(e:putD f v (rh a h)=rh a h':=by with_unfolding_all rfl)(ht:(cZ kH a h').tail=(cZ kH a h).tail:=by rfl):∃ p' k d fs,DV.pt a.p=.pt p'/\W p'=some (.ob k d fs)/\kL K k/\bO K k f/\fs.length < 1000/\Pr (aG W p' (.ob k d (putD f v fs))) :=
 qa hA c 0 rfl n (by show 18 < 1000;decide) fun W1 h1 f1=>q W1 (by rw[e]at h1;show At W1 ((a.p,.ob kH a.d (rh a h'))::(cZ kH a h').tail);rw[ht];exact h1)
theorem Sk(h':HM)(hA:At W (cZ kH a h))(q:∀ W1,At W1 (cZ kH a h')->Pr W1)(e:putD f v (rh a h)=rh a h':=by with_unfolding_all rfl)(ht:(cZ kH a h').tail=(cZ kH a h).tail:=by rfl):∃ d fs,W a.p=some (.ob kH d fs)/\fs.length < 1000/\Pr (aG W a.p (.ob kH d (putD f v fs))) :=
 ⟨_,_,hA.get 0 rfl,(by show 18 < 1000;decide),q _ (by rw[e];show At _ ((a.p,.ob kH a.d (rh a h'))::(cZ kH a h').tail);rw[ht];exact hA.set 0 rfl)⟩
theorem Vg{q:Addr}{W0:Wd}{c':Cell}(i:Nat)(a':B6)(h':HM)(hA:At W0 (cZ kH a h))(c:eU K kH bx)(hq:W0 q=none)(fq:Fr q W0 W)(wq:W q=some c')(k:∀ W1,At W1 (cZ kH a' h')->Pr W1)(e:((cZ kH a h).set i (q,c')).set 0 (a.p,.ob kH a.d (putD f v (rh a h)))=cZ kH a' h')(h0:((cZ kH a h).set i (q,c'))[0]?=some (a.p,.ob kH a.d (rh a h)):=by rfl)(n:f∈bx:=by decide +kernel):∃ p' k d fs,DV.pt a.p=.pt p'/\W p'=some (.ob k d fs)/\kL K k/\bO K k f/\fs.length < 1000/\Pr (aG W p' (.ob k d (putD f v fs))) :=
 qa (hA.swap i hq fq wq) c 0 h0 n (by show 18 < 1000;decide) fun W1 h1 _=>k W1 (by rw[e]at h1;exact h1)
theorem Sl(hA:At W (cZ kH a h))(f:Fr a.tk W W')(w:W' a.tk=some (.lst ((xs.map PyData.int).map .im))):At W' (cZ kH a { h with taken:=xs }):=hA.gm 1 rfl f w
theorem Sn{xs:List (Int×Int×Int×Int)}(hA:At W (cZ kH a h))(f:Fr a.ow W W')(w:W' a.ow=some (.lst ((xs.map sW).map .im))):At W' (cZ kH a { h with bW:=xs }):=hA.gm 2 rfl f w
theorem So{xs:List (Int×Int×Int)}(hA:At W (cZ kH a h))(f:Fr a.la W W')(w:W' a.la=some (.lst ((xs.map mR).map .im))):At W' (cZ kH a { h with laid:=xs }):=hA.gm 3 rfl f w
theorem Ks(hA:At W (cZ kH a h)):W a.tk=some (.lst ((h.taken.map PyData.int).map .im)):=hA.get 1 rfl
theorem nS(hA:At W (cZ kH a h)):W a.ow=some (.lst ((h.bW.map sW).map .im)):=hA.get 2 rfl
theorem Fd(hA:At W (cZ kH a h)):W a.la=some (.lst ((h.laid.map mR).map .im)):=hA.get 3 rfl
end
def mS(rs:tx)(tk:wn)(aK:Int):List Int:=([0,1,2,3]:wn).filter fun k=>decide (tk.count k < (ff rs aK).count k)
def HM.iH(h:HM)(aK:Int):List Int:=mS h.rings h.taken aK
def HM.bu(h:HM)(aK:Int):Bool:=!h.st.fN&&decide (0 < (h.iH aK).length)
def HM.endsAt(h:HM)(aK:Int):Int:=if aK=h.aK then h.iG else 0
abbrev HM.row(h:HM):Rw:=rowOf h.rows h.st.place
def vw:Rw->List Int
 | .put d v=>[d,v]
 | .op _ d a b=>[d,a,b]
 | .mv _ d a n=>[d,a,n]
 | .go a p=>[a,p]
 | .one _=>[]
def Ow:Rw->Str
 | .put _ _ => "put"
 | .op x _ _ _=>x
 | .mv x _ _ _=>x
 | .go _ _ => "go"
 | .one x=>x
def vx(r:Rw):List Str:=(bI.lookup (Ow r)).getD []
theorem B7{r:Rw}{m:Int}(ok:eO m r):cC r=.tuple (.str (Ow r)::(vw r).map .int)/\bI.lookup (Ow r)=some (vx r):=by
 have k:∀ x∈bI.map (·.1),bI.lookup x=some ((bI.lookup x).getD []):=by decide +kernel
 have m1:("put":Str)∈bI.map (·.1)/\("go":Str)∈bI.map (·.1)/\("sum":Str)∈bI.map (·.1)/\("mul":Str)∈bI.map (·.1)/\("less":Str)∈bI.map (·.1)/\("take":Str)∈bI.map (·.1)/\("lay":Str)∈bI.map (·.1)/\("shut":Str)∈bI.map (·.1)/\("open":Str)∈bI.map (·.1)/\("home":Str)∈bI.map (·.1):=by decide +kernel
 obtain⟨h1,h2,h3,h4,h5,h6,h7,h8,h9,h0⟩:=m1;cases r with
 | put d v=>exact⟨rfl,k _ h1⟩
 | op x d a b=>exact⟨rfl,by rcases ok.1 with rfl | rfl | rfl;exact k _ h3;exact k _ h4;exact k _ h5⟩
 | mv x d a n=>exact⟨rfl,by rcases ok.1 with rfl | rfl;exact k _ h6;exact k _ h7⟩
 | go a p=>exact⟨rfl,k _ h2⟩
 | one x=>exact⟨rfl,by rcases ok with rfl | rfl | rfl;exact k _ h8;exact k _ h9;exact k _ h0⟩
def gN(r:Rw)(Ox:Int):Bool:=decide (Ox∈cz (vx r) (vw r))||decide (some Ox=fA (vx r) (vw r))
def HM.gO(h:HM)(r:Rw)(t:mO):Option Str :=
 if t.kD≠mO.kD (r.wrote h.st.aY h.st.cells).told then some "thing" else
 match t with
 | none=>none
 | some (k,_,none)=>if mQ r=false then some "owed" else if h.room<=h.bW.length then some "room" else if k = "cell"/\h.queue<=h.laid.length then some "room" else none
 | some (k,_,some v)=>if(r.wrote h.st.aY h.st.cells).map (·.2.2)≠some v then some "worth" else if k = "cell"/\h.queue<=h.laid.length then some "room" else none
def HM.dF(h:HM)(b pl:Int)(t:mO):Option Str :=
 if h.st.place=h.rows.length then some "rest" else if pl≠h.st.place then some "place" else if h.width<=h.endsAt b then some "crowd" else if h.bu b=true/\h.fE<=h.bw then some "bell"
 else if h.bW.any (fun o=>gN h.row o.2.1)=true then some "ahead" else h.gO h.row t
def HM.mU(h:HM)(n v:Int):Option Str:=match h.bW.filter fun o=>decide (o.1=n) with
 | []=>some "stray"
 | o::_=>if o.2.2.1=v then none else some "worth"
def HM.ja(h:HM)(n c v:Int):Option Str:=match h.laid with
 | []=>some "stray"
 | l::_=>if l.1≠n then some "stray" else if l.2.1≠c then some "thing" else if l.2.2=v then none else some "worth"
def HM.jb(h:HM)(b k:Int):Option Str:=if k ∉ h.iH b then some "stray" else if h.st.fN=true then some "shut" else if(h.iH b).head?=some k then none else some "order"
def HM.bA(h:HM)(e:Ev):Option Str :=
 if e.aK < h.aK then some "beat" else if h.bW.any (fun o=>decide (o.2.2.2+h.longest < e.aK))=true then some "overdue" else
 match e with
 | .fin b pl t=>h.dF b pl t
 | .kS _ n v=>h.mU n v
 | .down _ n c v=>h.ja n c v
 | .kT b k=>h.jb b k
def HM.dh(h:HM)(b:Int)(t:mO)(w:jK):HM:=match t,w with
 | some (_,_,none),some (_,x,v)=>{ h with bW:=h.bW++[(h.ends,x,v,b)] }
 | some (k,_,some _),some (_,x,v)=>if k = "cell" then{ h with laid:=h.laid++[(h.ends,x,v)] }else h
 | _,_=>h
def HM.kE(h:HM)(b:Int)(t:mO):HM :=
 let h2:HM:=({ h with bw:=if h.bu b=true then h.bw+1 else 0 }:HM).dh b t (h.row.wrote h.st.aY h.st.cells)
 { h2 with st:=gb h.row h.st,ends:=h2.ends+1,iG:=h2.iG+1 }
def HM.vA(h:HM)(k:Int):HM:={ h with st:=xB h.dE k h.st,taken:=h.taken++[k],bw:=0 }
def HM.bU(h:HM)(e:Ev):HM :=
 let h1:HM:={ h with iG:=h.endsAt e.aK }
 let h2:HM:=match e with
  | .fin b _ t=>h1.kE b t
  | .kS _ n _=>{ h1 with bW:=h1.bW.filter fun o=>decide (o.1≠n) }
  | .down _ _ _ _=>{ h1 with laid:=h1.laid.drop 1 }
  | .kT _ k=>h1.vA k
 { h2 with aK:=e.aK,events:=h2.events+1 }
def HM.tell(h:HM)(e:Ev):HM:=match h.bA e with
 | some x=>{ h with cause:=some x }
 | none=>h.bU e
abbrev B8:Stmt:=top 15
abbrev vB:Stmt:=top 13
abbrev B9:Stmt:=top 23
abbrev Ca:Stmt:=top 24
abbrev vC:Stmt:=top 31
theorem Kt:ay ["row"] ["row"] (defScope B8):=by ac_rfl
theorem ly:ay ["row", "spots", "part", "number"] ["row"] (defScope vB):=by ac_rfl
theorem Ku:ay ["rings", "beat"] ["rings", "beat"] (defScope B9):=by ac_rfl
theorem Cb:ay ["rings", "taken", "beat", "rung"] ["rings", "taken", "beat"] (defScope Ca):=by ac_rfl
theorem Fe:ay ["wrote"] ["wrote"] (defScope vC):=by ac_rfl
section
variable {K:zn}
theorem Ff(F:cA K "is_slow" "is_slow" B8 f fd)(gP:mg "SLOW_WORDS"=some (.ref aS))(qp:∀ H,eY K H aS [.str "mul",.str "take"]):aW P w K mg base cI 1 f fd ["row"] (dm B5):=by
 exact_mod_cast F.pS Kt (by nofun);refine⟨_,(ai (ax (Mw (mh hu) (aj (ah 0) af) (NK gP qp)))),?_⟩;push_cast;rintro ds R ⟨r,n,rfl,ok,q⟩;have two:∀{W:Wd} {Q:DK} {x:Str},Q (.im (.bool (decide (x∈[("mul":Str), "take"])))) W->yy false (.im (.str x)) (.cst [V.str "mul",V.str "take"]) W Q:=fun{W Q x} h=>mF (neg:=false) (xs:=["mul", "take"]) rfl h;cases r with
 | put d v =>
  dsimp only[cC];array_get_dec;exact two q
 | op x d a b =>
  dsimp only[cC];rcases ok.1 with rfl | rfl | rfl
  all_goals
   array_get_dec
   exact two q
 | mv x d a n =>
  dsimp only[cC];rcases ok.1 with rfl | rfl
  all_goals
   array_get_dec
   exact two q
 | go b p =>
  dsimp only[cC];array_get_dec;exact two q
 | one x =>
  dsimp only[cC];rcases ok with rfl | rfl | rfl
  all_goals
   array_get_dec
   exact two q
theorem Cd{aP:Addr}(F:cA K "spots_read" "spots_read" vB f fd)(iS:mg "PARTS"=some (.ref aP))(hP:ModT K w aP j1)(oM:mg "zip"=none):aW P w K mg base cI 1 f fd ["row"] (dm vt):=by
 exact_mod_cast F.pS ly (by nofun);refine⟨_,(ae (aC 1 ly.nd (bM ag))
  (ae (oj (Gn .T .T oM (aa (NZ iS hP (aj (ah 0) af)) (aa (AN o8 (ah 0) (l4 af) l0) ag))) (gK (n:=2) (bh (a9 2 ly.nd) (bh (a9 3 ly.nd) gD))) (ai (aU (qW (w_and (AL (mh hu) (ah 2) (bg (cM rfl))) (dP (AL (ou hu) (ah 3) (ah 1))))) (ai (dO (kO aaC aaR aaS cS (ah 1) (aa (ah 3) ag)))) az)))
  (ai (ax (ah 1))))),?_⟩
 push_cast;rintro ds R ⟨x,ps,ns,rfl,hx,q⟩;refine cG [_,none,none,none] rfl ?_;have Bs:ps.length<=3:=(show ∀ y∈bI,y.2.length<=3 by decide +kernel) _ (lookup_mem hx)
 rfl'
 refine jX (aaJ _) fun l W0 hl wl fl=>?_
 rfl'
 refine ao ?_
 rfl'
 refine bT (D:=.str x) (bB (j:=0) rfl) ?_;refine⟨x,_,rfl,by unfold j1;rw[hx];rfl,?_⟩
 rfl'
 refine BW ?_
 rfl'
 have fl:(ps.map V.str).all cU=true:=by rw[List.all_map];exact aa7.mpr fun _ _=>rfl
 refine GY (ds:=ps.map .str) (es:=ns.map .int) (by show jt (.cst _)=_;simp only[jt,fl,acq,acx];rfl) rfl ?_;refine xm (fun i ρ W=>∃ u v,ρ=[some (.im (.tuple (.str x::ns.map .int))),some (.pt l),u,v]/\W l=some (.lst (((cz (ps.take i) (ns.take i)).map PyData.int).map .im))/\(cz (ps.take i) (ns.take i)).length<=i) ⟨_,_,rfl,wl,aae _⟩ (fun _ _ _ _=>⟨trivial,trivial⟩) ?_ ?_
 ·rintro i a d ρ W ha hd ⟨u,v,rfl,wl,UY⟩;rw[aag]at ha hd;obtain⟨pz,Ou,rfl⟩:=aaH.mp ha;obtain⟨nz,PJ,rfl⟩:=aaH.mp hd;have hz:(ps.zip ns)[i]?=some (pz,nz):=aa3.mpr ⟨Ou,PJ⟩;have es:=qm Ou PJ
  rfl'
  refine aw (ds:=[.str "a",.str "b"]) (by show 2<=sizeLine;decide) (mF (neg:=false) (xs:=["a", "b"]) rfl ?_)
  rfl'
  by_cases Dd:pz∈[("a":Str), "b"]
  ·have Kv:pz=("a":Str)\/pz=("b":Str):=by simpa using Dd
   refine nN Dd ?_
   rfl'
   refine mE (neg:=true) (Oq wl) ?_
   rfl'
   by_cases Eo:nz∈cz (ps.take i) (ns.take i)
   ·rw[aao (fun z=>z.2 Eo)]at es;rw[aau rfl,abm Eo]
    rfl'
    exact⟨_,_,rfl,by rw[es];exact wl,by rw[es];omega⟩
   ·rw[aau ⟨Kv,Eo⟩]at es;rw[aau rfl,aaq Eo]
    rfl'
    have RN:=(aal.mp Ou).1;refine dn wl (by rw[aab,aab];exact gk (by omega)) fun W3 w3 f3=>?_;exact⟨_,_,rfl,by rw[es,w3];simp,by rw[es,aaB];simp;omega⟩
  ·have Kv:¬ (pz=("a":Str)\/pz=("b":Str)):=by simpa using Dd
   rw[aao (fun z=>Kv z.1)]at es;refine kP Dd ?_
   rfl'
   exact⟨_,_,rfl,by rw[es];exact wl,by rw[es];omega⟩
 ·rintro ρ W ⟨u,v,rfl,wl,_⟩
  rfl'
  rw[aab,aab,sT]at wl;exact uZ wl q
theorem Fg(F:cA K "bells_rung" "bells_rung" B9 f fd):aW P w K mg base cI 1 f fd ["rings", "beat"] (dm Hb):=by
 exact_mod_cast F.pS Ku (by nofun);refine⟨_,(ai (ax (i4 (N':=["rung", "k", "beat"]) (ix:=[none,none,some 1]) ⟨rfl,rfl,rfl,rfl,rfl,rfl⟩ (g9 (ah 0)) (fun _ _ _ _=>(gK (n:=2) (bh (a9 0 (show List.Nodup (["rung", "k", "beat"]:ww) by decide +kernel)) (bh (a9 1 (show List.Nodup (["rung", "k", "beat"]:ww) by decide +kernel)) gD)))) (fun _ _ _ _=>(pD (aF Ga (ah 0) (ah 2)))) (fun _ _ _ _=>(ah 1))))),?_⟩;push_cast;rintro ds R ⟨rs,aK,rfl,hl,q⟩
 rfl'
 refine xk (fun i ys W=>ys=((ff (rs.take i) aK).map PyData.int).map .im) (by rw[aab];exact aaL (gk (by omega))) rfl ?_ ?_
 ·rintro i d ys W hd _ rfl;rw[aag]at hd;obtain⟨r,hr,rfl⟩:=aaH.mp hd;have et:rs.take (i+1)=rs.take i++[r]:=by rw[aaY,hr];rfl
  unfold pairD
  rfl'
  rw[et];unfold ff;rw[aco];refine gR (fun h=>?_) (fun h=>?_)
  ·rfl'
   simp[show r.1<=aK from h]
  ·rfl'
   simp[show ¬ r.1<=aK from h]
 ·rintro ys W rfl;rw[aab,aby];refine ky fun p W1 hp wp fp=>?_;exact uZ wp q
theorem Fh{fR:Addr}{Si:v6}(F:cA K "bells_waiting" "bells_waiting" Ca f fd)(sZ:Dn P w K mg base 1 "bells_rung" fR Si ["rings", "beat"] (dm Hb))(mW:mg "sorted"=none)(Ce:mg "set"=none):aW P w K mg base cI 2 f fd ["rings", "taken", "beat"] (dm B4):=by
 exact_mod_cast F.pS Cb (by nofun);refine⟨_,(ae (aC 3 Cb.nd (au sZ hr (aa (ah 0) (aa (ah 2) ag))))
  (ai (ax (i4 (N':=["k", "rung", "taken"]) (ix:=[none,some 3,some 1]) ⟨rfl,rfl,rfl,rfl,rfl,rfl⟩ (g9 (yS rfl mW Ce (ah 3))) (fun _ _ _ _=>(a9 0 (show List.Nodup (["k", "rung", "taken"]:ww) by decide +kernel))) (fun _ _ _ _=>(pD (aF Ab (kO aaC PySem.F.slot_list_count PySem.F.type_list_count sN (ah 1) (aa (ah 0) ag)) (kO aaC PySem.F.slot_list_count PySem.F.type_list_count sN (ah 2) (aa (ah 0) ag))))) (fun _ _ _ _=>(ah 0)))))),?_⟩
 push_cast;rintro ds R ⟨rs,tk,aK,rfl,hl,q⟩;refine cG [_,_,_,none] rfl ?_;have Vh:=yX rs aK
 rfl'
 refine aV (ds:=[.list (rs.map pairD),.int aK]) ⟨rs,aK,rfl,hl,Bi ?_⟩
 rfl'
 refine⟨ff rs aK,qo,by omega,fun ns hp hm=>?_⟩;rw[show(ns.map fun i=>DV.im (.int i))=(ns.map PyData.int).map .im by rw[acx];rfl];refine iz ?_
 rfl'
 have hnl:ns.length<=rs.length:=by
  exact aam (oN (hp.imp fun h=>Int.ne_of_lt h) fun k hk=>(hm k).mp hk) Vh
 refine xk (fun i ys W=>ys=((((ns.take i).filter fun k=>decide (tk.count k < (ff rs aK).count k))).map PyData.int).map .im) (by rw[aab];exact aaL (gk (by omega))) rfl ?_ ?_
 ·rintro i d ys W hd _ rfl;rw[aag]at hd;obtain⟨k,hk,rfl⟩:=aaH.mp hd;have et:ns.take (i+1)=ns.take i++[k]:=by rw[aaY,hk];rfl
  rfl'
  refine⟨ty_list,?_⟩
  rfl'
  refine⟨_,k,rfl,qo,?_⟩
  rfl'
  refine⟨ty_list,?_⟩
  rfl'
  refine⟨_,k,rfl,qo,?_⟩
  rfl'
  rw[et,aco];refine gR (fun h=>?_) (fun h=>?_)
  ·rfl'
   have h':tk.count k < (ff rs aK).count k:=by omega
   simp[h']
  ·rfl'
   have h':¬ tk.count k < (ff rs aK).count k:=by omega
   simp[h']
 ·rintro ys W rfl;rw[aab,aby];refine ky fun p W1 Vf wp fp=>?_;refine uZ wp (q _ (hp.sublist (List.filter_sublist ..)) fun k=>?_);unfold xG;rw[abo,abo,hm]
theorem Cf(F:cA K "thing_of" "thing_of" vC f fd):aW P w K mg base cI 1 f fd ["wrote"] (dm vv):=by
 exact_mod_cast F.pS Fe (by nofun);refine⟨_,(ai (ax (px (iW (ah 0)) dJ (bg (aa (aj (ah 0) af) (aa (aj (ah 0) af) ag)))))),?_⟩;push_cast;rintro ds R ⟨t,rfl,q⟩;rcases t with _ | ⟨k,x,v⟩<;>dsimp only[dS]
 ·sizeOf_list_dec
  exact q
 ·sizeOf_list_dec
  exact aw (ds:=[.str k,.int x]) (by show 2<=sizeLine;decide) q
end
structure dZ(h:HM):Prop where
 jA:qd h.rows h.dE
 st:fZ h.rows.length h.st
 rl:h.rings.length<=60
 rb:∀ r∈h.rings,0<=r.2/\r.2 < h.dE.length
 tk:h.taken.length<=5000
 ow:h.bW.length<=5000
 la:h.laid.length<=5000
theorem xH:∀{l m:wn},l.Pairwise (· < ·)->m.Pairwise (· < ·)->(∀ k,k∈l↔k∈m)->l=m
 | [],[],_,_,_=>rfl
 | [],y::m,_,_,h=>by have:=(h y).mpr (aaw ..);cases this
 | x::l,[],_,_,h=>by have:=(h x).mp (aaw ..);cases this
 | x::l,y::m,hl,hm,h=>by
  obtain⟨l1,l2⟩:=acQ.mp hl;obtain⟨m1,m2⟩:=acQ.mp hm;have e:x=y:=by
   rcases aaf.mp ((h x).mp (aaw ..))with e | e
   ·exact e
   rcases aaf.mp ((h y).mpr (aaw ..))with e' | e'
   ·exact e'.symm
   have a1:=m1 x e;have a2:=l1 y e';omega
  subst e;rw[xH l2 m2 fun k=>⟨fun hk=>(aaf.mp ((h k).mp (aan _ hk))).resolve_left fun z=>by have:=l1 k hk;omega,fun hk=>(aaf.mp ((h k).mpr (aan _ hk))).resolve_left fun z=>by have:=m1 k hk;omega⟩]
theorem Cg{rs:tx}{tk:wn}{aK:Int}(rb:∀ r∈rs,0<=r.2/\r.2 < 4)(hp:ns.Pairwise (· < ·))(hm:∀ k,k∈ns↔k∈xG rs tk aK):ns=mS rs tk aK:=by
 refine xH hp (List.Pairwise.sublist (List.filter_sublist ..) (by decide)) fun k=>?_;rw[hm];unfold xG mS;rw[abo,abo];refine⟨fun⟨h1,h2⟩=>⟨?_,h2⟩,fun⟨_,h2⟩=>⟨?_,h2⟩⟩
 ·unfold ff at h1;obtain⟨r,hr,rfl⟩:=abg.mp h1;have:=rb r (abo.mp hr).1;have:r.2=0\/r.2=1\/r.2=2\/r.2=3:=by omega
  simpa using this
 ·have h3:=of_decide_eq_true h2;exact List.count_pos_iff.mp (by omega)
def Ci(kH:Addr):i8:=fun aI W R _=>∃ a h,aI=[.pt a.p]/\At W (cZ kH a h)/\dZ h/\h.st.place < h.rows.length/\∀ W',At W' (cZ kH a h)->R (.im (cC h.row)) W'
def lz(kH:Addr):i8:=fun aI W R _=>∃ a h aK,aI=[.pt a.p,.im (.int aK)]/\At W (cZ kH a h)/\dZ h/\∀ W',At W' (cZ kH a h)->R (.im (.list ((h.iH aK).map .int))) W'
def jB(kH:Addr):i8:=fun aI W R _=>∃ a h aK,aI=[.pt a.p,.im (.int aK)]/\At W (cZ kH a h)/\dZ h/\∀ W',At W' (cZ kH a h)->R (.im (.bool (h.bu aK))) W'
def lB(kH:Addr):i8:=fun aI W R _=>∃ a h aK,aI=[.pt a.p,.im (.int aK)]/\At W (cZ kH a h)/\∀ W',At W' (cZ kH a h)->R (.im (.int (h.endsAt aK))) W'
def qr(kH:Addr):i8:=fun aI W R _=>∃ a h,aI=[.pt a.p]/\At W (cZ kH a h)/\∀ W',At W' (cZ kH a h)->R (.im (nQ (h.cause.map fun x=>(h.events,x)))) W'
abbrev Cj:Stmt:=(met 33 8)
abbrev qv:Stmt:=(met 33 9)
abbrev mX:Stmt:=(met 33 10)
abbrev qw:Stmt:=(met 33 11)
abbrev qx:Stmt:=(met 33 20)
theorem Kw:ay ["self"] ["self"] (defScope Cj):=by ac_rfl
theorem Ck:ay ["self", "beat"] ["self", "beat"] (defScope qv):=by ac_rfl
theorem yY:ay ["self", "beat"] ["self", "beat"] (defScope mX):=by ac_rfl
theorem Cm:ay ["self", "beat"] ["self", "beat"] (defScope qw):=by ac_rfl
theorem Cn:ay ["self"] ["self"] (defScope qx):=by ac_rfl
section
variable {K:zn}
theorem Fi(F:cA K "row_now" "Holder.row_now" Cj f fd)(cN:eU K kH bx):aW P w K mg base cI 1 f fd ["self"] (dq K (Ci kH)):=by
 exact_mod_cast F.rg Kw (fun aI W R X ⟨a,b,e,_⟩=>by rw[e];rfl);refine⟨_,(ai (ax (aj (aj (bf (ah 0)) af) (aj (bf (ah 0)) af)))),?_⟩;norm_cast;rintro aI R ⟨a,h,rfl,hA,ok,hp,qq⟩
 sizeOf_list_dec
 exact bT (gA ok.jA ok.st.p0 hp).1 (qq W hA)
theorem yZ{fB:Addr}{XS:v6}(F:cA K "waiting_by" "Holder.waiting_by" qv f fd)(cN:eU K kH bx)(mY:Dn P w K mg base 2 "bells_waiting" fB XS ["rings", "taken", "beat"] (dm B4)):aW P w K mg base cI 3 f fd ["self", "beat"] (dq K (lz kH)):=by
 exact_mod_cast F.rg Ck (fun aI W R X ⟨a,b,c,e,_⟩=>by rw[e];rfl);refine⟨_,(ai (ax (au mY hr (aa (bf (ah 0)) (aa (bf (ah 0)) (aa (ah 1) ag)))))),?_⟩;norm_cast;rintro aI R ⟨a,h,aK,rfl,hA,ok,qq⟩
 sizeOf_list_dec
 refine pW (ds:=[.list (h.rings.map pairD),.list (h.taken.map .int),.int aK]) (dR cP (dR (pX (Ks hA)) (dR cP rfl))) ⟨h.rings,h.taken,aK,rfl,ok.rl,fun ns hp hm=>⟨mM ns,Bi ?_⟩⟩;rw[Cg (fun r hr=>⟨(ok.rb r hr).1,by have:=(ok.rb r hr).2;have:=ok.jA.b1;omega⟩) hp hm];exact qq W hA
theorem vD{fW:Addr}(F:cA K "is_pressed" "Holder.is_pressed" mX f fd)(cN:eU K kH bx)(iI:iB P w K mg base 3 kH "waiting_by" fW Ov ["self", "beat"] (dq K (lz kH)))(bL:mg "len"=none):aW P w K mg base cI 4 f fd ["self", "beat"] (dq K (jB kH)):=by
 exact_mod_cast F.rg yY (fun aI W R X ⟨a,b,c,e,_⟩=>by rw[e];rfl);refine⟨_,(ai (ax (AM (Mx (aj (bf (ah 0)) af)) (wL (gw Ab (cE bZ bL aba (aa (cX iI hr (ah 0) (aa (ah 1) ag)) ag)) af))))),?_⟩;norm_cast;rintro aI R ⟨a,h,aK,rfl,hA,ok,qq⟩;unfold HM.bu at qq
 sizeOf_list_dec
 cases e:h.st.fN with
 | true =>
  rw[e]at qq;exact qq W hA
 | false =>
  rw[e]at qq
  sizeOf_list_dec
  refine bE hA aH fun W1 R' h1 g=>⟨a,h,aK,rfl,h1,ok,fun W' h'=>g _ _ fun W2 t fr=>?_⟩;have jC:=t _ h' aH
  sizeOf_list_dec
  have q:=qq W2 jC;simp only[Bool.not_false,Bool.true_and]at q;rw[aab,show decide ((0:Int) < ((h.iH aK).length:Int))=decide (0 < (h.iH aK).length) by simp only[Int.natCast_pos]];exact q
theorem y0(F:cA K "ends_at" "Holder.ends_at" qw f fd)(cN:eU K kH bx):aW P w K mg base cI 1 f fd ["self", "beat"] (dq K (lB kH)):=by
 exact_mod_cast F.rg Cm (fun aI W R X ⟨a,b,c,e,_⟩=>by rw[e];rfl);refine⟨_,(ai (ax (px (aF (aB hu) (ah 1) (bf (ah 0))) (bf (ah 0)) af))),?_⟩;norm_cast;rintro aI R ⟨a,h,aK,rfl,hA,qq⟩;have q:=qq W hA;unfold HM.endsAt at q
 sizeOf_list_dec
 refine gR (fun e=>?_) (fun e=>?_)
 ·rw[aau e]at q
  sizeOf_list_dec
  exact q
 ·rw[aao e]at q
  sizeOf_list_dec
  exact q
theorem y6(F:cA K "parted" "Holder.parted" qx f fd)(cN:eU K kH bx):aW P w K mg base cI 1 f fd ["self"] (dq K (qr kH)):=by
 exact_mod_cast F.rg Cn (fun aI W R X ⟨a,b,e,_⟩=>by rw[e];rfl);refine⟨_,(ai (ax (px (iW (bf (ah 0))) dJ (bg (aa (bf (ah 0)) (aa (bf (ah 0)) ag)))))),?_⟩;norm_cast;rintro aI R ⟨a,h,rfl,hA,qq⟩;have q:=qq W hA
 sizeOf_list_dec
 cases e:h.cause with
 | none =>
  rw[e]at q
  sizeOf_list_dec
  exact q
 | some x =>
  rw[e]at q
  sizeOf_list_dec
  rw[e];exact aw (ds:=[.int h.events,.str x]) (by show 2<=sizeLine;decide) q
end
def jD(a:Option (Str×Int)):Prop:=∀ k x,a=some (k,x)->k = "spot"\/k = "cell"
def mZ(kH:Addr):i8:=fun aI W R _=>∃ a h t,aI=[.pt a.p,.im (cC h.row),.im (dS t)]/\At W (cZ kH a h)/\dZ h/\h.st.place < h.rows.length/\jD t.kD/\∀ W',At W' (cZ kH a h)->R (.im (sX (h.gO h.row t))) W'
def qy(kH:Addr):i8:=fun aI W R _=>∃ a h b n v,aI=[.pt a.p,.im (eC (.kS b n v))]/\At W (cZ kH a h)/\dZ h/\∀ W',At W' (cZ kH a h)->R (.im (sX (h.mU n v))) W'
def qz(kH:Addr):i8:=fun aI W R _=>∃ a h b n c v,aI=[.pt a.p,.im (eC (.down b n c v))]/\At W (cZ kH a h)/\dZ h/\∀ W',At W' (cZ kH a h)->R (.im (sX (h.ja n c v))) W'
def qA(kH:Addr):i8:=fun aI W R _=>∃ a h b k,aI=[.pt a.p,.im (eC (.kT b k))]/\At W (cZ kH a h)/\dZ h/\∀ W',At W' (cZ kH a h)->R (.im (sX (h.jb b k))) W'
abbrev nc:Stmt:=(met 33 4)
abbrev qB:Stmt:=(met 33 5)
abbrev qC:Stmt:=(met 33 6)
abbrev qD:Stmt:=(met 33 7)
theorem j3:ay ["self", "row", "wrote", "right", "is_owed"] ["self", "row", "wrote"] (defScope nc):=by ac_rfl
theorem tf:ay ["self", "event", "found"] ["self", "event"] (defScope qB):=by ac_rfl
theorem Co:ay ["self", "event"] ["self", "event"] (defScope qC):=by ac_rfl
theorem tj:ay ["self", "event", "waiting"] ["self", "event"] (defScope qD):=by ac_rfl
section
variable {K:zn}
theorem xI:gh W (.im (.list ds))=some ds:=js (fun _=>by rfl) ds
theorem Fj:∀ a b:Option (Str×Int),PyData.eqv (sU a) (sU b)=decide (a=b)
 | none,none=>rfl
 | none,some _=>rfl
 | some _,none=>rfl
 | some (k,n),some (k',n')=>by
  show(PyData.eqv (.str k) (.str k')&&(PyData.eqv (.int n) (.int n')&&true))=_;rw[jw,pT]
  by_cases h1:k=k'<;>by_cases h2:n=n'<;>simp[h1,h2]
theorem xJ{a:Option (Str×Int)}(h:jD a):(sU a).canLay0=true:=by
 rcases a with _ | ⟨k,x⟩
 ·rfl
 ·rcases h k x rfl with rfl | rfl<;>(simp only[sU,PyData.canLay0,PyData.canLayAll0,Bool.and_true];decide +kernel)
theorem Oy{a b:Option (Str×Int)}(ha:jD a)(hb:jD b)(h:Q (.im (.bool (!decide (a=b)))) W):A3 (.im (sU a)) (.im (sU b)) W Q :=
 NF cP cP (.inr ⟨xJ ha,xJ hb,aam (Nat.min_le_left ..) (by rcases a with _ | ⟨x,y⟩<;>simp[sU,PyData.depth,PyData.depthAll])⟩) (by rw[Fj];exact h)
theorem vE{t:jK}(h:kB t):jD t.told.kD:=by
 rintro k x e;rcases t with _ | ⟨k',x',v⟩
 ·cases e
 ·cases e;rcases h.1 with⟨z,_⟩ | ⟨z,_⟩
  ·exact .inl z
  ·exact .inr z
theorem vF(F:cA K "broken_by_wrote" "Holder.broken_by_wrote" nc f fd)(cN:eU K kH bx)(Cp:Dn P w K mg base 4 "step" f1 d1 ["mill", "state"] (i7 (dm (SStep aR))))(oO:Dn P w K mg base 1 "thing_of" f2 d2 ["wrote"] (dm vv))(Cq:Dn P w K mg base 1 "is_slow" f3 d3 ["row"] (dm B5))(bL:mg "len"=none):aW P w K mg base cI 5 f fd ["self", "row", "wrote"] (dq K (mZ kH)):=by
 exact_mod_cast F.rg j3 (fun aI W R X ⟨a,b,c,e,_⟩=>by rw[e];rfl);refine⟨_,(ae (aC 3 j3.nd (aj (aj (au Cp hr (aa (bf (ah 0)) (aa (bf (ah 0)) ag))) af) af))
  (ae (aU (aF (eT hu) (au oO hr (aa (ah 2) ag)) (au oO hr (aa (ah 3) ag))) (ai (ax aE)) az)
  (ae (aU (iW (ah 2)) (ai (ax dJ)) az)
  (ae (aC 4 j3.nd (Gq (aj (ah 2) af)))
  (ae (aU (qW (w_and (pv (ah 4)) (dP (ku (pv (au Cq hr (aa (ah 1) ag))))))) (ai (ax aE)) az)
  (ae (aU (qW (w_and (ku (pv (ah 4))) (dP (aF (eT hu) (aj (ah 2) af) (aj (ah 3) af))))) (ai (ax aE)) az)
  (ae (aU (qW (w_and (pv (ah 4)) (dP (aF rE (cE bZ bL aba (aa (bf (ah 0)) ag)) (bf (ah 0)))))) (ai (ax aE)) az)
  (ae (aU (qW (w_and (aF (aB hu) (aj (ah 2) af) aE) (dP (aF rE (cE bZ bL aba (aa (bf (ah 0)) ag)) (bf (ah 0)))))) (ai (ax aE)) az)
  (ai (ax dJ)))))))))),?_⟩
 norm_cast;rintro aI R ⟨a,h,t,rfl,hA,ok,hp,hT,qq⟩;have q:=qq W hA;have wo:=nS hA;have wl:=Fd hA;have ro:=(gA ok.jA ok.st.p0 hp).2;unfold HM.gO at q
 sizeOf_list_dec
 refine aV (ds:=[c7 h.rows h.dE,dQ h.st]) ⟨h.rows,h.dE,h.st,rfl,ok.jA,ok.st,fun _=>bV ?_,fun z=>by omega⟩
 sizeOf_list_dec
 refine ao ?_
 sizeOf_list_dec
 refine aV (ds:=[dS t]) ⟨t,rfl,bV ?_⟩
 sizeOf_list_dec
 refine aV (ds:=[dD (h.row.wrote h.st.aY h.st.cells)]) ⟨_,by rw[mP],bV ?_⟩
 sizeOf_list_dec
 refine Oy hT (vE (iF ro ok.st.sw ok.st.cw)) ?_
 sizeOf_list_dec
 refine En (fun e=>?_) (fun e=>?_)
 ·rw[aau e]at q
  sizeOf_list_dec
  exact q
 rw[aao (fun z=>z e)]at q
 sizeOf_list_dec
 refine ao ?_
 sizeOf_list_dec
 rcases t with _ | ⟨k,x,v⟩
 ·sizeOf_list_dec
  exact q
 obtain⟨v',ew⟩:∃ v',h.row.wrote h.st.aY h.st.cells=some (k,x,v'):=by
  cases ew:h.row.wrote h.st.aY h.st.cells with
  | none=>rw[ew]at e;cases e
  | some y=>obtain⟨k',x',v'⟩:=y;rw[ew]at e;cases e;exact⟨v',rfl⟩
 rw[ew]at q;rw[ew];have XT:eO h.rows.length h.row:=ro;dsimp only[dS]
 sizeOf_list_dec
 cases v with
 | none =>
  dsimp only at q
  sizeOf_list_dec
  refine ao ?_
  sizeOf_list_dec
  refine aV (ds:=[cC h.row]) ⟨h.row,_,rfl,XT,bV ?_⟩
  sizeOf_list_dec
  cases es:mQ h.row with
  | false =>
   rw[es,aau rfl]at q
   sizeOf_list_dec
   exact q
  | true =>
   rw[es,aao (by decide)]at q
   sizeOf_list_dec
   refine ao ?_
   sizeOf_list_dec
   refine ao ?_
   sizeOf_list_dec
   rw[aab,aab];refine gR (fun e=>?_) (fun e=>?_)
   ·rw[aau e]at q
    sizeOf_list_dec
    exact q
   rw[aao e]at q
   sizeOf_list_dec
   refine ao ?_
   sizeOf_list_dec
   by_cases ek:k = "cell"
   ·refine nN ek ?_
    sizeOf_list_dec
    rw[aab,aab];refine gR (fun e=>?_) (fun e=>?_)
    ·rw[aau ⟨ek,e⟩]at q
     sizeOf_list_dec
     exact q
    ·rw[aao (fun z=>e z.2)]at q
     sizeOf_list_dec
     exact q
   ·refine kP ek ?_;rw[aao (fun z=>ek z.1)]at q
    sizeOf_list_dec
    exact q
 | some v =>
  dsimp only at q
  sizeOf_list_dec
  refine ao ?_
  sizeOf_list_dec
  refine ao ?_
  sizeOf_list_dec
  dsimp only[ua]
  sizeOf_list_dec
  refine En (fun e=>?_) (fun e=>?_)
  ·rw[aau (show Option.map (fun x:Str×Int×Int=>x.2.2) (some (k,x,v'))≠some v from fun z=>e (aaF z).symm)]at q
   sizeOf_list_dec
   exact q
  rw[aao (fun z=>z (by rw[e];rfl))]at q
  sizeOf_list_dec
  refine ao ?_
  sizeOf_list_dec
  refine ao ?_
  sizeOf_list_dec
  by_cases ek:k = "cell"
  ·refine nN ek ?_
   sizeOf_list_dec
   rw[aab,aab];refine gR (fun e=>?_) (fun e=>?_)
   ·rw[aau ⟨ek,e⟩]at q
    sizeOf_list_dec
    exact q
   ·rw[aao (fun z=>e z.2)]at q
    sizeOf_list_dec
    exact q
  ·refine kP ek ?_;rw[aao (fun z=>ek z.1)]at q
   sizeOf_list_dec
   exact q
theorem y8(F:cA K "broken_by_late" "Holder.broken_by_late" qB f fd)(cN:eU K kH bx)(bL:mg "len"=none):aW P w K mg base cI 1 f fd ["self", "event"] (dq K (qy kH)):=by
 exact_mod_cast F.rg tf (fun aI W R X ⟨a,b,c,d,g,e,_⟩=>by rw[e];rfl);refine⟨_,(ae (uM 2 (N':=["n", "spot", "worth", "told", "event"]) (ix:=[none,none,none,none,some 1]) ⟨rfl,rfl,rfl,rfl,rfl,rfl⟩ tf.nd (g9 (bf (ah 0))) (fun _ _ _ _=>(gK (n:=4) (bh (a9 0 (show List.Nodup (["n", "spot", "worth", "told", "event"]:ww) by decide +kernel)) (bh (a9 1 (show List.Nodup (["n", "spot", "worth", "told", "event"]:ww) by decide +kernel)) (bh (a9 2 (show List.Nodup (["n", "spot", "worth", "told", "event"]:ww) by decide +kernel)) (bh (a9 3 (show List.Nodup (["n", "spot", "worth", "told", "event"]:ww) by decide +kernel)) gD)))))) (fun _ _ _ _=>(pD (aF (aB hu) (ah 0) (aj (ah 4) af)))) (fun _ _ _ _=>(ah 2)))
  (ae (aU (aF (aB hu) (cE bZ bL aba (aa (ah 2) ag)) af) (ai (ax aE)) az)
  (ai (ax (px (aF (aB hu) (aj (ah 2) af) (aj (ah 1) af)) dJ aE))))),?_⟩
 norm_cast;rintro aI R ⟨a,h,b,n,v,rfl,hA,ok,qq⟩;have q:=qq W hA;unfold HM.mU at q;dsimp only[eC]
 sizeOf_list_dec
 refine sq (nS hA) ?_;refine lx (fun i ys W'=>W'=W/\ys=((((h.bW.take i).filter fun o=>decide (o.1=n)).map fun o=>PyData.int o.2.2.1)).map .im) (by rw[aab];exact aaL (gk (by have:=ok.ow;omega))) ⟨rfl,rfl⟩ (by rintro i ys _ ⟨rfl,_⟩;exact nS hA) ?_ ?_
 ·rintro i d ys _ hd _ ⟨rfl,rfl⟩;rw[aag]at hd;obtain⟨r,hr,rfl⟩:=aaH.mp hd;have et:h.bW.take (i+1)=h.bW.take i++[r]:=by rw[aaY,hr];rfl
  unfold sW
  sizeOf_list_dec
  rw[et,aco];refine gR (fun e=>?_) (fun e=>?_)
  ·sizeOf_list_dec
   exact⟨rfl,by simp[show r.1=n from e]⟩
  ·exact⟨rfl,by simp[show ¬ r.1=n from e]⟩
 ·rintro ys _ ⟨rfl,rfl⟩;rw[aab,aby];refine iz ?_
  sizeOf_list_dec
  refine ao ?_
  sizeOf_list_dec
  rw[aab];cases e:h.bW.filter fun o=>decide (o.1=n) with
  | nil =>
   rw[e]at q
   sizeOf_list_dec
   exact q
  | cons o r =>
   rw[e]at q;refine kP (by rw[aaG];omega) ?_
   sizeOf_list_dec
   refine cV (D:=.int o.2.2.1) (bB (j:=0) rfl) ?_
   sizeOf_list_dec
   dsimp only at q;refine gR (fun e=>?_) (fun e=>?_)
   ·rw[aau e]at q
    sizeOf_list_dec
    exact q
   ·rw[aao e]at q
    sizeOf_list_dec
    exact q
theorem y9(F:cA K "broken_by_down" "Holder.broken_by_down" qC f fd)(cN:eU K kH bx)(bL:mg "len"=none):aW P w K mg base cI 1 f fd ["self", "event"] (dq K (qz kH)):=by
 exact_mod_cast F.rg Co (fun aI W R X ⟨a,b,c,d,g,i,e,_⟩=>by rw[e];rfl);refine⟨_,(ae (aU (qW (w_or (aF (aB hu) (cE bZ bL aba (aa (bf (ah 0)) ag)) af) (rX (aF (eT hu) (aj (aj (bf (ah 0)) af) af) (aj (ah 1) af))))) (ai (ax aE)) az)
  (ae (aU (aF (eT hu) (aj (aj (bf (ah 0)) af) af) (aj (ah 1) af)) (ai (ax aE)) az)
  (ai (ax (px (aF (aB hu) (aj (aj (bf (ah 0)) af) af) (aj (ah 1) af)) dJ aE))))),?_⟩
 norm_cast;rintro aI R ⟨a,h,b,n,c,v,rfl,hA,ok,qq⟩;have q:=qq W hA;have wl:=Fd hA;unfold HM.ja at q;dsimp only[eC];refine ao ?_
 sizeOf_list_dec
 rw[aab,aab];cases e:h.laid with
 | nil =>
  rw[e]at q
  sizeOf_list_dec
  exact q
 | cons l r =>
  rw[e]at q wl;refine kP (by rw[aaG];omega) ?_;dsimp only at q
  sizeOf_list_dec
  refine dM (v:=.im (mR l)) wl (bB (j:=0) rfl) ?_
  sizeOf_list_dec
  refine En (fun e=>?_) (fun e=>?_)
  ·rw[aau e]at q
   sizeOf_list_dec
   exact q
  rw[aao (fun z=>z e)]at q
  sizeOf_list_dec
  refine ao ?_
  sizeOf_list_dec
  refine dM (v:=.im (mR l)) wl (bB (j:=0) rfl) ?_
  sizeOf_list_dec
  refine En (fun e=>?_) (fun e=>?_)
  ·rw[aau e]at q
   sizeOf_list_dec
   exact q
  rw[aao (fun z=>z e)]at q
  sizeOf_list_dec
  refine dM (v:=.im (mR l)) wl (bB (j:=0) rfl) ?_
  sizeOf_list_dec
  refine gR (fun e=>?_) (fun e=>?_)
  ·rw[aau e]at q
   sizeOf_list_dec
   exact q
  ·rw[aao e]at q
   sizeOf_list_dec
   exact q
theorem za(F:cA K "broken_by_bell" "Holder.broken_by_bell" qD f fd)(cN:eU K kH bx)(iI:iB P w K mg base 3 kH "waiting_by" f1 d1 ["self", "beat"] (dq K (lz kH))):aW P w K mg base cI 4 f fd ["self", "event"] (dq K (qA kH)):=by
 exact_mod_cast F.rg tj (fun aI W R X ⟨a,b,c,d,e,_⟩=>by rw[e];rfl);refine⟨_,(ae (aC 2 tj.nd (cX iI hr (ah 0) (aa (aj (ah 1) af) ag)))
  (ae (aU (AL (ou hu) (aj (ah 1) af) (ah 2)) (ai (ax aE)) az)
  (ae (aU (pv (aj (bf (ah 0)) af)) (ai (ax aE)) az)
  (ai (ax (px (aF (aB hu) (aj (ah 2) af) (aj (ah 1) af)) dJ aE)))))),?_⟩
 norm_cast;rintro aI R ⟨a,h,b,k,rfl,hA,ok,qq⟩;unfold HM.jb at qq;dsimp only[eC]
 sizeOf_list_dec
 refine bE hA aH fun W1 R' h1 g=>⟨a,h,b,rfl,h1,ok,fun W' h'=>g _ _ fun W2 t fr=>?_⟩;have jC:=t _ h' aH;have q:=qq W2 jC;clear fr t h' h1 g hA qq
 sizeOf_list_dec
 refine ao ?_
 sizeOf_list_dec
 refine mE (neg:=true) xI ?_
 sizeOf_list_dec
 by_cases e:k∈h.iH b
 ·rw[aao (fun z=>z e)]at q;rw[aau rfl,abm e]
  sizeOf_list_dec
  refine ao ?_
  sizeOf_list_dec
  cases es:h.st.fN with
  | true =>
   rw[es,aau rfl]at q
   sizeOf_list_dec
   exact q
  | false =>
   rw[es,aao (by decide)]at q
   sizeOf_list_dec
   cases ew:h.iH b with
   | nil=>rw[ew]at e;cases e
   | cons x r =>
    rw[ew]at q;refine cV (D:=.int x) (bB (j:=0) rfl) ?_
    sizeOf_list_dec
    rw[List.head?_cons]at q;refine gR (fun e=>?_) (fun e=>?_)
    ·rw[aau (by rw[e])]at q
     sizeOf_list_dec
     exact q
    ·rw[aao (fun z=>e (aaF z))]at q
     sizeOf_list_dec
     exact q
 ·rw[aau e]at q;rw[aau rfl,aaq e]
  sizeOf_list_dec
  exact q
end
def vG(kH:Addr):i8:=fun aI W R _=>∃ a h b pl t,aI=[.pt a.p,.im (eC (.fin b pl t))]/\At W (cZ kH a h)/\dZ h/\jD t.kD/\∀ W',At W' (cZ kH a h)->R (.im (sX (h.dF b pl t))) W'
def qE:Ev->Prop
 | .fin _ _ t=>jD t.kD
 | _=>True
def qG(kH:Addr):i8:=fun aI W R _=>∃ a h e,aI=[.pt a.p,.im (eC e)]/\At W (cZ kH a h)/\dZ h/\qE e/\∀ W',At W' (cZ kH a h)->R (.im (sX (h.bA e))) W'
abbrev vH:Stmt:=(met 33 3)
abbrev qH:Stmt:=(met 33 2)
theorem qI:ay ["self", "event", "beat", "row"] ["self", "event"] (defScope vH):=by ac_rfl
theorem tm:ay ["self", "event", "beat"] ["self", "event"] (defScope qH):=by ac_rfl
section
variable {K:zn}
theorem Fl(x:Int)(o:ul):PyData.eqv (.int x) (ua o)=decide (some x=o):=by
 cases o with
 | none=>rfl
 | some y=>show(x == y)=_;by_cases e:x=y<;>simp[e]
theorem Fm{x:Int}{o:ul}(h:Q (.im (.bool (decide (some x=o)))) W):A2 (.im (.int x)) (.im (ua o)) W Q:=by
 refine⟨_,_,cP,cP,.inr ⟨rfl,by cases o<;>rfl,by cases o<;>exact aaJ _⟩,?_⟩;rw[Fl];exact h
theorem oP(bs:List Bool):ik ((bs.map PyData.bool).map .im)=some bs:=by rw[acx];exact uT bs
theorem Cr{f5 f6 f7:Addr}{d5 d6 d7:v6}(F:cA K "broken_by_end" "Holder.broken_by_end" vH f fd)(cN:eU K kH bx)(vp:Dn P w K mg base 1 "rests" f1 d1 ["mill", "state"] (dm qj))(nh:iB P w K mg base 1 kH "ends_at" f2 d2 ["self", "beat"] (dq K (lB kH)))(iJ:iB P w K mg base 4 kH "is_pressed" f3 d3 ["self", "beat"] (dq K (jB kH)))(Cs:iB P w K mg base 1 kH "row_now" f4 d4 ["self"] (dq K (Ci kH)))(tq:Dn P w K mg base 1 "spots_read" f5 d5 ["row"] (dm vt))(gj:Dn P w K mg base 1 "spot_written" f6 d6 ["row"] (dm xD))(j4:iB P w K mg base 5 kH "broken_by_wrote" f7 d7 ["self", "row", "wrote"] (dq K (mZ kH)))(kF:mg "any"=none):aW P w K mg base cI 6 f fd ["self", "event"] (dq K (vG kH)):=by
 exact_mod_cast F.rg qI (fun aI W R X ⟨a,b,c,d,g,e,_⟩=>by rw[e];rfl);refine⟨_,(ae (aC 2 qI.nd (aj (ah 1) af))
  (ae (aU (pv (au vp hr (aa (bf (ah 0)) (aa (bf (ah 0)) ag)))) (ai (ax aE)) az)
  (ae (aU (aF (eT hu) (aj (ah 1) af) (aj (bf (ah 0)) af)) (ai (ax aE)) az)
  (ae (aU (aF rE (cX nh hr (ah 0) (aa (ah 2) ag)) (bf (ah 0))) (ai (ax aE)) az)
  (ae (aU (qW (w_and (pv (cX iJ hr (ah 0) (aa (ah 2) ag))) (dP (aF rE (bf (ah 0)) (bf (ah 0)))))) (ai (ax aE)) az)
  (ae (aC 3 qI.nd (xr Cs hr (ah 0)))
  (ae (aU (pv (cE (oq rfl) kF PyProof.Rows.boot_any (aa (i4 (N':=["n", "spot", "worth", "told", "row"]) (ix:=[none,none,none,none,some 3]) ⟨rfl,rfl,rfl,rfl,rfl,rfl⟩ (g9 (bf (ah 0))) (fun _ _ _ _=>(gK (n:=4) (bh (a9 0 (show List.Nodup (["n", "spot", "worth", "told", "row"]:ww) by decide +kernel)) (bh (a9 1 (show List.Nodup (["n", "spot", "worth", "told", "row"]:ww) by decide +kernel)) (bh (a9 2 (show List.Nodup (["n", "spot", "worth", "told", "row"]:ww) by decide +kernel)) (bh (a9 3 (show List.Nodup (["n", "spot", "worth", "told", "row"]:ww) by decide +kernel)) gD)))))) (fun _ _ _ _=>jS) (fun _ _ _ _=>(QM (Mw (mh hu) (ah 1) (au tq hr (aa (ah 4) ag))) (wL (gw (aB hu) (ah 1) (au gj hr (aa (ah 4) ag))))))) ag))) (ai (ax aE)) az)
  (ai (ax (cX j4 hr (ah 0) (aa (ah 3) (aa (aj (ah 1) af) ag)))))))))))),?_⟩
 norm_cast;rintro aI R ⟨a,h,b,pl,t,rfl,hA,ok,hT,qq⟩;unfold HM.dF at qq;dsimp only[eC]
 sizeOf_list_dec
 refine ao ?_
 sizeOf_list_dec
 refine aV (ds:=[c7 h.rows h.dE,dQ h.st]) ⟨h.rows,h.dE,h.st.place,_,rfl,bV ?_⟩
 sizeOf_list_dec
 refine gR (fun e=>?_) (fun e=>?_)
 ·rw[aau e]at qq
  sizeOf_list_dec
  exact qq W hA
 rw[aao e]at qq;have hp:h.st.place < h.rows.length:=by have:=ok.st.p1;omega
 have ro:=(gA ok.jA ok.st.p0 hp).2
 sizeOf_list_dec
 refine ao ?_
 sizeOf_list_dec
 refine En (fun e=>?_) (fun e=>?_)
 ·rw[aau e]at qq
  sizeOf_list_dec
  exact qq W hA
 rw[aao (fun z=>z e)]at qq
 sizeOf_list_dec
 refine ao ?_
 sizeOf_list_dec
 refine bE hA aH fun W1 R' h1 g=>⟨a,h,b,rfl,h1,fun W' h'=>g _ _ fun W2 t fr=>?_⟩;have jC:=t _ h' aH;clear fr t h' h1 g hA
 sizeOf_list_dec
 refine gR (fun e=>?_) (fun e=>?_)
 ·rw[aau e]at qq
  sizeOf_list_dec
  exact qq _ jC
 rw[aao e]at qq
 sizeOf_list_dec
 refine iy (fun ρ W=>¬ (h.bu b=true/\h.fE<=h.bw)/\At W (cZ kH a h)/\ρ=[some (.pt a.p),some (.im (eC (.fin b pl t))),some (.im (.int b)),none]) (fun k hk=>?_) ?_
 ·sizeOf_list_dec
  refine bE jC aH fun W1 R' h1 g=>⟨a,h,b,rfl,h1,ok,fun W' h'=>g _ _ fun W2 t fr=>?_⟩;have hA:=t _ h' aH;clear fr t h' h1 g jC
  sizeOf_list_dec
  cases ep:h.bu b with
  | false =>
   sizeOf_list_dec
   exact hk _ _ ⟨fun z=>(aaj (ep.symm.trans z.1)),hA,rfl⟩
  | true =>
   sizeOf_list_dec
   refine gR (fun e=>?_) (fun e=>?_)
   ·rw[aau ⟨ep,e⟩]at qq
    sizeOf_list_dec
    exact qq _ hA
   ·sizeOf_list_dec
    exact hk _ _ ⟨fun z=>e z.2,hA,rfl⟩
 clear jC;rintro ρ W ⟨hn,hA,rfl⟩;rw[aao hn]at qq;obtain⟨hx,Bs⟩:=B7 ro
 sizeOf_list_dec
 refine bE hA aH fun W1 R' h1 g=>⟨a,h,rfl,h1,ok,hp,fun W' h'=>g _ _ fun W2 t fr=>?_⟩;have jC:=t _ h' aH;clear fr t h' h1 g hA
 sizeOf_list_dec
 refine ao ?_
 sizeOf_list_dec
 refine sq (nS jC) ?_
 sizeOf_list_dec
 refine lx (fun i ys W=>ys=(((h.bW.take i).map fun o=>gN h.row o.2.1).map PyData.bool).map .im/\At W (cZ kH a h)) (by rw[aab];exact aaL (gk (by have:=ok.ow;omega))) ⟨rfl,jC⟩ (fun i ys W ⟨_,h⟩=>nS h) ?_ ?_
 ·rintro i d ys W hd _ ⟨rfl,hA⟩;rw[aag]at hd;obtain⟨o,hl,rfl⟩:=aaH.mp hd;have et:h.bW.take (i+1)=h.bW.take i++[o]:=by rw[aaY,hl];rfl
  unfold sW
  sizeOf_list_dec
  refine aV (ds:=[cC h.row]) ⟨Ow h.row,vx h.row,vw h.row,by rw[hx],Bs,Bi ?_⟩;refine mE (neg:=false) (b:=.im (.list ((cz (vx h.row) (vw h.row)).map .int))) xI ?_
  sizeOf_list_dec
  rw[et,ab5]
  by_cases e:o.2.1∈cz (vx h.row) (vw h.row)
  ·refine nN e ?_
   sizeOf_list_dec
   exact⟨by simp[gN,e],hA⟩
  ·refine kP e ?_
   sizeOf_list_dec
   refine aV (ds:=[cC h.row]) ⟨Ow h.row,vx h.row,vw h.row,by rw[hx],Bs,bV (Fm ?_)⟩;exact⟨by simp[gN,e],hA⟩
 ·rintro ys W4 ⟨rfl,hA⟩;rw[aab,aby];refine iz ?_
  sizeOf_list_dec
  refine⟨_,_,_,rfl,rfl,oP _,?_⟩
  sizeOf_list_dec
  rw[show(List.map (fun o=>gN h.row o.2.1) h.bW).any id=h.bW.any (fun o=>gN h.row o.2.1) by rw[List.any_map];rfl];cases eo:h.bW.any (fun o=>gN h.row o.2.1) with
  | true =>
   rw[eo,aau rfl]at qq
   sizeOf_list_dec
   exact qq _ hA
  | false =>
   rw[eo,aao (by decide)]at qq
   sizeOf_list_dec
   refine bE hA aH fun W1 R' h1 g=>⟨a,h,t,rfl,h1,ok,hp,hT,fun W' h'=>g _ _ fun W2 t fr=>?_⟩;exact qq _ (t _ h' aH)
theorem zb(F:cA K "first_broken" "Holder.first_broken" qH f fd)(cN:eU K kH bx)(nj:iB P w K mg base 6 kH "broken_by_end" f1 d1 ["self", "event"] (dq K (vG kH)))(kU:iB P w K mg base 1 kH "broken_by_late" f2 d2 ["self", "event"] (dq K (qy kH)))(kW:iB P w K mg base 1 kH "broken_by_down" f3 d3 ["self", "event"] (dq K (qz kH)))(kX:iB P w K mg base 4 kH "broken_by_bell" f4 d4 ["self", "event"] (dq K (qA kH)))(kF:mg "any"=none):aW P w K mg base cI 7 f fd ["self", "event"] (dq K (qG kH)):=by
 exact_mod_cast F.rg tm (fun aI W R X ⟨a,b,c,e,_⟩=>by rw[e];rfl);refine⟨_,(ae (aC 2 tm.nd (aj (ah 1) af))
  (ae (aU (aF jf (ah 2) (bf (ah 0))) (ai (ax aE)) az)
  (ae (aU (pv (cE (oq rfl) kF PyProof.Rows.boot_any (aa (i4 (N':=["n", "spot", "worth", "told", "beat", "self"]) (ix:=[none,none,none,none,some 2,some 0]) ⟨rfl,rfl,rfl,rfl,rfl,rfl⟩ (g9 (bf (ah 0))) (fun _ _ _ _=>(gK (n:=4) (bh (a9 0 (show List.Nodup (["n", "spot", "worth", "told", "beat", "self"]:ww) by decide +kernel)) (bh (a9 1 (show List.Nodup (["n", "spot", "worth", "told", "beat", "self"]:ww) by decide +kernel)) (bh (a9 2 (show List.Nodup (["n", "spot", "worth", "told", "beat", "self"]:ww) by decide +kernel)) (bh (a9 3 (show List.Nodup (["n", "spot", "worth", "told", "beat", "self"]:ww) by decide +kernel)) gD)))))) (fun _ _ _ _=>jS) (fun _ _ _ _=>(gw jf (aQ a8 (ah 3) (bf (ah 5))) (ah 4)))) ag))) (ai (ax aE)) az)
  (ae (aU (aF (aB hu) (aj (ah 1) af) aE) (ai (ax (cX nj hr (ah 0) (aa (ah 1) ag)))) az)
  (ae (aU (aF (aB hu) (aj (ah 1) af) aE) (ai (ax (cX kU hr (ah 0) (aa (ah 1) ag)))) az)
  (ae (aU (aF (aB hu) (aj (ah 1) af) aE) (ai (ax (cX kW hr (ah 0) (aa (ah 1) ag)))) az)
  (ai (ax (cX kX hr (ah 0) (aa (ah 1) ag)))))))))),?_⟩
 norm_cast;rintro aI R ⟨a,h,e,rfl,hA,ok,hE,qq⟩;unfold HM.bA at qq;have e1:∃ x r,eC e=.tuple (.str x::.int e.aK::r):=by cases e<;>exact⟨_,_,rfl⟩
 obtain⟨x,r,e1⟩:=e1;rw[e1]
 sizeOf_list_dec
 refine bT (D:=.int e.aK) (bB (j:=1) rfl) ?_
 sizeOf_list_dec
 refine ao ?_
 sizeOf_list_dec
 refine gR (fun z=>?_) (fun z=>?_)
 ·rw[aau z]at qq
  sizeOf_list_dec
  exact qq W hA
 rw[aao z]at qq
 sizeOf_list_dec
 refine ao ?_
 sizeOf_list_dec
 refine sq (nS hA) ?_
 sizeOf_list_dec
 refine lx (fun i ys W=>ys=(((h.bW.take i).map fun o=>decide (o.2.2.2+h.longest < e.aK)).map PyData.bool).map .im/\At W (cZ kH a h)) (by rw[aab];exact aaL (gk (by have:=ok.ow;omega))) ⟨rfl,hA⟩ (fun i ys W ⟨_,h⟩=>nS h) ?_ ?_
 ·clear hA;rintro i d ys W hd _ ⟨rfl,hA⟩;rw[aag]at hd;obtain⟨o,hl,rfl⟩:=aaH.mp hd;have et:h.bW.take (i+1)=h.bW.take i++[o]:=by rw[aaY,hl];rfl
  unfold sW
  sizeOf_list_dec
  rw[et,ab5];exact⟨by simp,hA⟩
 clear hA;rintro ys W ⟨rfl,hA⟩;rw[aab,aby];refine iz ?_
 sizeOf_list_dec
 refine⟨_,_,_,rfl,rfl,oP _,?_⟩
 sizeOf_list_dec
 rw[show(List.map (fun o:Int×Int×Int×Int=>decide (o.2.2.2+h.longest < e.aK)) h.bW).any id=h.bW.any (fun o=>decide (o.2.2.2+h.longest < e.aK)) by rw[List.any_map];rfl];cases eo:h.bW.any (fun o=>decide (o.2.2.2+h.longest < e.aK)) with
 | true =>
  rw[eo,aau rfl]at qq
  sizeOf_list_dec
  exact qq _ hA
 | false =>
  rw[eo,aao (by decide)]at qq
  sizeOf_list_dec
  refine ao ?_;cases e with
  | fin b pl t =>
   cases e1
   sizeOf_list_dec
   refine bE hA aH fun W1 R' h1 g=>⟨a,h,b,pl,t,rfl,h1,ok,hE,fun W' h'=>g _ _ fun W2 t fr=>?_⟩;exact qq _ (t _ h' aH)
  | kS b n v =>
   cases e1
   sizeOf_list_dec
   refine ao ?_
   sizeOf_list_dec
   refine bE hA aH fun W1 R' h1 g=>⟨a,h,b,n,v,rfl,h1,ok,fun W' h'=>g _ _ fun W2 t fr=>?_⟩;exact qq _ (t _ h' aH)
  | down b n c v =>
   cases e1
   sizeOf_list_dec
   refine ao ?_
   sizeOf_list_dec
   refine ao ?_
   sizeOf_list_dec
   refine bE hA aH fun W1 R' h1 g=>⟨a,h,b,n,c,v,rfl,h1,ok,fun W' h'=>g _ _ fun W2 t fr=>?_⟩;exact qq _ (t _ h' aH)
  | kT b k =>
   cases e1
   sizeOf_list_dec
   refine ao ?_
   sizeOf_list_dec
   refine ao ?_
   sizeOf_list_dec
   refine bE hA aH fun W1 R' h1 g=>⟨a,h,b,k,rfl,h1,ok,fun W' h'=>g _ _ fun W2 t fr=>?_⟩;exact qq _ (t _ h' aH)
end
def nk(kH:Addr):i8:=fun aI W R _=>∃ a h b t,aI=[.pt a.p,.im (.int b),.im (dS t)]/\At W (cZ kH a h)/\dZ h/\h.st.place < h.rows.length/\t.kD=mO.kD (h.row.wrote h.st.aY h.st.cells).told/\∀ W',At W' (cZ kH a (h.kE b t))->R (.im .none) W'
def j5(kH:Addr):i8:=fun aI W R _=>∃ a h k,aI=[.pt a.p,.im (.int k)]/\At W (cZ kH a h)/\dZ h/\0<=k/\k < h.dE.length/\h.st.fN=false/\∀ W',At W' (cZ kH a (h.vA k))->R (.im .none) W'
abbrev nq:Stmt:=(met 33 13)
abbrev j6:Stmt:=(met 33 14)
theorem j7:ay ["self", "beat", "wrote", "done", "right"] ["self", "beat", "wrote"] (defScope nq):=by ac_rfl
theorem vI:ay ["self", "k"] ["self", "k"] (defScope j6):=by ac_rfl
section
variable {K:zn}
theorem tw{aN:Addr}(F:cA K "take_bell" "Holder.take_bell" j6 f fd)(cN:eU K kH bx)(Oz:Dn P w K mg base 2 "bell" f1 d1 ["mill", "state", "k"] (i7 (dm (BV aN aS)))):aW P w K mg base cI 3 f fd ["self", "k"] (dq K (j5 kH)):=by
 exact_mod_cast F.rg vI (fun aI W R X ⟨a,b,c,e,_⟩=>by rw[e];rfl);refine⟨_,(ae (cj (ah 0) (au Oz hr (aa (bf (ah 0)) (aa (bf (ah 0)) (aa (ah 1) ag)))))
  (ae (dO (kO aaC aaR aaS cS (bf (ah 0)) (aa (ah 1) ag)))
  (ai (cj (ah 0) af)))),?_⟩
 norm_cast;rintro aI R ⟨a,h,k,rfl,hA,ok,k0,k1,hs,qq⟩
 sizeOf_list_dec
 refine aV (ds:=[c7 h.rows h.dE,dQ h.st,.int k]) ⟨h.rows,h.dE,h.st,k,rfl,fun _ _=>bV ?_,fun z=>absurd ⟨k0,k1⟩ z,fun _ z=>absurd (hs.symm.trans z) aaj⟩
 sizeOf_list_dec
 refine Hc { h with st:=xB h.dE k h.st } hA cN fun W1 Le=>?_;have wk:=Ks Le
 sizeOf_list_dec
 refine dn (Ks Le) (by rw[aab,aab];exact gk (by have:=ok.tk;exact aam this (by decide))) fun W2 w2 f2=>?_;have jC:=Sl (xs:=h.taken++[k]) Le f2 (by rw[w2];simp)
 sizeOf_list_dec
 refine Hc (h.vA k) jC cN fun W3 Fn=>?_;exact qq _ Fn
theorem vJ(F:cA K "take_end" "Holder.take_end" nq f fd)(cN:eU K kH bx)(iJ:iB P w K mg base 4 kH "is_pressed" f1 d1 ["self", "beat"] (dq K (jB kH)))(Cp:Dn P w K mg base 4 "step" f2 d2 ["mill", "state"] (i7 (dm (SStep aR)))):aW P w K mg base cI 5 f fd ["self", "beat", "wrote"] (dq K (nk kH)):=by
 exact_mod_cast F.rg j7 (fun aI W R X ⟨a,b,c,d,e,_⟩=>by rw[e];rfl);refine⟨_,(ae (cj (ah 0) (px (pv (cX iJ hr (ah 0) (aa (ah 1) ag))) (aQ a8 (bf (ah 0)) af) af))
  (ae (aC 3 j7.nd (au Cp hr (aa (bf (ah 0)) (aa (bf (ah 0)) ag))))
  (ae (aC 4 j7.nd (aj (aj (ah 3) af) af))
  (ae (aU (qW (w_and (lZ (ah 2)) (dP (iW (aj (ah 2) af))))) (ai (dO (kO aaC aaR aaS cS (bf (ah 0)) (aa (bg (aa (bf (ah 0)) (aa (aj (ah 4) af) (aa (aj (ah 4) af) (aa (ah 1) ag))))) ag)))) (ai (aU (qW (w_and (lZ (ah 2)) (dP (aF (aB hu) (aj (ah 2) af) aE)))) (ai (dO (kO aaC aaR aaS cS (bf (ah 0)) (aa (bg (aa (bf (ah 0)) (aa (aj (ah 4) af) (aa (aj (ah 4) af) ag)))) ag)))) az)))
  (ae (cj (ah 0) (aj (ah 3) af))
  (ae (mq o4 (ah 0) af)
  (ai (mq o4 (ah 0) af)))))))),?_⟩
 norm_cast;rintro aI R ⟨a,h,b,t,rfl,hA,ok,hp,hT,qq⟩;have ro:=(gA ok.jA ok.st.p0 hp).2;refine cG [_,_,_,none,none] rfl ?_;refine iy (fun ρ W=>At W (cZ kH a { h with bw:=if h.bu b=true then h.bw+1 else 0 })/\ρ=[some (.pt a.p),some (.im (.int b)),some (.im (dS t)),none,none]) (fun k hk=>?_) ?_
 ·sizeOf_list_dec
  refine bE hA aH fun W1 R' h1 g=>⟨a,h,b,rfl,h1,ok,fun W' h'=>g _ _ fun W2 t fr=>?_⟩;have Le:=t _ h' aH;clear fr t h' h1 g hA
  sizeOf_list_dec
  cases ep:h.bu b with
  | true =>
   sizeOf_list_dec
   refine Hc { h with bw:=h.bw+1 } Le cN fun W3 Fn=>?_;exact hk _ _ ⟨by rw[ep];exact Fn,rfl⟩
  | false =>
   sizeOf_list_dec
   refine Hc { h with bw:=0 } Le cN fun W3 Fn=>?_;exact hk _ _ ⟨by rw[ep];exact Fn,rfl⟩
 clear hA;rintro ρ W ⟨hA,rfl⟩;generalize XU:(if h.bu b=true then h.bw+1 else 0)=pr at hA
 sizeOf_list_dec
 refine aV (ds:=[c7 h.rows h.dE,dQ h.st]) ⟨h.rows,h.dE,h.st,rfl,ok.jA,ok.st,fun _=>bV ?_,fun z=>by omega⟩
 sizeOf_list_dec
 have OA:∀ h2:HM,h2=({ h with bw:=pr }:HM).dh b t (h.row.wrote h.st.aY h.st.cells)->h.kE b t={ h2 with st:=gb h.row h.st,ends:=h2.ends+1,iG:=h2.iG+1 }:=fun h2 e=>by subst e;subst XU;rfl
 refine iy (fun ρ W=>∃ h2:HM,h.kE b t={ h2 with st:=gb h.row h.st,ends:=h2.ends+1,iG:=h2.iG+1 }/\At W (cZ kH a h2)/\∃ u,ρ=[some (.pt a.p),some (.im (.int b)),some (.im (dS t)),some (.im (.tuple [dQ (gb h.row h.st),Kn (h.st.place,h.row.wrote h.st.aY h.st.cells)])),u]) (fun k hk=>?_) ?_
 ·have wo:=nS hA;have wl:=Fd hA;rcases t with _ | ⟨k',x',v'⟩
  ·sizeOf_list_dec
   exact hk _ _ ⟨_,OA _ (by unfold HM.dh;rfl),hA,_,rfl⟩
  obtain⟨v,ew⟩:∃ v,h.row.wrote h.st.aY h.st.cells=some (k',x',v):=by
   cases ew:h.row.wrote h.st.aY h.st.cells with
   | none=>rw[ew]at hT;cases hT
   | some y=>obtain⟨k',x',v'⟩:=y;rw[ew]at hT;cases hT;exact⟨v',rfl⟩
  rw[ew]at OA ⊢;dsimp only[dS]
  sizeOf_list_dec
  cases v' with
  | none =>
   sizeOf_list_dec
   refine aw (ds:=[.int h.ends,.int x',.int v,.int b]) (by show 4<=sizeLine;decide) ?_
   sizeOf_list_dec
   refine dn wo (by rw[aab,aab];exact gk (by have:=ok.ow;exact aam this (by decide))) fun W2 w2 f2=>?_;exact hk _ _ ⟨_,OA _ rfl,Sn (xs:=h.bW++[(h.ends,x',v,b)]) hA f2 (by rw[w2];simp[sW]),some (.im (dD (some (k',x',v)))),by rw[ew];rfl⟩
  | some v' =>
   sizeOf_list_dec
   by_cases ek:k' = "cell"
   ·refine nN ek ?_
    sizeOf_list_dec
    refine aw (ds:=[.int h.ends,.int x',.int v]) (by show 3<=sizeLine;decide) ?_
    sizeOf_list_dec
    refine dn wl (by rw[aab,aab];exact gk (by have:=ok.la;exact aam this (by decide))) fun W2 w2 f2=>?_;exact hk _ _ ⟨_,OA _ (by unfold HM.dh;dsimp only;rw[aau ek]),So (xs:=h.laid++[(h.ends,x',v)]) hA f2 (by rw[w2];simp[mR]),some (.im (dD (some (k',x',v)))),by rw[ew];rfl⟩
   ·refine kP ek ?_
    sizeOf_list_dec
    exact hk _ _ ⟨_,OA _ (by unfold HM.dh;dsimp only;rw[aao ek]),hA,some (.im (dD (some (k',x',v)))),by rw[ew];rfl⟩
 rintro ρ W ⟨h2,e2,hA,u,rfl⟩;rw[e2]at qq
 sizeOf_list_dec
 refine Hc { h2 with st:=gb h.row h.st } hA cN fun W3 Fn=>?_
 sizeOf_list_dec
 refine Sk { h2 with st:=gb h.row h.st,ends:=h2.ends+1 } Fn fun W4 Sq=>?_
 sizeOf_list_dec
 refine Sk { h2 with st:=gb h.row h.st,ends:=h2.ends+1,iG:=h2.iG+1 } Sq fun W5 OB=>?_;exact qq _ OB
end
def qJ(kH:Addr):i8:=fun aI W R _=>∃ a h e,aI=[.pt a.p,.im (eC e)]/\At W (cZ kH a h)/\dZ h/\h.bA e=none/\∀ a' W',a'.on a->At W' (cZ kH a' (h.bU e))->R (.im .none) W'
def Ct(kH:Addr):i8:=fun aI W R _=>∃ a h e,aI=[.pt a.p,.im (eC e)]/\At W (cZ kH a h)/\dZ h/\qE e/\h.cause=none/\∀ a' W',a'.on a->At W' (cZ kH a' (h.tell e))->R (.im (sX (h.tell e).cause)) W'
theorem oQ{e:Ev}(z:h.bA e=none):¬ e.aK < h.aK/\(match e with
  | .fin b pl t=>h.dF b pl t
  | .kS _ n v=>h.mU n v
  | .down _ n c v=>h.ja n c v
  | .kT b k=>h.jb b k)=none:=by
 unfold HM.bA at z;split at z
 ·cases z
 ·rename_i hb;split at z
  ·cases z
  ·exact⟨hb,z⟩
theorem Cu{t:mO}(ok:dZ h)(z:h.dF b pl t=none):h.st.place < h.rows.length/\pl=h.st.place/\t.kD=mO.kD (h.row.wrote h.st.aY h.st.cells).told:=by
 unfold HM.dF at z;split at z
 ·cases z
 rename_i h1;have:=ok.st.p1;refine⟨by omega,?_⟩;split at z
 ·cases z
 rename_i h2;refine⟨acX.mp h2,?_⟩;split at z
 ·cases z
 split at z
 ·cases z
 split at z
 ·cases z
 unfold HM.gO at z;split at z
 ·cases z
 ·rename_i h3;exact acX.mp h3
theorem zc(ok:dZ h)(m:k∈h.iH b):0<=k/\k < h.dE.length:=by
 unfold HM.iH mS at m;have h2:=of_decide_eq_true (abo.mp m).2;have h3:k∈ff h.rings b:=List.count_pos_iff.mp (by omega);unfold ff at h3;obtain⟨r,hr,rfl⟩:=abg.mp h3;exact ok.rb r (abo.mp hr).1
theorem xK(ok:dZ h)(z:h.jb b k=none):0<=k/\k < h.dE.length/\h.st.fN=false:=by
 unfold HM.jb at z;split at z
 ·cases z
 rename_i h1;split at z
 ·cases z
 rename_i h2;obtain⟨a,b⟩:=zc ok (acX.mp h1);exact⟨a,b,by simpa using h2⟩
abbrev qK:Stmt:=(met 33 12)
abbrev Cv:Stmt:=(met 33 1)
theorem tD:ay ["self", "event", "beat"] ["self", "event"] (defScope qK):=by ac_rfl
theorem Kx:ay ["self", "event"] ["self", "event"] (defScope Cv):=by ac_rfl
section
variable {K:zn}
theorem Fo(xs:List α):cutD xs (some 1) none=xs.drop 1:=by
 have e:HT.dj xs.length 0 (some 1)=min 1 xs.length:=by rw[show(some 1:ul)=some ((1:Nat):Int) from rfl,HT.lh]
 unfold cutD;rw[e,HT.lQ];cases xs with
 | nil=>rfl
 | cons x r=>show((x::r).drop (min 1 (r.length+1))).take ((r.length+1) - min 1 (r.length+1))=r;rw[Nat.min_eq_left (by omega)];simp
theorem zd(F:cA K "take_up" "Holder.take_up" qK f fd)(cN:eU K kH bx)(nh:iB P w K mg base 1 kH "ends_at" f1 d1 ["self", "beat"] (dq K (lB kH)))(ze:iB P w K mg base 5 kH "take_end" f2 d2 ["self", "beat", "wrote"] (dq K (nk kH)))(vK:iB P w K mg base 3 kH "take_bell" f3 d3 ["self", "k"] (dq K (j5 kH))):aW P w K mg base cI 6 f fd ["self", "event"] (dq K (qJ kH)):=by
 exact_mod_cast F.rg tD (fun aI W R X ⟨a,b,c,e,_⟩=>by rw[e];rfl);refine⟨_,(ae (aC 2 tD.nd (aj (ah 1) af))
  (ae (cj (ah 0) (cX nh hr (ah 0) (aa (ah 2) ag)))
  (ae (aU (aF (aB hu) (aj (ah 1) af) aE) (ai (dO (cX ze hr (ah 0) (aa (ah 2) (aa (aj (ah 1) af) ag))))) (ai (aU (aF (aB hu) (aj (ah 1) af) aE) (ai (cj (ah 0) (i4 (N':=["one", "event"]) (ix:=[none,some 1]) ⟨rfl,rfl,rfl,rfl,rfl,rfl⟩ (g9 (bf (ah 0))) (fun _ _ _ _=>(a9 0 (show List.Nodup (["one", "event"]:ww) by decide +kernel))) (fun _ _ _ _=>(pD (aF (eT hu) (aj (ah 0) af) (aj (ah 1) af)))) (fun _ _ _ _=>(ah 0))))) (ai (aU (aF (aB hu) (aj (ah 1) af) aE) (ai (cj (ah 0) (AN DQ (bf (ah 0)) (l4 af) l0))) (ai (dO (cX vK hr (ah 0) (aa (aj (ah 1) af) ag)))))))))
  (ae (cj (ah 0) (ah 2))
  (ai (mq o4 (ah 0) af)))))),?_⟩
 norm_cast;rintro aI R ⟨a,h,e,rfl,hA,ok,hb,qq⟩;obtain⟨_,hb⟩:=oQ hb;have e1:∃ x r,eC e=.tuple (.str x::.int e.aK::r):=by cases e<;>exact⟨_,_,rfl⟩
 obtain⟨x,r,e1⟩:=e1;rw[e1];refine cG [_,_,none] rfl ?_
 sizeOf_list_dec
 refine bT (D:=.int e.aK) (bB (j:=1) rfl) ?_
 sizeOf_list_dec
 refine bE hA aH fun W1 R' h1 g=>⟨a,h,e.aK,rfl,h1,fun W' h'=>g _ _ fun W2 t fr=>?_⟩;have jC:=t _ h' aH;clear fr t h' h1 g hA
 sizeOf_list_dec
 refine Hc { h with iG:=h.endsAt e.aK } jC cN fun W3 hA=>?_;clear jC;have vL:dZ { h with iG:=h.endsAt e.aK }:=⟨ok.jA,ok.st,ok.rl,ok.rb,ok.tk,ok.ow,ok.la⟩;refine iy (fun ρ W=>∃ a' h2,a'.on a/\At W (cZ kH a' h2)/\h.bU e={ h2 with aK:=e.aK,events:=h2.events+1 }/\ρ=[some (.pt a.p),some (.im (eC e)),some (.im (.int e.aK))]) (fun k hk=>?_) ?_
 ·cases e with
  | fin b pl t =>
   obtain⟨z1,z2,z3⟩:=Cu ok hb;cases e1
   sizeOf_list_dec
   refine bE hA aH fun W1 R' h1 g=>⟨a,_,b,t,rfl,h1,vL,z1,z3,fun W' h'=>g _ _ fun W2 t fr=>?_⟩;exact hk _ _ ⟨a,_,⟨rfl,rfl⟩,t _ h' aH,rfl,rfl⟩
  | kS b n v =>
   cases e1
   sizeOf_list_dec
   refine sq (nS hA) ?_
   sizeOf_list_dec
   refine lx (fun i ys W'=>W'=W3/\ys=((((h.bW.take i).filter fun o=>decide (o.1≠n)).map sW)).map .im) (by rw[aab];exact aaL (gk (by have:=ok.ow;exact aam this (by decide)))) ⟨rfl,rfl⟩ (by rintro i ys _ ⟨rfl,_⟩;exact nS hA) ?_ ?_
   ·rintro i d ys _ hd _ ⟨rfl,rfl⟩;rw[aag]at hd;obtain⟨o,hl,rfl⟩:=aaH.mp hd;have et:h.bW.take (i+1)=h.bW.take i++[o]:=by
     have PH:h.bW[i]?=some o:=hl;rw[aaY,PH];rfl
    sizeOf_list_dec
    rw[et,aco];refine En (fun z=>?_) (fun z=>?_)
    ·sizeOf_list_dec
     exact⟨rfl,by simp[show ¬ o.1=n from z]⟩
    ·exact⟨rfl,by simp[show o.1=n from z]⟩
   ·rintro ys _ ⟨rfl,rfl⟩;rw[aab];refine ky fun q W4 hq wq fq=>?_
    sizeOf_list_dec
    refine Vg 2 { a with ow:=q } { h with iG:=h.endsAt b,bW:=h.bW.filter fun o=>decide (o.1≠n) } hA cN hq fq wq (fun W5 OB=>hk _ _ ⟨{ a with ow:=q },_,⟨rfl,rfl⟩,OB,rfl,rfl⟩) ?_;rw[show(h.bW.take h.bW.length)=h.bW from aby ..]
    with_unfolding_all rfl
  | down b n c v =>
   cases e1
   sizeOf_list_dec
   refine NR (Fd hA) ?_;rw[Fo];refine ky fun q W4 hq wq fq=>?_
   sizeOf_list_dec
   refine Vg 3 { a with la:=q } { h with iG:=h.endsAt b,laid:=h.laid.drop 1 } hA cN hq fq wq (fun W5 OB=>hk _ _ ⟨{ a with la:=q },_,⟨rfl,rfl⟩,OB,rfl,rfl⟩) ?_;rw[<- List.map_drop,<- List.map_drop]
   with_unfolding_all rfl
  | kT b k =>
   obtain⟨z1,z2,z3⟩:=xK ok hb;cases e1
   sizeOf_list_dec
   refine bE hA aH fun W1 R' h1 g=>⟨a,_,k,rfl,h1,vL,z1,z2,z3,fun W' h'=>g _ _ fun W2 t fr=>?_⟩;exact hk _ _ ⟨a,_,⟨rfl,rfl⟩,t _ h' aH,rfl,rfl⟩
 clear hA;rintro ρ W ⟨a',h2,⟨o1,o2⟩,hA,e2,rfl⟩;rw[e2]at qq;rw[<- o1]
 sizeOf_list_dec
 refine Hc { h2 with aK:=e.aK } hA cN fun W3 Fn=>?_
 sizeOf_list_dec
 refine Sk { h2 with aK:=e.aK,events:=h2.events+1 } Fn fun W4 Sq=>?_;exact qq a' _ ⟨o1,o2⟩ Sq
theorem Fp(F:cA K "tell" "Holder.tell" Cv f fd)(cN:eU K kH bx)(nT:iB P w K mg base 7 kH "first_broken" f1 d1 ["self", "event"] (dq K (qG kH)))(Cw:iB P w K mg base 6 kH "take_up" f2 d2 ["self", "event"] (dq K (qJ kH))):aW P w K mg base cI 8 f fd ["self", "event"] (dq K (Ct kH)):=by
 exact_mod_cast F.rg Kx (fun aI W R X ⟨a,b,c,e,_⟩=>by rw[e];rfl);refine⟨_,(ae (aU (iW (bf (ah 0))) (ae (cj (ah 0) (cX nT hr (ah 0) (aa (ah 1) ag)))
   (ai (aU (iW (bf (ah 0))) (ai (dO (cX Cw hr (ah 0) (aa (ah 1) ag)))) az))) az)
  (ai (ax (bf (ah 0))))),?_⟩
 norm_cast;rintro aI R ⟨a,h,e,rfl,hA,ok,hE,hc,qq⟩;unfold HM.tell at qq;refine ao ?_
 sizeOf_list_dec
 rw[hc]
 sizeOf_list_dec
 refine bE hA aH fun W1 R' h1 g=>⟨a,h,e,rfl,h1,ok,hE,fun W' h'=>g _ _ fun W2 t fr=>?_⟩;have jC:=t _ h' aH;clear fr t h' h1 g hA
 sizeOf_list_dec
 refine Hc { h with cause:=h.bA e } jC cN fun W3 hA=>?_;clear jC;cases eb:h.bA e with
 | some x =>
  rw[eb]at qq hA
  sizeOf_list_dec
  exact qq a _ ⟨rfl,rfl⟩ hA
 | none =>
  rw[eb]at qq hA;have eh:({ h with cause:=none }:HM)=h:=by cases h;cases hc;rfl
  rw[eh]at hA
  sizeOf_list_dec
  rw[hc]
  sizeOf_list_dec
  refine bE hA aH fun W1 R' h1 g=>⟨a,h,e,rfl,h1,ok,eb,fun a' W' o h'=>g _ _ fun W2 t fr=>?_⟩;have jC:=t _ h' aH;have q:=qq a' _ o jC;obtain⟨o1,o2⟩:=o;rw[<- o1]
  sizeOf_list_dec
  exact q
end
structure Vi where
 (width room queue fE longest:Int)
def nr(t:Vi):PyData:=.tuple [.int t.width,.int t.room,.int t.queue,.int t.fE,.int t.longest]
def zz(rs:List Rw)(bs:wn)(st:nF)(ps:tx)(t:Vi):HM:=⟨rs,bs,ps,t.width,t.room,t.queue,t.fE,t.longest,st,0,0,0,0,0,[],[],[],none⟩
def vM(kH:Addr):i8:=fun aI W R _=>∃ p d rs bs st ps t,aI=[.pt p,.im (c7 rs bs),.im (dQ st),.im (.list (ps.map pairD)),.im (nr t)]/\At W [(p,.ob kH d [])]/\ps.length<=1000/\∀ a W',a.p=p->At W' (cZ kH a (zz rs bs st ps t))->R (.im .none) W'
def fg:HM->List Ev->Option (Int×Str)
 | _,[]=>none
 | h,e::r=>match (h.tell e).cause with
  | some x=>some ((h.tell e).events,x)
  | none=>fg (h.tell e) r
def nu:jv:=fun ds R _=>∃ rs bs st ps t es,ds=[c7 rs bs,dQ st,.list (ps.map pairD),nr t,.list (es.map eC)]/\dZ (zz rs bs st ps t)/\(∀ e∈es,qE e)/\es.length<=4000/\R (.im (nQ (fg (zz rs bs st ps t) es)))
structure zf(h:HM)(n:Nat):Prop where
 tk:h.taken.length<=n
 ow:h.bW.length<=n
 la:h.laid.length<=n
theorem zg(l:zf h n)(b:Int)(t:mO)(w:jK):zf (h.dh b t w) (n+1)/\∃ o la,h.dh b t w={ h with bW:=o,laid:=la }:=by
 have h1:=l.tk;have h2:=l.ow;have h3:=l.la;unfold HM.dh;split
 ·exact⟨⟨aaz h1,by simp only[aaB,aaG,abP];omega,aaz h3⟩,_,_,rfl⟩
 ·split
  ·exact⟨⟨aaz h1,aaz h2,by simp only[aaB,aaG,abP];omega⟩,_,_,rfl⟩
  ·exact⟨⟨aaz h1,aaz h2,aaz h3⟩,_,_,rfl⟩
 ·exact⟨⟨aaz h1,aaz h2,aaz h3⟩,_,_,rfl⟩
theorem OC{e:Ev}(ok:dZ h)(hb:h.bA e=none)(l:zf h n)(hn:n < 5000):dZ (h.bU e)/\zf (h.bU e) (n+1)/\(h.bU e).cause=h.cause/\(h.bU e).events=h.events+1:=by
 obtain⟨_,hb⟩:=oQ hb;cases e with
 | fin b pl t =>
  obtain⟨z1,z2,z3⟩:=Cu ok hb;have ro:=(gA ok.jA ok.st.p0 z1).2;have l1:zf { h with iG:=h.endsAt b,bw:=if({ h with iG:=h.endsAt b }:HM).bu b=true then h.bw+1 else 0 } n:=⟨l.tk,l.ow,l.la⟩;obtain⟨l2,o,la,e2⟩:=zg l1 b t (h.row.wrote h.st.aY h.st.cells);have eu:h.bU (.fin b pl t)={ ({ h with iG:=h.endsAt b,bw:=if({ h with iG:=h.endsAt b }:HM).bu b=true then h.bw+1 else 0 }:HM).dh b t (h.row.wrote h.st.aY h.st.cells)with st:=gb h.row h.st,ends:=(({ h with iG:=h.endsAt b,bw:=if({ h with iG:=h.endsAt b }:HM).bu b=true then h.bw+1 else 0 }:HM).dh b t (h.row.wrote h.st.aY h.st.cells)).ends+1,iG:=(({ h with iG:=h.endsAt b,bw:=if({ h with iG:=h.endsAt b }:HM).bu b=true then h.bw+1 else 0 }:HM).dh b t (h.row.wrote h.st.aY h.st.cells)).iG+1,aK:=b,events:=(({ h with iG:=h.endsAt b,bw:=if({ h with iG:=h.endsAt b }:HM).bu b=true then h.bw+1 else 0 }:HM).dh b t (h.row.wrote h.st.aY h.st.cells)).events+1 }:=rfl;rw[eu];rw[e2]at l2 ⊢;have k1:=l2.tk;have k2:=l2.ow;have k3:=l2.la;exact⟨⟨ok.jA,xC ok.st z1 ro,ok.rl,ok.rb,aam k1 hn,aam k2 hn,aam k3 hn⟩,⟨k1,k2,k3⟩,rfl,rfl⟩
 | kS b m v =>
  have k:=l.ow;have k2:(h.bW.filter fun o=>decide (o.1≠m)).length<=n:=aam (List.length_filter_le ..) k;exact⟨⟨ok.jA,ok.st,ok.rl,ok.rb,ok.tk,aam k2 (aaL hn),ok.la⟩,⟨aaz l.tk,aaz k2,aaz l.la⟩,rfl,rfl⟩
 | down b m c v =>
  have k:=l.la;have k2:(h.laid.drop 1).length<=n:=by rw[abw];omega
  exact⟨⟨ok.jA,ok.st,ok.rl,ok.rb,ok.tk,ok.ow,aam k2 (aaL hn)⟩,⟨aaz l.tk,aaz l.ow,aaz k2⟩,rfl,rfl⟩
 | kT b k =>
  obtain⟨z1,z2,z3⟩:=xK ok hb;have k2:(h.taken++[k]).length<=n+1:=by have:=l.tk;simp only[aaB,aaG,abP];omega
  exact⟨⟨ok.jA,E5 ok.st ok.jA.XH z1 z2,ok.rl,ok.rb,aam k2 hn,ok.ow,ok.la⟩,⟨k2,aaz l.ow,aaz l.la⟩,rfl,rfl⟩
section
variable {K:zn}{W':Wd}{a:B6}{f:Str}{v:DV}{Pr:Wd->Prop}{L:Ws}
theorem rk(i:Nat)(hA:At W ((a.p,.ob kH a.d ((rh a h).take i))::L))(c:eU K kH bx)(q:∀ W1,At W1 ((a.p,.ob kH a.d ((rh a h).take (i+1)))::L)->Pr W1)(n:f∈bx:=by decide +kernel)(e:putD f v ((rh a h).take i)=(rh a h).take (i+1):=by with_unfolding_all rfl):∃ p' k d fs,DV.pt a.p=.pt p'/\W p'=some (.ob k d fs)/\kL K k/\bO K k f/\fs.length < 1000/\Pr (aG W p' (.ob k d (putD f v fs))) :=
 qa hA c 0 rfl n (by rw[abf];exact acP (ac3 ..) (by show 18 < 1000;decide)) fun W1 h1 f1=>q W1 (by rw[e]at h1;exact h1)
theorem Sr{q:Addr}{x:Cell}(a':B6)(i:Nat)(hA:At W ((a.p,.ob kH a.d ((rh a h).take i))::L))(hq:W q=none)(fq:Fr q W W')(wq:W' q=some x)(e1:(a'.p,Cell.ob kH a'.d ((rh a' h).take i))=(a.p,.ob kH a.d ((rh a h).take i)):=by rfl):At W' ((a'.p,.ob kH a'.d ((rh a' h).take i))::(q,x)::L):=by
 rw[e1];exact(hA.cons hq fq wq).perm (List.Perm.swap ..)
end
abbrev vN:Stmt:=(met 33 0)
abbrev jE:Stmt:=top 34
theorem Fq:ay ["self", "mill", "state", "rings", "terms"] ["self", "mill", "state", "rings", "terms"] (defScope vN):=by ac_rfl
theorem j8:ay ["mill", "state", "rings", "terms", "diary", "holder", "event"] ["mill", "state", "rings", "terms", "diary"] (defScope jE):=by ac_rfl
section
variable {K:zn}
theorem Cy(F:cA K "__init__" "Holder.__init__" vN f fd)(cN:eU K kH bx)(eV:mg "list"=none):aW P w K mg base cI 1 f fd ["self", "mill", "state", "rings", "terms"] (dq K (vM kH)):=by
 exact_mod_cast F.rg Fq (fun aI W R X ⟨a,b,c,d,g,i,j,e,_⟩=>by rw[e];rfl);refine⟨_,(ae (cj (ah 0) (ah 1))
  (ae (cj (ah 0) (ah 2))
  (ae (cj (ah 0) (cO gG eV abX (aa (ah 3) ag)))
  (ae (cj (ah 0) (ah 4))
  (ae (cj (ah 0) (aj (ah 4) af))
  (ae (cj (ah 0) (aj (ah 4) af))
  (ae (cj (ah 0) (aj (ah 4) af))
  (ae (cj (ah 0) (aj (ah 4) af))
  (ae (cj (ah 0) (aj (ah 4) af))
  (ae (cj (ah 0) af)
  (ae (cj (ah 0) af)
  (ae (cj (ah 0) af)
  (ae (cj (ah 0) af)
  (ae (cj (ah 0) af)
  (ae (cj (ah 0) (bM ag))
  (ae (cj (ah 0) (bM ag))
  (ae (cj (ah 0) (bM ag))
  (ai (cj (ah 0) dJ))))))))))))))))))),?_⟩
 norm_cast;rintro aI R ⟨p,d,rs,bs,st,ps,t,rfl,hA,Bs,qq⟩;unfold nr;replace hA:At W [((⟨p,d,p,p,p⟩:B6).p,.ob kH (⟨p,d,p,p,p⟩:B6).d ((rh ⟨p,d,p,p,p⟩ (zz rs bs st ps t)).take 0))]:=hA
 sizeOf_list_dec
 refine rk 0 hA cN fun W0 hB=>?_;clear hA;have hA:=hB;clear hB
 sizeOf_list_dec
 refine rk 1 hA cN fun W1 hB=>?_;clear hA;have hA:=hB;clear hB
 sizeOf_list_dec
 refine xn (iz ?_)
 sizeOf_list_dec
 refine rk 2 hA cN fun W2 hB=>?_;clear hA;have hA:=hB;clear hB
 sizeOf_list_dec
 refine rk 3 hA cN fun W3 hB=>?_;clear hA;have hA:=hB;clear hB
 sizeOf_list_dec
 refine rk 4 hA cN fun W4 hB=>?_;clear hA;have hA:=hB;clear hB
 sizeOf_list_dec
 refine rk 5 hA cN fun W5 hB=>?_;clear hA;have hA:=hB;clear hB
 sizeOf_list_dec
 refine rk 6 hA cN fun W6 hB=>?_;clear hA;have hA:=hB;clear hB
 sizeOf_list_dec
 refine rk 7 hA cN fun W7 hB=>?_;clear hA;have hA:=hB;clear hB
 sizeOf_list_dec
 refine rk 8 hA cN fun W8 hB=>?_;clear hA;have hA:=hB;clear hB
 sizeOf_list_dec
 refine rk 9 hA cN fun W9 hB=>?_;clear hA;have hA:=hB;clear hB
 sizeOf_list_dec
 refine rk 10 hA cN fun Ss hB=>?_;clear hA;have hA:=hB;clear hB
 sizeOf_list_dec
 refine rk 11 hA cN fun XW hB=>?_;clear hA;have hA:=hB;clear hB
 sizeOf_list_dec
 refine rk 12 hA cN fun Su hB=>?_;clear hA;have hA:=hB;clear hB
 sizeOf_list_dec
 refine rk 13 hA cN fun XX hB=>?_;clear hA;have hA:=hB;clear hB
 sizeOf_list_dec
 refine jX (aaJ _) fun OD V14 hq wq fq=>?_;replace hA:=Sr ⟨p,d,OD,p,p⟩ 14 hA hq fq wq;clear hq fq wq
 sizeOf_list_dec
 refine rk 14 hA cN fun XY hB=>?_;clear hA;have hA:=hB;clear hB
 sizeOf_list_dec
 refine jX (aaJ _) fun PL V15 hq wq fq=>?_;replace hA:=Sr ⟨p,d,OD,PL,p⟩ 15 hA hq fq wq;clear hq fq wq
 sizeOf_list_dec
 refine rk 15 hA cN fun Lf hB=>?_;clear hA;have hA:=hB;clear hB
 sizeOf_list_dec
 refine jX (aaJ _) fun Sv V16 hq wq fq=>?_;replace hA:=Sr ⟨p,d,OD,PL,Sv⟩ 16 hA hq fq wq;clear hq fq wq
 sizeOf_list_dec
 refine rk 16 hA cN fun Lg hB=>?_;clear hA;have hA:=hB;clear hB
 sizeOf_list_dec
 refine rk 17 hA cN fun OE hB=>?_;clear hA;have hA:=hB;clear hB;refine qq ⟨p,d,OD,PL,Sv⟩ _ rfl ?_;refine hA.perm ?_;exact .cons _ (List.reverse_perm [(OD,Cell.lst []),(PL,Cell.lst []),(Sv,Cell.lst [])])
theorem vO(F:cA K "parting" "parting" jE f fd)(cN:eU K kH bx)(Fs:RM P w K mg base 1 kH "Holder" f1 d1 ["self", "mill", "state", "rings", "terms"] (dq K (vM kH)))(OF:iB P w K mg base 8 kH "tell" f2 d2 ["self", "event"] (dq K (Ct kH)))(Ft:iB P w K mg base 1 kH "parted" f3 d3 ["self"] (dq K (qr kH))):aW P w K mg base cI 9 f fd ["mill", "state", "rings", "terms", "diary"] (dm nu):=by
 exact_mod_cast F.pS j8 (by nofun);refine⟨_,(ae (aC 5 j8.nd (J1 Fs hr (aa (ah 0) (aa (ah 1) (aa (ah 2) (aa (ah 3) ag))))))
  (ae (oj (g9 (ah 4)) (a9 6 j8.nd) (ai (aU (lZ (cX OF hr (ah 5) (aa (ah 6) ag))) (ai (ax (xr Ft hr (ah 5)))) az)))
  (ai (ax dJ)))),?_⟩
 push_cast;rintro ds R ⟨rs,bs,st,ps,t,es,rfl,ok,hE,hl,q⟩;refine cG [_,_,_,_,_,none,none] rfl ?_
 sizeOf_list_dec
 intro p d hp hd oh;have Vj:At (aG W0 p (.ob kH d [])) [(p,.ob kH d [])]:=⟨by simp,fun x hx=>by rw[aaN]at hx;subst hx;exact ar⟩;refine bE Vj rfl fun W1 R' h1 g=>⟨p,d,rs,bs,st,ps,t,rfl,h1,aam ok.rl (by decide),fun a W' XZ h'=>g _ _ fun W2 t fr=>?_⟩;have hA:=t _ h' aH;clear fr t h' h1 g Vj;refine⟨rfl,?_⟩;subst XZ
 sizeOf_list_dec
 refine ao ?_
 sizeOf_list_dec
 refine EJ (fun i ρ W=>∃ h a' u,a'.p=a.p/\At W (cZ kH a' h)/\dZ h/\zf h i/\h.cause=none/\fg (zz rs bs st ps t) es=fg h (es.drop i)/\ρ=[some (.im (c7 rs bs)),some (.im (dQ st)),some (.im (.list (ps.map pairD))),some (.im (nr t)),some (.im (.list (es.map eC))),some (.pt a.p),u]) ⟨_,a,_,rfl,hA,ok,⟨aae _,aae _,aae _⟩,rfl,rfl,rfl⟩ ?_ ?_
 ·clear hA;rintro i d ρ W hd ⟨h,a',u,o1,hA,ok,ln,hc,ep,rfl⟩;rw[aag]at hd;obtain⟨e,he,rfl⟩:=aaH.mp hd;have Dg:=(aal.mp he).1;have ed:es.drop i=e::es.drop (i+1):=by rw[acS Dg,(aal.mp he).2]
  have X0:=hE e (abe he);rw[ed,show fg h (e::es.drop (i+1))=(match (h.tell e).cause with | some x=>some ((h.tell e).events,x) | none=>fg (h.tell e) (es.drop (i+1))) from rfl]at ep;rw[<- o1]at *
  sizeOf_list_dec
  refine bE hA aH fun W1 R' h1 g=>⟨a',h,e,rfl,h1,ok,X0,hc,fun a2 W' o h'=>g _ _ fun W2 t fr=>?_⟩;have jC:=t _ h' aH;clear fr t h' h1 g hA;obtain⟨o2,_⟩:=o;rw[<- o2]at *
  sizeOf_list_dec
  cases ec:(h.tell e).cause with
  | some x =>
   rw[ec]at ep;rw[ep]at q
   sizeOf_list_dec
   refine bE jC aH fun W1 R' h1 g=>⟨a2,_,rfl,h1,fun W' h'=>g _ _ fun W2 t fr=>?_⟩;rw[ec];exact q
  | none =>
   rw[ec]at ep
   sizeOf_list_dec
   have eb:h.bA e=none:=by
    cases eb:h.bA e with
    | none=>rfl
    | some x=>unfold HM.tell at ec;rw[eb]at ec;cases ec
   have et:h.tell e=h.bU e:=by unfold HM.tell;rw[eb]
   obtain⟨k1,k2,k3,_⟩:=OC ok eb ln (by omega);rw[et]at jC ep;exact⟨_,a2,_,rfl,jC,k1,k2,k3.trans hc,ep,rfl⟩
 ·clear hA;rintro ρ W ⟨h,a',u,o1,hA,ok,ln,hc,ep,rfl⟩;rw[aab,List.drop_length]at ep;rw[ep]at q
  sizeOf_list_dec
  exact q
end
abbrev Ky:Stmt:=top 40
abbrev vP:Stmt:=top 48
abbrev Cz:Stmt:=top 43
abbrev CA:Stmt:=top 44
abbrev qL:Stmt:=top 45
abbrev CB:Stmt:=top 49
theorem oR:ay ["bag", "place", "many", "kind", "d", "a", "b", "n"] ["bag", "place", "many"] (defScope Ky):=by ac_rfl
theorem qM:ay ["bag", "first", "spots", "cells"] ["bag", "first"] (defScope vP):=by ac_rfl
theorem j9:ay ["bag", "wrote", "kind", "word", "number", "worth", "size"] ["bag", "wrote"] (defScope Cz):=by ac_rfl
theorem vQ:ay ["bag", "wrote", "kind", "worth"] ["bag", "wrote"] (defScope CA):=by ac_rfl
theorem gB:ay ["bag", "spoil", "event", "ahead", "name", "beat", "place", "wrote", "off"] ["bag", "spoil", "event", "ahead"] (defScope qL):=by ac_rfl
theorem vR:ay ["bag", "beat", "many", "first", "late", "place"] ["bag", "beat", "many", "first"] (defScope CB):=by ac_rfl
def vS(km:Int)(r:Rw):Prop:=(km=3->mQ r=false/\r.d?.isSome=true)/\(km=6->∀ sp ce,r.wrote sp ce≠none)
def Fu(place:Int)(r:Rw):Prop:=∀ a p,r=.go a p->p=place+1
def OG:si:=fun n ds R=>∃ place km m:Int,ds=[.int place,.int km]/\0<=place/\place < m/\1<=km/\km<=10/\n<=998000000/\∀(r:Rw) (n':Nat),eO m r->Fu place r->vS km r->n'<=n+8->R (.im (cC r)) n'
def CC:si:=fun n ds R=>∃ fi:Int,ds=[.int fi]/\n<=998000000/\∀(sp ce:wn) (sb:Bool) (n':Nat),sp.length=8->ce.length=16->(∀ z∈sp,Wr z)->(∀ z∈ce,Wr z)->n'<=n+100->R (.im (dQ ⟨fi,sp,ce,sb,none⟩)) n'
def Hd:si:=fun n ds R=>∃ w:jK,ds=[dD w]/\kB w/\n<=998000000/\∀(w':jK) (n':Nat),jD w'.told.kD->w'.told.kD≠w.told.kD->n'<=n+7->R (.im (dD w')) n'
def He:si:=fun n ds R=>∃(k:Str) (x v:Int),ds=[dD (some (k,x,v))]/\Wr v/\n<=998000000/\∀(v':Int) (n':Nat),v'≠v->n'<=n+2->R (.im (dD (some (k,x,v')))) n'
def nv(aO:Str)(b pl ahead:Int)(w:jK)(e:Ev):Prop :=
 (aO = "beat"/\∃ b',b' < ahead/\e=.fin b' pl w.told)\/(aO = "place"/\∃ La,La≠pl/\e=.fin b La w.told)\/(aO = "crowd"/\e=.fin ahead pl w.told)\/(aO = "thing"/\∃ w':jK,jD w'.told.kD/\w'.told.kD≠w.told.kD/\e=.fin b pl w'.told)\/(aO = "owed"/\∃ k x v,w=some (k,x,v)/\e=.fin b pl (some ("spot",x,none)))\/(aO = "worth"/\∃ k x v v',w=some (k,x,v)/\v'≠v/\e=.fin b pl (some (k,x,some v')))
def xM:si:=fun n ds R=>∃(aO:Str) (b pl ahead:Int) (w:jK),ds=[.str aO,eC (.fin b pl w.told),.int ahead]/\kB w/\(aO = "beat"\/aO = "place"\/aO = "crowd"\/aO = "thing"\/aO = "owed"\/aO = "worth")/\(aO = "owed"\/aO = "worth"->w≠none)/\n<=998000000/\∀(e:Ev) (n':Nat),nv aO b pl ahead w e->n'<=n+12->R (.im (eC e)) n'
def Hf:si:=fun n ds R=>∃ b many fi:Int,ds=[.int b,.int many,.int fi]/\n<=998000000/\∀(b' pl:Int) (w:jK) (n':Nat),b<=b'->jD w.told.kD->n'<=n+12->R (.im (eC (.fin b' pl w.told))) n'
section
variable {K:zn}
theorem Kz(F:cA K "_law_row" "_law_row" Ky f fd)(aq:Dn P w K mg base 1 "_law_draw" f1 d1 ["bag", "many"] (spT (cJ Bg) iA))(dA:Dn P w K mg base 2 "_law_worth" f2 d2 ["bag"] (spT (cJ Bg) qe)):aW P w K mg base cI 3 f fd ["bag", "place", "many"] (spT (cJ Bg) OG):=by
 exact_mod_cast F.GX oR ei rfl (by nofun);refine⟨_,(ae (aC 3 oR.nd (au aq hr (aa (ah 0) (aa (ah 2) ag))))
  (ae (aC 4 oR.nd (au aq hr (aa (ah 0) (aa af ag))))
  (ae (aC 5 oR.nd (au aq hr (aa (ah 0) (aa af ag))))
  (ae (aC 6 oR.nd (au aq hr (aa (ah 0) (aa af ag))))
  (ae (aC 7 oR.nd (au aq hr (aa (ah 0) (aa af ag))))
  (ae (aU (aF (aB hu) (ah 3) af) (ai (ax (bg (aa aE (aa (ah 4) (aa (au dA hr (aa (ah 0) ag)) ag)))))) az)
  (ae (aU (aF jf (ah 3) af) (ai (ax (bg (aa (aj (bM (cM rfl)) (aQ cu (ah 3) af)) (aa (ah 4) (aa (ah 5) (aa (ah 6) ag))))))) az)
  (ae (aU (aF jf (ah 3) af) (ai (ax (aj (bM (aa (bg (aa aE (aa (ah 4) (aa (ah 5) (aa (ah 7) ag))))) (aa (bg (aa aE (aa (ah 6) (aa (ah 5) (aa (ah 7) ag))))) ag))) (aQ cu (ah 3) af)))) az)
  (ae (aU (aF (aB hu) (ah 3) af) (ai (ax (bg (aa aE (aa (ah 5) (aa (aQ a8 (ah 1) af) ag)))))) az)
  (ai (ax (bg (aa (aj (bM (cM rfl)) (aQ cu (ah 3) af)) ag))))))))))))),?_⟩
 clear hu;symm;refine fun t g O=>⟨_,inferInstance,?_⟩;rintro n ds R ⟨place,km,m,rfl,p0,pm,k1,Sw,hn,q⟩;refine cG [_,_,_,none,none,none,none,none] rfl ?_;have wt:WT t g n t=some (.aM g n):=ar;generalize WT t g n=W at wt
 sizeOf_list_dec
 refine aX wt (by omega) (by omega) (by omega) fun kd W1 Vk Vl wt _=>?_
 sizeOf_list_dec
 refine aX wt (by omega) (by omega) (by omega) fun d W1 a0 a1 wt _=>?_
 sizeOf_list_dec
 refine aX wt (by omega) (by omega) (by omega) fun a W1 b0 b1 wt _=>?_
 sizeOf_list_dec
 refine aX wt (by omega) (by omega) (by omega) fun b W1 c0 c1 wt _=>?_
 sizeOf_list_dec
 refine aX wt (by omega) (by omega) (by omega) fun nn W1 e0 e1 wt _=>?_
 sizeOf_list_dec
 refine ao ?_
 sizeOf_list_dec
 refine gR (fun z=>?_) (fun z=>?_)
 ·sizeOf_list_dec
  refine cv (ds:=[]) wt ⟨rfl,by omega,fun v n' hv C1=>bV ?_⟩;have oS:aG W1 t (.aM g n') t=some (.aM g n'):=ar
  sizeOf_list_dec
  refine aw (ds:=[.str "put",.int d,.int v]) (by show 3<=sizeLine;decide) ?_;exact⟨_,oS,q (.put d v) _ ⟨⟨a0,a1⟩,hv⟩ (fun _ _ z=>by cases z) ⟨fun _=>⟨rfl,rfl⟩,fun _ _ _ z=>by cases z⟩ (by omega)⟩
 sizeOf_list_dec
 refine ao ?_
 sizeOf_list_dec
 refine gR (fun z2=>?_) (fun z2=>?_)
 ·sizeOf_list_dec
  refine cg (ds:=[.str "sum",.str "less",.str "mul"]) (by show 3<=sizeLine;decide) ?_
  sizeOf_list_dec
  obtain⟨x,hx,ok,hk⟩:∃ x:Str,gX [PyData.str "sum",.str "less",.str "mul"] (kd - 1)=some (.str x)/\(x = "sum"\/x = "mul"\/x = "less")/\(km=3->x ≠ "mul"):=by
   obtain rfl | rfl | rfl:kd=1\/kd=2\/kd=3:=by omega
   ·exact⟨_,rfl,by simp,fun _=>by decide⟩
   ·exact⟨_,rfl,by simp,fun _=>by decide⟩
   ·exact⟨_,rfl,by simp,fun z=>by omega⟩
  refine cV hx ?_
  sizeOf_list_dec
  refine aw (ds:=[.str x,.int d,.int a,.int b]) (by show 4<=sizeLine;decide) ?_;exact⟨_,wt,q (.op x d a b) _ ⟨ok,⟨a0,a1⟩,⟨b0,b1⟩,⟨c0,c1⟩⟩ (fun _ _ z=>by cases z) ⟨fun z=>⟨aaq (hk z),rfl⟩,fun _ _ _ z=>by cases z⟩ (by omega)⟩
 sizeOf_list_dec
 refine ao ?_
 sizeOf_list_dec
 refine gR (fun z3=>?_) (fun z3=>?_)
 ·sizeOf_list_dec
  refine aw (ds:=[.str "take",.int d,.int a,.int nn]) (by show 4<=sizeLine;decide) ?_
  sizeOf_list_dec
  refine aw (ds:=[.str "lay",.int b,.int a,.int nn]) (by show 4<=sizeLine;decide) ?_
  sizeOf_list_dec
  refine cg (ds:=[cC (.mv "take" d a nn),cC (.mv "lay" b a nn)]) (by show 2<=sizeLine;decide) ?_
  sizeOf_list_dec
  have n9:¬ ("lay":Str) = "take":=by decide
  obtain rfl | rfl:kd=4\/kd=5:=by omega
  ·refine cV (D:=cC (.mv "take" d a nn)) rfl ?_;exact⟨_,wt,q (.mv "take" d a nn) _ ⟨.inl rfl,⟨a0,a1⟩,⟨b0,b1⟩,e0,e1⟩ (fun _ _ z=>by cases z) ⟨fun z=>by omega,fun _ sp ce z=>by unfold Rw.wrote at z;dsimp only at z;split at z<;>cases z⟩ (by omega)⟩
  ·refine cV (D:=cC (.mv "lay" b a nn)) rfl ?_;exact⟨_,wt,q (.mv "lay" b a nn) _ ⟨.inr rfl,⟨c0,c1⟩,⟨b0,b1⟩,e0,e1⟩ (fun _ _ z=>by cases z) ⟨fun z=>by omega,fun _ sp ce z=>by unfold Rw.wrote at z;dsimp only at z;split at z<;>cases z⟩ (by omega)⟩
 sizeOf_list_dec
 refine ao ?_
 sizeOf_list_dec
 refine gR (fun z4=>?_) (fun z4=>?_)
 ·sizeOf_list_dec
  refine aw (ds:=[.str "go",.int a,.int (place+1)]) (by show 3<=sizeLine;decide) ?_;exact⟨_,wt,q (.go a (place+1)) _ ⟨⟨b0,b1⟩,by omega,by omega⟩ (fun _ _ z=>by cases z;rfl) ⟨fun z=>by omega,fun z=>by omega⟩ (by omega)⟩
 sizeOf_list_dec
 refine cg (ds:=[.str "shut",.str "open",.str "home"]) (by show 3<=sizeLine;decide) ?_
 sizeOf_list_dec
 obtain⟨x,hx,ok⟩:∃ x:Str,gX [PyData.str "shut",.str "open",.str "home"] (kd - 7)=some (.str x)/\(x = "shut"\/x = "open"\/x = "home"):=by
  obtain rfl | rfl | rfl:kd=7\/kd=8\/kd=9:=by omega
  all_goals exact⟨_,rfl,by simp⟩
 refine cV hx ?_
 sizeOf_list_dec
 refine aw (ds:=[.str x]) (by show 1<=sizeLine;decide) ?_;exact⟨_,wt,q (.one x) _ ok (fun _ _ z=>by cases z) ⟨fun z=>by omega,fun z=>by omega⟩ (by omega)⟩
theorem CD(F:cA K "_law_state" "_law_state" vP f fd)(aq:Dn P w K mg base 1 "_law_draw" f1 d1 ["bag", "many"] (spT (cJ Bg) iA))(dA:Dn P w K mg base 2 "_law_worth" f2 d2 ["bag"] (spT (cJ Bg) qe))(cH:mg "range"=none)(eB:mg "tuple"=none):aW P w K mg base cI 3 f fd ["bag", "first"] (spT (cJ Bg) CC):=by
 exact_mod_cast F.GX qM ei rfl (by nofun);refine⟨_,(ae (aC 2 qM.nd (cO jT eB abS (aa (i4 (N':=["k", "bag"]) (ix:=[none,some 0]) ⟨rfl,rfl,rfl,rfl,rfl,rfl⟩ (gu cH (aa af ag)) (fun _ _ _ _=>(a9 0 (show List.Nodup (["k", "bag"]:ww) by decide +kernel))) (fun _ _ _ _=>jS) (fun _ _ _ _=>(au dA hr (aa (ah 1) ag)))) ag)))
  (ae (aC 3 qM.nd (cO jT eB abS (aa (i4 (N':=["k", "bag"]) (ix:=[none,some 0]) ⟨rfl,rfl,rfl,rfl,rfl,rfl⟩ (gu cH (aa af ag)) (fun _ _ _ _=>(a9 0 (show List.Nodup (["k", "bag"]:ww) by decide +kernel))) (fun _ _ _ _=>jS) (fun _ _ _ _=>(au dA hr (aa (ah 1) ag)))) ag)))
  (ai (ax (bg (aa (ah 1) (aa (ah 2) (aa (ah 3) (aa (gw (aB hu) (au aq hr (aa (ah 0) (aa af ag))) af) (aa dJ ag)))))))))),?_⟩
 clear hu;symm;refine fun t g O=>⟨_,inferInstance,?_⟩;rintro n ds R ⟨fi,rfl,hn,q⟩;refine cG [_,_,none,none] rfl ?_;have wt:WT t g n t=some (.aM g n):=ar;generalize WT t g n=W at wt
 sizeOf_list_dec
 refine lr (fun i ys W=>∃(sp:wn) (k:Nat),ys=(sp.map PyData.int).map .im/\sp.length=i/\(∀ z∈sp,Wr z)/\W t=some (.aM g k)/\k<=n+3 * i) (aaL (bR (by omega))) ⟨[],_,rfl,rfl,(fun b hb=>by cases hb),wt,by omega⟩ ?_ ?_
 ·rintro i ys W hi _ ⟨sp,k,rfl,hl,hb,wt,hk⟩
  sizeOf_list_dec
  refine cv (ds:=[]) wt ⟨rfl,by omega,fun wr n' Sx C1=>bV ?_⟩;refine⟨sp++[wr],_,by simp,by simp[hl],fun b m'=>?_,ar,by omega⟩;rcases aaZ.mp m' with c | c
  ·exact hb b c
  ·rw[aaN.mp c];exact Sx
 clear wt;rintro ys W1 ⟨sp,k1,rfl,zv,C6,wt,hk1⟩;refine iz ?_
 sizeOf_list_dec
 refine⟨_,rfl,.inl ⟨_,sp.map .int,_,rfl,fU (fun _ _=>rfl) _,?_⟩⟩
 sizeOf_list_dec
 refine lr (fun i ys W=>∃(sp:wn) (k:Nat),ys=(sp.map PyData.int).map .im/\sp.length=i/\(∀ z∈sp,Wr z)/\W t=some (.aM g k)/\k<=n+24+3 * i) (aaL (bR (by omega))) ⟨[],_,rfl,rfl,(fun b hb=>by cases hb),wt,by omega⟩ ?_ ?_
 ·rintro i ys W hi _ ⟨sp,k,rfl,hl,hb,wt,hk⟩
  sizeOf_list_dec
  refine cv (ds:=[]) wt ⟨rfl,by omega,fun wr n' Sx C1=>bV ?_⟩;refine⟨sp++[wr],_,by simp,by simp[hl],fun b m'=>?_,ar,by omega⟩;rcases aaZ.mp m' with c | c
  ·exact hb b c
  ·rw[aaN.mp c];exact Sx
 clear wt;rintro ys W2 ⟨ce,k2,rfl,Ua,Sy,wt,Oe⟩;refine iz ?_
 sizeOf_list_dec
 refine⟨_,rfl,.inl ⟨_,ce.map .int,_,rfl,fU (fun _ _=>rfl) _,?_⟩⟩
 sizeOf_list_dec
 refine aX wt (by omega) (by omega) (by omega) fun z W3 _ _ wt _=>?_
 sizeOf_list_dec
 refine aw (ds:=[.int fi,.tuple (sp.map .int),.tuple (ce.map .int),.bool (decide (z=1)),.none]) (by show 5<=sizeLine;decide) ?_;exact⟨_,wt,q sp ce _ _ (by omega) (by omega) C6 Sy (by omega)⟩
theorem Fv(F:cA K "_law_other_thing" "_law_other_thing" Cz f fd)(aq:Dn P w K mg base 1 "_law_draw" f1 d1 ["bag", "many"] (spT (cJ Bg) iA))(dA:Dn P w K mg base 2 "_law_worth" f2 d2 ["bag"] (spT (cJ Bg) qe))(gz:mg "int"=none):aW P w K mg base cI 3 f fd ["bag", "wrote"] (spT (cJ Bg) Hd):=by
 exact_mod_cast F.GX j9 ei rfl (by nofun);refine⟨_,(ae (aC 2 j9.nd (au aq hr (aa (ah 0) (aa af ag))))
  (ae (aU (iW (ah 1)) (ai (ax (aj (bM (aa (bg (aa aE (aa (au aq hr (aa (ah 0) (aa af ag))) (aa (au dA hr (aa (ah 0) ag)) ag)))) (aa (bg (aa aE (aa (au aq hr (aa (ah 0) (aa af ag))) (aa af ag)))) ag))) (aQ cW (ah 2) af)))) az)
  (ae (jo (ah 1) (gK (n:=3) (bh (a9 3 j9.nd) (bh (a9 4 j9.nd) (bh (a9 5 j9.nd) gD)))))
  (ae (aU (aF (aB hu) (ah 2) af) (ai (ax dJ)) az)
  (ae (aU (aF (aB hu) (ah 2) af) (ae (aC 6 j9.nd (aj (bM (cM rfl)) (cO iN gz abF (aa (gw (aB hu) (ah 3) aE) ag))))
   (ai (ax (bg (aa (ah 3) (aa (aQ cW (aQ a8 (aQ a8 (ah 4) af) (au aq hr (aa (ah 0) (aa (aQ cu (ah 6) af) ag)))) (ah 6)) (aa (ah 5) ag))))))) az)
  (ai (ax (bg (aa (aj (bM (cM rfl)) (cO iN gz abF (aa (gw (aB hu) (ah 3) aE) ag))) (aa (ah 4) (aa (ah 5) ag))))))))))),?_⟩
 clear hu;symm;refine fun t g O=>⟨_,inferInstance,?_⟩;rintro n ds R ⟨w,rfl,hw,hn,q⟩;refine cG [_,_,none,none,none,none,none] rfl ?_;have wt:WT t g n t=some (.aM g n):=ar;generalize WT t g n=W at wt;have tS:∀ x v,jD (mO.kD (jK.told (some ("spot",x,v)))):=fun x v k y e=>by cases e;exact .inl rfl
 have tC:∀ x v,jD (mO.kD (jK.told (some ("cell",x,v)))):=fun x v k y e=>by cases e;exact .inr rfl
 sizeOf_list_dec
 refine aX wt (by omega) (by omega) (by omega) fun kd W1 Vk Vl wt _=>?_
 sizeOf_list_dec
 refine ao ?_;rcases w with _ | ⟨k,x,v⟩
 ·sizeOf_list_dec
  refine aX wt (by omega) (by omega) (by omega) fun a W1 a0 a1 wt _=>?_
  sizeOf_list_dec
  refine cv (ds:=[]) wt ⟨rfl,by omega,fun v n' hv C1=>bV ?_⟩;have oS:aG W1 t (.aM g n') t=some (.aM g n'):=ar;generalize aG W1 t (.aM g n')=W2 at oS ⊢
  sizeOf_list_dec
  refine aw (ds:=[.str "spot",.int a,.int v]) (by show 3<=sizeLine;decide) ?_
  sizeOf_list_dec
  refine aX oS (by omega) (by omega) (by omega) fun b W3 b0 b1 wt _=>?_
  sizeOf_list_dec
  refine aw (ds:=[.str "cell",.int b,.int 0]) (by show 3<=sizeLine;decide) ?_
  sizeOf_list_dec
  refine cg (ds:=[dD (some ("spot",a,v)),dD (some ("cell",b,0))]) (by show 2<=sizeLine;decide) ?_
  sizeOf_list_dec
  obtain e | e:kd % 2=0\/kd % 2=1:=by omega
  ·rw[e];refine cV (D:=dD (some ("spot",a,v))) rfl ?_;exact⟨_,wt,q (some ("spot",a,v)) _ (tS _ _) (fun z=>by cases z) (by omega)⟩
  ·rw[e];refine cV (D:=dD (some ("cell",b,0))) rfl ?_;exact⟨_,wt,q (some ("cell",b,0)) _ (tC _ _) (fun z=>by cases z) (by omega)⟩
 ·have n1:¬ ("spot":Str) = "cell":=by decide
  have n2:¬ ("cell":Str) = "spot":=by decide
  dsimp only[dD]
  sizeOf_list_dec
  refine ao ?_
  sizeOf_list_dec
  refine gR (fun z=>?_) (fun z=>?_)
  ·sizeOf_list_dec
   exact⟨_,wt,q none _ (fun _ _ e=>by cases e) (fun e=>by cases e) (by omega)⟩
  sizeOf_list_dec
  refine ao ?_
  sizeOf_list_dec
  refine gR (fun z2=>?_) (fun z2=>?_)
  ·sizeOf_list_dec
   refine cg (ds:=[8,16].map PyData.int) (by show 2<=sizeLine;decide) ?_
   sizeOf_list_dec
   have go:∀ sz:Int,0<=x->x < sz->(sz=8\/sz=16)->jD (mO.kD (jK.told (some (k,(x+1),v))))->True:=fun _ _ _ _ _=>trivial;rcases hw.1 with⟨rfl,x0,x1⟩ | ⟨rfl,x0,x1⟩
   ·rw[aao (by simpa using n1)];refine cV (D:=.int 8) rfl ?_
    sizeOf_list_dec
    refine aX wt (by omega) (by omega) (by omega) fun a W3 a0 a1 wt _=>?_
    sizeOf_list_dec
    refine aw (ds:=[.str "spot",.int ((x+1+a) % 8),.int v]) (by show 3<=sizeLine;decide) ?_;exact⟨_,wt,q (some ("spot",(x+1+a) % 8,v)) _ (tS _ _) (fun e=>by simp at e;omega) (by omega)⟩
   ·rw[aau (by simp)];refine cV (D:=.int 16) rfl ?_
    sizeOf_list_dec
    refine aX wt (by omega) (by omega) (by omega) fun a W3 a0 a1 wt _=>?_
    sizeOf_list_dec
    refine aw (ds:=[.str "cell",.int ((x+1+a) % 16),.int v]) (by show 3<=sizeLine;decide) ?_;exact⟨_,wt,q (some ("cell",(x+1+a) % 16,v)) _ (tC _ _) (fun e=>by simp at e;omega) (by omega)⟩
  ·sizeOf_list_dec
   refine cg (ds:=[.str "spot",.str "cell"]) (by show 2<=sizeLine;decide) ?_
   sizeOf_list_dec
   rcases hw.1 with⟨rfl,x0,x1⟩ | ⟨rfl,x0,x1⟩
   ·rw[aau (by simp)];refine cV (D:=.str "cell") rfl ?_
    sizeOf_list_dec
    refine aw (ds:=[.str "cell",.int x,.int v]) (by show 3<=sizeLine;decide) ?_;exact⟨_,wt,q (some ("cell",x,v)) _ (tC _ _) (fun e=>by simp[n2]at e) (by omega)⟩
   ·rw[aao (by simpa using n2)];refine cV (D:=.str "spot") rfl ?_
    sizeOf_list_dec
    refine aw (ds:=[.str "spot",.int x,.int v]) (by show 3<=sizeLine;decide) ?_;exact⟨_,wt,q (some ("spot",x,v)) _ (tS _ _) (fun e=>by simp[n1]at e) (by omega)⟩
theorem Fw(F:cA K "_law_other_worth" "_law_other_worth" CA f fd)(aq:Dn P w K mg base 1 "_law_draw" f1 d1 ["bag", "many"] (spT (cJ Bg) iA)):aW P w K mg base cI 2 f fd ["bag", "wrote"] (spT (cJ Bg) He):=by
 exact_mod_cast F.GX vQ ei rfl (by nofun);refine⟨_,(ae (aC 2 vQ.nd (au aq hr (aa (ah 0) (aa af ag))))
  (ae (aC 3 vQ.nd (aj (ah 1) af))
  (ae (aU (aF (aB hu) (ah 2) af) (ai (ax (bg (aa (aj (ah 1) af) (aa (aj (ah 1) af) (aa (aQ cW (aQ a8 (aQ a8 (ah 3) af) (au aq hr (aa (ah 0) (aa af ag)))) af) ag)))))) az)
  (ae (aU (aF (aB hu) (ah 2) af) (ai (ax (bg (aa (aj (ah 1) af) (aa (aj (ah 1) af) (aa (aQ a8 (ah 3) (aQ gf af (aQ a8 af (au aq hr (aa (ah 0) (aa af ag)))))) ag)))))) az)
  (ai (ax (bg (aa (aj (ah 1) af) (aa (aj (ah 1) af) (aa (aQ cu (aQ cu (ah 3) af) (aQ gf af (au aq hr (aa (ah 0) (aa af ag))))) ag)))))))))),?_⟩
 clear hu;symm;refine fun t g O=>⟨_,inferInstance,?_⟩;rintro n ds R ⟨k,x,v,rfl,hv,hn,q⟩;refine cG [_,_,none,none] rfl ?_;have v0:=hv.1;have v1:=hv.2;have wt:WT t g n t=some (.aM g n):=ar;generalize WT t g n=W at wt
 sizeOf_list_dec
 refine aX wt (by omega) (by omega) (by omega) fun kd W1 Vk Vl wt _=>?_;dsimp only[dD]
 sizeOf_list_dec
 refine ao ?_
 sizeOf_list_dec
 refine gR (fun z=>?_) (fun z=>?_)
 ·sizeOf_list_dec
  refine aX wt (by omega) (by omega) (by omega) fun a W3 a0 a1 wt _=>?_
  sizeOf_list_dec
  refine aw (ds:=[.str k,.int x,.int ((v+1+a) % 4294967296)]) (by show 3<=sizeLine;decide) ?_;exact⟨_,wt,q ((v+1+a) % 4294967296) _ (by omega) (by omega)⟩
 sizeOf_list_dec
 refine ao ?_
 sizeOf_list_dec
 refine gR (fun z=>?_) (fun z=>?_)
 ·sizeOf_list_dec
  refine aX wt (by omega) (by omega) (by omega) fun a W3 a0 a1 wt _=>?_
  sizeOf_list_dec
  refine aw (ds:=[.str k,.int x,.int (v+4294967296 * (1+a))]) (by show 3<=sizeLine;decide) ?_;exact⟨_,wt,q (v+4294967296 * (1+a)) _ (by omega) (by omega)⟩
 ·sizeOf_list_dec
  refine aX wt (by omega) (by omega) (by omega) fun a W3 a0 a1 wt _=>?_
  sizeOf_list_dec
  refine aw (ds:=[.str k,.int x,.int (v - 4294967296 - 4294967296 * a)]) (by show 3<=sizeLine;decide) ?_;exact⟨_,wt,q (v - 4294967296 - 4294967296 * a) _ (by omega) (by omega)⟩
theorem zh(F:cA K "_law_spoilt" "_law_spoilt" qL f fd)(aq:Dn P w K mg base 1 "_law_draw" f1 d1 ["bag", "many"] (spT (cJ Bg) iA))(dX:Dn P w K mg base 2 "_law_far" f2 d2 ["bag"] (spT (cJ Bg) EZ))(jF:Dn P w K mg base 3 "_law_other_thing" f3 d3 ["bag", "wrote"] (spT (cJ Bg) Hd))(jG:Dn P w K mg base 2 "_law_other_worth" f4 d4 ["bag", "wrote"] (spT (cJ Bg) He)):aW P w K mg base cI 4 f fd ["bag", "spoil", "event", "ahead"] (spT (cJ Bg) xM):=by
 exact_mod_cast F.GX gB ei rfl (by nofun);refine⟨_,(ae (jo (ah 2) (gK (n:=4) (bh (a9 4 gB.nd) (bh (a9 5 gB.nd) (bh (a9 6 gB.nd) (bh (a9 7 gB.nd) gD))))))
  (ae (aU (aF (aB hu) (ah 1) aE) (ai (ax (bg (aa (ah 4) (aa (aQ cu (aQ cu (ah 3) af) (aj (bM (aa af (aa (au aq hr (aa (ah 0) (aa af ag))) (aa (au dX hr (aa (ah 0) ag)) ag)))) (au aq hr (aa (ah 0) (aa af ag))))) (aa (ah 6) (aa (ah 7) ag))))))) az)
  (ae (aU (aF (aB hu) (ah 1) aE) (ae (aC 8 gB.nd (aQ a8 af (au aq hr (aa (ah 0) (aa af ag)))))
   (ai (ax (bg (aa (ah 4) (aa (ah 5) (aa (aj (bM (aa (aQ a8 (ah 6) (ah 8)) (aa (aQ cu (ah 6) (ah 8)) (aa (aQ cu (Mv zZ af) (ah 6)) (aa (aQ a8 (ah 6) (aQ iZ af af)) ag))))) (au aq hr (aa (ah 0) (aa af ag)))) (aa (ah 7) ag)))))))) az)
  (ae (aU (aF (aB hu) (ah 1) aE) (ai (ax (bg (aa (ah 4) (aa (ah 3) (aa (ah 6) (aa (ah 7) ag))))))) az)
  (ae (aU (aF (aB hu) (ah 1) aE) (ai (ax (bg (aa (ah 4) (aa (ah 5) (aa (ah 6) (aa (au jF hr (aa (ah 0) (aa (ah 7) ag))) ag))))))) az)
  (ae (aU (aF (aB hu) (ah 1) aE) (ai (ax (bg (aa (ah 4) (aa (ah 5) (aa (ah 6) (aa (bg (aa aE (aa (aj (ah 7) af) (aa dJ ag)))) ag))))))) az)
  (ai (ax (bg (aa (ah 4) (aa (ah 5) (aa (ah 6) (aa (au jG hr (aa (ah 0) (aa (ah 7) ag))) ag))))))))))))),?_⟩
 clear hu;symm;refine fun t g O=>⟨_,inferInstance,?_⟩;rintro n ds R ⟨aO,b,pl,ahead,w,rfl,hw,wz,oh,hn,q⟩;refine cG [_,_,_,_,none,none,none,none,none] rfl ?_;have wt:WT t g n t=some (.aM g n):=ar;generalize WT t g n=W at wt;dsimp only[eC]
 sizeOf_list_dec
 refine ao ?_;rcases wz with rfl | rfl | rfl | rfl | rfl | rfl
 ·sizeOf_list_dec
  refine aX wt (by omega) (by omega) (by omega) fun a W1 a0 a1 wt _=>?_
  sizeOf_list_dec
  refine cv (ds:=[]) wt ⟨rfl,by omega,fun v n' hv C1=>bV ?_⟩;have oS:aG W1 t (.aM g n') t=some (.aM g n'):=ar;generalize aG W1 t (.aM g n')=W2 at oS ⊢
  sizeOf_list_dec
  refine cg (ds:=[0,a,v].map PyData.int) (by show 3<=sizeLine;decide) ?_
  sizeOf_list_dec
  refine aX oS (by omega) (by omega) (by omega) fun c W3 c0 c1 Di _=>?_;refine fY c0 (by simpa using c1) fun y hy=>?_;have hy:0<=y:=by simp at hy;omega
  sizeOf_list_dec
  refine aw (ds:=[.str "end",.int (ahead - 1 - y),.int pl,dS w.told]) (by show 4<=sizeLine;decide) ?_;exact⟨_,Di,q (.fin (ahead - 1 - y) pl w.told) _ (.inl ⟨rfl,_,by omega,rfl⟩) (by omega)⟩
 ·sizeOf_list_dec
  refine ao ?_
  sizeOf_list_dec
  refine aX wt (by omega) (by omega) (by omega) fun a W1 a0 a1 wt _=>?_
  sizeOf_list_dec
  refine cg (ds:=[pl+(1+a),pl - (1+a),-1 - pl,pl+10 ^ Int.toNat 50].map PyData.int) (by show 4<=sizeLine;decide) ?_
  sizeOf_list_dec
  refine aX wt (by omega) (by omega) (by omega) fun c W3 c0 c1 Di _=>?_;refine fY c0 (by simpa using c1) fun y hy=>?_;have X1:(10:Int) ^ Int.toNat 50=100000000000000000000000000000000000000000000000000:=by decide
  rw[X1]at hy;have hy:y≠pl:=by simp at hy;omega
  sizeOf_list_dec
  refine aw (ds:=[.str "end",.int b,.int y,dS w.told]) (by show 4<=sizeLine;decide) ?_;exact⟨_,Di,q (.fin b y w.told) _ (.inr (.inl ⟨rfl,_,hy,rfl⟩)) (by omega)⟩
 ·sizeOf_list_dec
  refine ao ?_
  sizeOf_list_dec
  refine ao ?_
  sizeOf_list_dec
  refine aw (ds:=[.str "end",.int ahead,.int pl,dS w.told]) (by show 4<=sizeLine;decide) ?_;exact⟨_,wt,q (.fin ahead pl w.told) _ (.inr (.inr (.inl ⟨rfl,rfl⟩))) (by omega)⟩
 ·sizeOf_list_dec
  refine ao ?_
  sizeOf_list_dec
  refine ao ?_
  sizeOf_list_dec
  refine ao ?_
  sizeOf_list_dec
  refine cv (ds:=[dS w.told]) wt ⟨w,by rw[mP],hw,by omega,fun w' n' h1 h2 C1=>bV ?_⟩;have oS:aG W t (.aM g n') t=some (.aM g n'):=ar
  sizeOf_list_dec
  rw[mP];refine aw (ds:=[.str "end",.int b,.int pl,dS w'.told]) (by show 4<=sizeLine;decide) ?_;exact⟨_,oS,q (.fin b pl w'.told) _ (.inr (.inr (.inr (.inl ⟨rfl,w',h1,h2,rfl⟩)))) (by omega)⟩
 ·obtain⟨k,x,v,rfl⟩:∃ k x v,w=some (k,x,v):=by
   rcases w with _ | ⟨k,x,v⟩
   ·exact absurd rfl (oh (.inl rfl))
   ·exact⟨k,x,v,rfl⟩
  sizeOf_list_dec
  refine ao ?_
  sizeOf_list_dec
  refine ao ?_
  sizeOf_list_dec
  refine ao ?_
  sizeOf_list_dec
  refine ao ?_
  sizeOf_list_dec
  refine aw (ds:=[.str "spot",.int x,.none]) (by show 3<=sizeLine;decide) ?_
  sizeOf_list_dec
  refine aw (ds:=[.str "end",.int b,.int pl,dS (some ("spot",x,none))]) (by show 4<=sizeLine;decide) ?_;exact⟨_,wt,q (.fin b pl (some ("spot",x,none))) _ (.inr (.inr (.inr (.inr (.inl ⟨rfl,k,x,v,rfl,rfl⟩))))) (by omega)⟩
 ·obtain⟨k,x,v,rfl⟩:∃ k x v,w=some (k,x,v):=by
   rcases w with _ | ⟨k,x,v⟩
   ·exact absurd rfl (oh (.inr rfl))
   ·exact⟨k,x,v,rfl⟩
  sizeOf_list_dec
  refine ao ?_
  sizeOf_list_dec
  refine ao ?_
  sizeOf_list_dec
  refine ao ?_
  sizeOf_list_dec
  refine ao ?_
  sizeOf_list_dec
  refine cv (ds:=[dD (some (k,x,v))]) wt ⟨k,x,v,rfl,hw.2,by omega,fun v' n' h1 C1=>bV ?_⟩;have oS:aG W t (.aM g n') t=some (.aM g n'):=ar
  sizeOf_list_dec
  refine aw (ds:=[.str "end",.int b,.int pl,dS (some (k,x,some v'))]) (by show 4<=sizeLine;decide) ?_;exact⟨_,oS,q (.fin b pl (some (k,x,some v'))) _ (.inr (.inr (.inr (.inr (.inr ⟨rfl,k,x,v,v',rfl,h1,rfl⟩))))) (by omega)⟩
theorem Fx(F:cA K "_law_end_more" "_law_end_more" CB f fd)(aq:Dn P w K mg base 1 "_law_draw" f1 d1 ["bag", "many"] (spT (cJ Bg) iA))(dX:Dn P w K mg base 2 "_law_far" f2 d2 ["bag"] (spT (cJ Bg) EZ)):aW P w K mg base cI 3 f fd ["bag", "beat", "many", "first"] (spT (cJ Bg) Hf):=by
 exact_mod_cast F.GX vR ei rfl (by nofun);refine⟨_,(ae (aC 4 vR.nd (aj (bM (aa af (aa af (aa (au dX hr (aa (ah 0) ag)) ag)))) (au aq hr (aa (ah 0) (aa af ag)))))
  (ae (aC 5 vR.nd (aj (bM (aa (ah 2) (aa (ah 3) (aa (au aq hr (aa (ah 0) (aa af ag))) ag)))) (au aq hr (aa (ah 0) (aa af ag)))))
  (ai (ax (bg (aa aE (aa (aQ a8 (ah 1) (ah 4)) (aa (ah 5) (aa (aj (bM (aa dJ (aa (bg (cM rfl)) ag))) (au aq hr (aa (ah 0) (aa af ag)))) ag))))))))),?_⟩
 clear hu;symm;refine fun t g O=>⟨_,inferInstance,?_⟩;rintro n ds R ⟨b,many,fi,rfl,hn,q⟩;refine cG [_,_,_,_,none,none] rfl ?_;have wt:WT t g n t=some (.aM g n):=ar;generalize WT t g n=W at wt
 sizeOf_list_dec
 refine cv (ds:=[]) wt ⟨rfl,by omega,fun v n' hv C1=>bV ?_⟩;have oS:aG W t (.aM g n') t=some (.aM g n'):=ar;generalize aG W t (.aM g n')=W2 at oS ⊢
 sizeOf_list_dec
 refine cg (ds:=[0,1,v].map PyData.int) (by show 3<=sizeLine;decide) ?_
 sizeOf_list_dec
 refine aX oS (by omega) (by omega) (by omega) fun c W3 c0 c1 Di _=>?_;refine fY c0 (by simpa using c1) fun y hy=>?_;have hy:0<=y:=by simp at hy;omega
 sizeOf_list_dec
 refine aX Di (by omega) (by omega) (by omega) fun a W4 _ _ PM _=>?_
 sizeOf_list_dec
 refine cg (ds:=[many,fi,a].map PyData.int) (by show 3<=sizeLine;decide) ?_
 sizeOf_list_dec
 refine aX PM (by omega) (by omega) (by omega) fun d W5 d0 d1 PN _=>?_;refine fY d0 (by simpa using d1) fun pl lL=>?_;clear lL
 sizeOf_list_dec
 refine aw (ds:=[.str "spot",.int 0,.int 0]) (by show 3<=sizeLine;decide) ?_
 sizeOf_list_dec
 refine cg (ds:=[dD none,dD (some ("spot",0,0))]) (by show 2<=sizeLine;decide) ?_
 sizeOf_list_dec
 refine aX PN (by omega) (by omega) (by omega) fun i W6 i0 i1 PQ _=>?_;obtain⟨w,hw,tk⟩:∃ w:jK,gX [dD none,dD (some ("spot",0,0))] i=some (dD w)/\jD w.told.kD:=by
  obtain rfl | rfl:i=0\/i=1:=by omega
  ·exact⟨none,rfl,fun _ _ e=>by cases e⟩
  ·exact⟨some ("spot",0,0),rfl,fun _ _ e=>by cases e;exact .inl rfl⟩
 refine cV hw ?_
 sizeOf_list_dec
 rw[mP];refine aw (ds:=[.str "end",.int (b+y),.int pl,dS w.told]) (by show 4<=sizeLine;decide) ?_;exact⟨_,PQ,q (b+y) pl w _ (by omega) tk (by omega)⟩
end
theorem KC{e:Ev}(h:qE e):(eC e).canLay0=true/\(eC e).depth<=2:=by
 have c:(PyData.str "end").canLay0=true/\(PyData.str "late").canLay0=true/\(PyData.str "down").canLay0=true/\(PyData.str "bell").canLay0=true/\(PyData.str "spot").canLay0=true/\(PyData.str "cell").canLay0=true:=by decide +kernel
 obtain⟨c1,c2,c3,c4,c5,c6⟩:=c;simp only[PyData.canLay0]at c1 c2 c3 c4 c5 c6;have k:∀ o:Option Int,(ua o).canLay0=true/\(ua o).depth=0:=fun o=>by cases o<;>exact⟨rfl,rfl⟩
 cases e with
 | fin b pl t =>
  rcases t with _ | ⟨w,x,v⟩
  ·exact⟨by simp[eC,dS,PyData.canLay0,PyData.canLayAll0,c1],by simp[eC,dS,PyData.depth,PyData.depthAll]⟩
  ·refine⟨?_,by simp[eC,dS,PyData.depth,PyData.depthAll,(k v).2]⟩;rcases h w x rfl with rfl | rfl<;>simp[eC,dS,PyData.canLay0,PyData.canLayAll0,c1,c5,c6,(k v).1]
 | kS b n v=>exact⟨by simp[eC,PyData.canLay0,PyData.canLayAll0,c2],by simp[eC,PyData.depth,PyData.depthAll]⟩
 | down b n c v=>exact⟨by simp[eC,PyData.canLay0,PyData.canLayAll0,c3],by simp[eC,PyData.depth,PyData.depthAll]⟩
 | kT b k=>exact⟨by simp[eC,PyData.canLay0,PyData.canLayAll0,c4],by simp[eC,PyData.depth,PyData.depthAll]⟩
theorem CF(h:∀ d∈ds,d.canLay0=true/\d.depth<=2):(PyData.list ds).canLay0=true/\(PyData.list ds).depth<=64:=by
 have:PyData.canLayAll0 ds=true/\PyData.depthAll ds<=2:=by
  induction ds with
  | nil=>exact⟨rfl,aaJ _⟩
  | cons d r ih =>
   obtain⟨h1,h2⟩:=h d (aaw ..);obtain⟨i1,i2⟩:=ih fun x hx=>h x (aan _ hx);exact⟨by rw[PyData.canLayAll0,h1,i1];rfl,by rw[PyData.depthAll];omega⟩
 exact⟨this.1,by rw[PyData.depth];omega⟩
theorem xN{es:List Ev}(h:∀ e∈es,qE e):(PyData.list (es.map eC)).canLay0=true/\(PyData.list (es.map eC)).depth<=64:=CF fun d hd=>by obtain⟨e,he,rfl⟩:=abg.mp hd;exact KC (h e he)
abbrev qO:Stmt:=top 41
abbrev vT:Stmt:=top 47
theorem fF:ay ["row", "spots", "cells", "at", "worth"] ["row", "spots", "cells"] (defScope qO):=by ac_rfl
theorem qP:ay ["mill", "state", "terms", "diary", "due", "handed", "rings"] ["mill", "state", "terms", "diary", "due"] (defScope vT):=by ac_rfl
def two(ps pc:Addr)(sp ce:wn):Ws:=[(ps,sY (sp.map .int)),(pc,sY (ce.map .int))]
def xO:i8:=fun aI W R _=>∃ r m ps pc sp ce,aI=[.im (cC r),.pt ps,.pt pc]/\At W (two ps pc sp ce)/\eO m r/\sp.length=8/\ce.length=16/\(∀ z∈sp,Wr z)/\∀ W',At W' (two ps pc (c8 "spot" sp (r.wrote sp ce)) (c8 "cell" ce (r.wrote sp ce)))->R (.im (dD (r.wrote sp ce))) W'
def CG:jv:=fun ds R _=>∃ rs st t es Lh,ds=[c7 rs [],dQ st,nr t,.list (es.map eC),nQ Lh]/\dZ (zz rs [] st [] t)/\(∀ e∈es,qE e)/\es.length<=4000/\R (.im (.bool (decide (fg (zz rs [] st [] t) es=Lh))))
theorem iK{p:Addr}(w:W p=some (sY (xs.map .int)))(h0:0<=k)(h1:k < xs.length)(h:Q (.im (.int (gI xs k))) W):Jt (.pt p) (.im (.int k)) W Q:=dM (vs:=(xs.map PyData.int).map .im) w (pU (G7 h0 h1)) h
theorem ka{p:Addr}{v:Int}{Kc:Wd->Prop}(w:W p=some (sY (xs.map .int)))(h0:0<=k)(h1:k < xs.length)(h:∀ W',W' p=some (sY ((xs.set k.toNat v).map .int))->Fr p W W'->Kc W'):se (.pt p) (.im (.int k)) (.im (.int v)) W Kc :=
 u4 (vs:=(xs.map PyData.int).map .im) w (j:=k.toNat) (mn h0 (by rw[aab,aab];exact h1)) fun W' w' f'=>h W' (by rw[w'];unfold sY;rw[ab3,ab3]) f'
section
variable {K:zn}
theorem zi(F:cA K "_law_wrote" "_law_wrote" qO f fd)(gz:mg "int"=none):aW P w K mg base cI 1 f fd ["row", "spots", "cells"] (dq K xO):=by
 exact_mod_cast F.rg fF (fun aI W R X ⟨a,b,c,d,g,i,e,_⟩=>by rw[e];rfl);refine⟨_,(ae (aU (aF (aB hu) (aj (ah 0) af) aE) (ae (aC 3 fF.nd (aQ cW (aQ a8 (aj (ah 1) (aj (ah 0) af)) (aj (ah 0) af)) af))
   (ae (jo (aj (ah 1) (aj (ah 0) af)) (om (ah 2) (ah 3) set_list))
   (ai (ax (bg (aa aE (aa (ah 3) (aa (aj (ah 2) (ah 3)) ag)))))))) az)
  (ae (aU (AL (mh hu) (aj (ah 0) af) (bg (cM rfl))) (ai (ax dJ)) az)
  (ae (aC 4 fF.nd (aj (ah 0) af))
  (ae (aU (aF (aB hu) (aj (ah 0) af) aE) (ai (aC 4 fF.nd (aj (ah 2) (aQ cW (aQ a8 (aj (ah 1) (aj (ah 0) af)) (aj (ah 0) af)) af)))) (ai (aU (aF (aB hu) (aj (ah 0) af) aE) (ai (aC 4 fF.nd (aQ cW (aQ a8 (aj (ah 1) (aj (ah 0) af)) (aj (ah 1) (aj (ah 0) af))) af))) (ai (aU (aF (aB hu) (aj (ah 0) af) aE) (ai (aC 4 fF.nd (aQ cW (aQ gf (aj (ah 1) (aj (ah 0) af)) (aj (ah 1) (aj (ah 0) af))) af))) (ai (aU (aF (aB hu) (aj (ah 0) af) aE) (ai (aC 4 fF.nd (cO iN gz abF (aa (gw jf (aj (ah 1) (aj (ah 0) af)) (aj (ah 1) (aj (ah 0) af))) ag)))) az)))))))
  (ae (jo (ah 4) (om (ah 1) (aj (ah 0) af) set_list))
  (ai (ax (bg (aa aE (aa (aj (ah 0) af) (aa (ah 4) ag))))))))))),?_⟩
 norm_cast;rintro aI R ⟨r,m,ps,pc,sp,ce,rfl,hA,gM,h8,OH,C6,qq⟩;have ws:W ps=some (sY (sp.map .int)):=hA.get 0 rfl;have wc:W pc=some (sY (ce.map .int)):=hA.get 1 rfl;have Fy:∀ z:Int,0<=z % 16/\z % 16 < 16:=fun z=>⟨aa5 _ (by decide),aaU _ (by decide)⟩;have n1:¬ ("spot":Str) = "cell":=by decide
 have n2:¬ ("cell":Str) = "spot":=by decide
 have n3:¬ ("take":Str) = "lay":=by decide
 have n4:¬ ("mul":Str) = "sum":=by decide
 have n5:¬ ("less":Str) = "sum":=by decide
 have n6:¬ ("less":Str) = "mul":=by decide
 have xP:∀{i:Int},G6 i->i < sp.length:=fun h=>by rw[h8];exact h.2
 have four:∀{W:Wd} {Q:DK} {x:Str},Q (.im (.bool (decide (x∈[("go":Str), "shut", "open", "home"])))) W->yy false (.im (.str x)) (.im (.tuple [.str "go",.str "shut",.str "open",.str "home"])) W Q:=fun{W Q x} h=>mF (neg:=false) (xs:=["go", "shut", "open", "home"]) rfl h;have fs:∀ d v,c8 "spot" sp (some ("spot",d,v))=sp.set d.toNat v:=fun _ _=>by unfold c8;exact aau rfl
 have fc:∀ d v,c8 "cell" ce (some ("spot",d,v))=ce:=fun _ _=>by unfold c8;exact aao n1
 have gs:∀ d v,c8 "spot" sp (some ("cell",d,v))=sp:=fun _ _=>by unfold c8;exact aao n2
 have gc:∀ d v,c8 "cell" ce (some ("cell",d,v))=ce.set d.toNat v:=fun _ _=>by unfold c8;exact aau rfl
 refine cG [_,_,_,none,none] rfl ?_;refine ao ?_;cases r with
 | mv x d a k =>
  obtain⟨hx,hd,ha,k0,k1⟩:=gM;dsimp only[cC];rcases hx with rfl | rfl
  ·rw[show(Rw.mv "take" d a k).wrote sp ce=some (("spot":Str),d,gI ce ((gI sp a+k) % 16)) by unfold Rw.wrote Rw.gives;exact aao n3,fs,fc]at qq
   sizeOf_list_dec
   refine ao ?_
   sizeOf_list_dec
   refine aw (ds:=[.str "go",.str "shut",.str "open",.str "home"]) (by show 4<=sizeLine;decide) (four ?_)
   sizeOf_list_dec
   refine ao ?_
   sizeOf_list_dec
   refine iK ws ha.1 (xP ha) ?_
   sizeOf_list_dec
   refine iK wc (Fy _).1 (by rw[OH];exact(Fy _).2) ?_
   sizeOf_list_dec
   refine ka ws hd.1 (xP hd) fun W1 w1 f1=>?_
   sizeOf_list_dec
   refine aw (ds:=[.str "spot",.int d,.int (gI ce ((gI sp a+k) % 16))]) (by show 3<=sizeLine;decide) ?_;exact qq W1 (hA.gm 0 rfl f1 w1)
  ·rw[show(Rw.mv "lay" d a k).wrote sp ce=some (("cell":Str),(gI sp a+k) % 16,gI sp d) by unfold Rw.wrote;exact aau rfl,gs,gc]at qq
   sizeOf_list_dec
   refine iK ws ha.1 (xP ha) ?_
   sizeOf_list_dec
   refine iK ws hd.1 (xP hd) ?_
   sizeOf_list_dec
   refine ka wc (Fy _).1 (by rw[OH];exact(Fy _).2) fun W1 w1 f1=>?_
   sizeOf_list_dec
   refine iK w1 (Fy _).1 (by rw[acI,OH];exact(Fy _).2) ?_;rw[show gI (ce.set ((gI sp a+k) % 16).toNat (gI sp d)) ((gI sp a+k) % 16)=gI sp d by
    have:=Fy (gI sp a+k);unfold gI;rw[aaE,abU (by omega)];rfl]
   sizeOf_list_dec
   refine aw (ds:=[.str "cell",.int ((gI sp a+k) % 16),.int (gI sp d)]) (by show 3<=sizeLine;decide) ?_;exact qq W1 (hA.gm 1 rfl f1 w1)
 | put d v =>
  dsimp only[cC]
  sizeOf_list_dec
  refine ao ?_
  sizeOf_list_dec
  refine aw (ds:=[.str "go",.str "shut",.str "open",.str "home"]) (by show 4<=sizeLine;decide) (four ?_)
  sizeOf_list_dec
  refine ao ?_
  sizeOf_list_dec
  obtain⟨hd,_⟩:=gM;rw[show(Rw.put d v).wrote sp ce=some (("spot":Str),d,v) from rfl,fs,fc]at qq;refine ka ws hd.1 (xP hd) fun W1 w1 f1=>?_
  sizeOf_list_dec
  refine aw (ds:=[.str "spot",.int d,.int v]) (by show 3<=sizeLine;decide) ?_;exact qq W1 (hA.gm 0 rfl f1 w1)
 | op x d a b =>
  obtain⟨hx,hd,ha,hb⟩:=gM;have wv:∀ x,(Rw.op x d a b).wrote sp ce=some (("spot":Str),d,Rw.gives sp ce (.op x d a b)):=fun _=>rfl;have gv:∀ x,Rw.gives sp ce (.op x d a b)=(if x = "sum" then(gI sp a+gI sp b) % 4294967296 else if x = "mul" then gI sp a * gI sp b % 4294967296 else if gI sp a < gI sp b then 1 else 0):=fun _=>rfl;dsimp only[cC];rcases hx with rfl | rfl | rfl
  ·rw[wv,gv,aau rfl,fs,fc]at qq
   sizeOf_list_dec
   refine ao ?_
   sizeOf_list_dec
   refine aw (ds:=[.str "go",.str "shut",.str "open",.str "home"]) (by show 4<=sizeLine;decide) (four ?_)
   sizeOf_list_dec
   refine ao ?_
   sizeOf_list_dec
   refine iK ws ha.1 (xP ha) ?_
   sizeOf_list_dec
   refine iK ws hb.1 (xP hb) ?_
   sizeOf_list_dec
   refine ka ws hd.1 (xP hd) fun W1 w1 f1=>?_
   sizeOf_list_dec
   refine aw (ds:=[.str "spot",.int d,.int ((gI sp a+gI sp b) % 4294967296)]) (by show 3<=sizeLine;decide) ?_;exact qq W1 (hA.gm 0 rfl f1 w1)
  ·rw[wv,gv,aao n4,aau rfl,fs,fc]at qq
   sizeOf_list_dec
   refine ao ?_
   sizeOf_list_dec
   refine aw (ds:=[.str "go",.str "shut",.str "open",.str "home"]) (by show 4<=sizeLine;decide) (four ?_)
   sizeOf_list_dec
   refine ao ?_
   sizeOf_list_dec
   refine iK ws ha.1 (xP ha) ?_
   sizeOf_list_dec
   refine iK ws hb.1 (xP hb) ?_
   sizeOf_list_dec
   refine UG (.inl ⟨by have:=(sP C6 a).1;omega,by have:=(sP C6 a).2;omega⟩) ?_
   sizeOf_list_dec
   refine ka ws hd.1 (xP hd) fun W1 w1 f1=>?_
   sizeOf_list_dec
   refine aw (ds:=[.str "spot",.int d,.int (gI sp a * gI sp b % 4294967296)]) (by show 3<=sizeLine;decide) ?_;exact qq W1 (hA.gm 0 rfl f1 w1)
  ·rw[wv,gv,aao n5,aao n6,fs,fc]at qq
   sizeOf_list_dec
   refine ao ?_
   sizeOf_list_dec
   refine aw (ds:=[.str "go",.str "shut",.str "open",.str "home"]) (by show 4<=sizeLine;decide) (four ?_)
   sizeOf_list_dec
   refine ao ?_
   sizeOf_list_dec
   refine iK ws ha.1 (xP ha) ?_
   sizeOf_list_dec
   refine iK ws hb.1 (xP hb) ?_
   sizeOf_list_dec
   rw[show(if decide (gI sp a < gI sp b)=true then(1:Int)else 0)=if gI sp a < gI sp b then 1 else 0 by simp only[decide_eq_true_eq]];refine ka ws hd.1 (xP hd) fun W1 w1 f1=>?_
   sizeOf_list_dec
   refine aw (ds:=[.str "spot",.int d,.int (if gI sp a < gI sp b then 1 else 0)]) (by show 3<=sizeLine;decide) ?_;exact qq W1 (hA.gm 0 rfl f1 w1)
 | go a b =>
  dsimp only[cC]
  sizeOf_list_dec
  refine ao ?_
  sizeOf_list_dec
  refine aw (ds:=[.str "go",.str "shut",.str "open",.str "home"]) (by show 4<=sizeLine;decide) (four ?_)
  sizeOf_list_dec
  exact qq W hA
 | one x =>
  dsimp only[cC];rcases gM with rfl | rfl | rfl
  all_goals
   sizeOf_list_dec
   refine ao ?_
   sizeOf_list_dec
   refine aw (ds:=[.str "go",.str "shut",.str "open",.str "home"]) (by show 4<=sizeLine;decide) (four ?_)
   sizeOf_list_dec
   exact qq W hA
theorem CH(F:cA K "_law_asked" "_law_asked" vT f fd)(CI:Dn P w K mg base 9 "parting" f1 d1 ["mill", "state", "rings", "terms", "diary"] (dm nu))(tE:Dn P w K mg base 1 "_law_right" f2 d2 ["found", "due"] (dm BB))(eV:mg "list"=none):aW P w K mg base cI 10 f fd ["mill", "state", "terms", "diary", "due"] (dm CG):=by
 exact_mod_cast F.pS qP (by nofun);refine⟨_,(ae (aC 5 qP.nd (cO gG eV abX (aa (ah 3) ag)))
  (ae (aC 6 qP.nd (bM ag))
  (ae (aU (ku (pv (au tE hr (aa (au CI hr (aa (ah 0) (aa (ah 1) (aa (ah 6) (aa (ah 2) (aa (ah 5) ag)))))) (aa (ah 4) ag))))) (ai (ax rW)) az)
  (ai (ax (AM (gw (aB hu) (ah 5) (ah 3)) (wL (gw (aB hu) (ah 6) (bM ag))))))))),?_⟩
 push_cast;rintro ds R ⟨rs,st,t,es,Lh,rfl,ok,hE,hl,q⟩;refine cG [_,_,_,_,_,none,none] rfl ?_
 sizeOf_list_dec
 refine xn (iz ?_)
 sizeOf_list_dec
 refine cg (ds:=[]) (aaJ _) ?_
 sizeOf_list_dec
 refine ao ?_
 sizeOf_list_dec
 refine aV (ds:=[c7 rs [],dQ st,.list [],nr t,.list (es.map eC)]) ⟨rs,[],st,[],t,es,rfl,ok,hE,hl,bV ?_⟩
 sizeOf_list_dec
 refine aV (ds:=[nQ (fg (zz rs [] st [] t) es),nQ Lh]) ⟨_,Lh,rfl,bV ?_⟩;cases hd:decide (fg (zz rs [] st [] t) es=Lh) with
 | false =>
  rw[hd]at q
  sizeOf_list_dec
  exact q
 | true =>
  rw[hd]at q
  sizeOf_list_dec
  refine NG (d1:=.list (es.map eC)) cP cP (xN hE).1 (xN hE).2 ?_
  sizeOf_list_dec
  refine⟨.list [],cP,rfl,?_⟩;exact q
end
def stN(rs:List Rw)(st:nF):Nat->nF
 | 0=>st
 | n+1=>gb (rowOf rs (stN rs st n).place) (stN rs st n)
def gQ(rs:List Rw)(st:nF)(n:Nat):jK:=(rowOf rs (stN rs st n).place).wrote (stN rs st n).aY (stN rs st n).cells
def uc(b n:Int):jK->List Ev
 | some (k,x,v)=>if k = "cell" then [.down b n x v]else []
 | none=>[]
def FA(rs:List Rw)(st:nF)(width base:Int)(n:Nat):List Ev:=.fin (base+(n:Int) / width) (st.place+n) (gQ rs st n).told::uc (base+(n:Int) / width) n (gQ rs st n)
def gW(rs:List Rw)(st:nF)(width base:Int):Nat->List Ev
 | 0=>[]
 | n+1=>gW rs st width base n++FA rs st width base n
def ud(rs:List Rw)(st:nF)(width base:Int):Nat->List Int
 | 0=>[]
 | n+1=>ud rs st width base n++[((gW rs st width base n).length:Int)]
def vU(rs:List Rw):Prop:=∀ i:Nat,i < rs.length->Fu i (rowOf rs i)
section
variable {st:nF}{width base:Int}
theorem ke(gM:∀ r∈rs,eO rs.length r)(hs:vU rs)(ok:fZ rs.length st)(hk:st.kept=none):∀ n:Nat,st.place+n<=rs.length->fZ rs.length (stN rs st n)/\(stN rs st n).place=st.place+n/\(stN rs st n).kept=none
 | 0,_=>⟨ok,(Int.add_zero _).symm,hk⟩
 | n+1,h=>by
  obtain⟨k1,k2,k3⟩:=ke gM hs ok hk n (by omega);have p0:=ok.p0;have hp:(stN rs st n).place < rs.length:=by omega
  obtain⟨i,hi⟩:=abq k1.p0;have Dg:i < rs.length:=by omega
  have ro:eO rs.length (rowOf rs (stN rs st n).place):=by
   rw[hi];unfold rowOf;rw[aaE,aay,aak Dg];exact gM _ (aa8 Dg)
  have sr:=hs i Dg;rw[<- hi]at sr;refine⟨xC k1 hp ro,?_,?_⟩
  ·show iE _ _ _ _=_;rw[k3,k2];rw[k2]at sr ro;generalize rowOf rs (st.place+n)=r at sr ro;cases r with
   | go a p =>
    have:=sr a p rfl;show(if _=(0:Int)then _ else _)=_;split<;>omega
   | one x=>show(if x = "home" then(none:ul).getD _ else _)=_;split<;>(try simp only[ac4])<;>omega
   | put d v=>show st.place+n+1=_;omega
   | op x d a b=>show st.place+n+1=_;omega
   | mv x d a k=>show st.place+n+1=_;omega
  ·show oJ _ _=none;rw[k3];cases rowOf rs (stN rs st n).place with
   | one x=>show(if x = "home" then none else none)=none;split<;>rfl
   | _=>rfl
theorem vV(gM:∀ r∈rs,eO rs.length r){p:Int}(h0:0<=p)(h1:p < rs.length):gX (rs.map cC) p=some (cC (rowOf rs p))/\eO rs.length (rowOf rs p):=by
 obtain⟨i,rfl⟩:=abq h0;have Dg:i < rs.length:=by omega
 unfold rowOf;rw[aaE,aay,aak Dg];exact⟨bB (by rw[aag,aak Dg];rfl),gM _ (aa8 Dg)⟩
theorem KD(b n:Int)(w:jK):(uc b n w).length<=1:=by
 unfold uc;split
 ·split<;>simp
 ·simp
theorem vW:∀ n:Nat,(gW rs st width base n).length<=2 * n
 | 0=>aae _
 | n+1=>by
  have:=vW n;have:=KD (base+(n:Int) / width) n (gQ rs st n);simp only[gW,FA,aaB,aaG];omega
end
abbrev vX:Stmt:=top 42
theorem gd:ay ["rows", "state", "width", "base", "spots", "cells", "diary", "seats", "n", "beat", "wrote"] ["rows", "state", "width", "base"] (defScope vX):=by ac_rfl
def CJ:i8:=fun aI W R _=>∃ rs st width base N,aI=[.im (.list (rs.map cC)),.im (dQ st),.im (.int width),.im (.int base)]/\(∀ r∈rs,eO rs.length r)/\vU rs/\fZ rs.length st/\st.kept=none/\1<=width/\width<=1000/\rs.length<=40/\st.place+(N:Nat)=rs.length/\∀ l1 l2 W',At W' [(l1,sY ((gW rs st width base N).map eC)),(l2,sY ((ud rs st width base N).map .int))]->R (.tp [.inr l1,.inr l2]) W'
section
variable {K:zn}
theorem CK(F:cA K "_law_diary" "_law_diary" vX f fd)(tF:Dn P w K mg base 1 "_law_wrote" f1 d1 ["row", "spots", "cells"] (dq K xO))(eV:mg "list"=none)(cH:mg "range"=none)(bL:mg "len"=none):aW P w K mg base cI 2 f fd ["rows", "state", "width", "base"] (dq K CJ):=by
 exact_mod_cast F.rg gd (fun aI W R X ⟨a,b,c,d,g,e,_⟩=>by rw[e];rfl);refine⟨_,(ae (aC 4 gd.nd (cO gG eV abX (aa (aj (ah 1) af) ag)))
  (ae (aC 5 gd.nd (cO gG eV abX (aa (aj (ah 1) af) ag)))
  (ae (aC 6 gd.nd (bM ag))
  (ae (aC 7 gd.nd (bM ag))
  (ae (oj (gu cH (aa (aQ cu (cE bZ bL aba (aa (ah 0) ag)) (aj (ah 1) af)) ag)) (a9 8 gd.nd) (ae (aC 9 gd.nd (aQ a8 (ah 3) (aQ jk (ah 8) (ah 2))))
   (ae (aC 10 gd.nd (au tF hr (aa (aj (ah 0) (aQ a8 (aj (ah 1) af) (ah 8))) (aa (ah 4) (aa (ah 5) ag)))))
   (ae (dO (kO aaC aaR aaS cS (ah 7) (aa (cE bZ bL aba (aa (ah 6) ag)) ag)))
   (ae (dO (kO aaC aaR aaS cS (ah 6) (aa (bg (aa aE (aa (ah 9) (aa (aQ a8 (aj (ah 1) af) (ah 8)) (aa (ah 10) ag))))) ag)))
   (ai (aU (qW (w_and (lZ (ah 10)) (dP (aF (aB hu) (aj (ah 10) af) aE)))) (ai (dO (kO aaC aaR aaS cS (ah 6) (aa (bg (aa aE (aa (ah 9) (aa (ah 8) (aa (aj (ah 10) af) (aa (aj (ah 10) af) ag)))))) ag)))) az)))))))
  (ai (ax (bg (aa (ah 6) (aa (ah 7) ag)))))))))),?_⟩
 norm_cast;rintro aI R ⟨rs,st,width,bt,N,rfl,gM,hs,ok,hk,w1,w2,h40,hN,qq⟩;refine cG [_,_,_,_,none,none,none,none,none,none,none] rfl ?_;have p0:=ok.p0
 sizeOf_list_dec
 refine xo (ky fun ps W1 h1 v1 f1=>?_)
 sizeOf_list_dec
 refine xo (ky fun pc W2 h2 v2 f2=>?_)
 sizeOf_list_dec
 refine jX (aaJ _) fun l1 W3 h3 v3 f3=>?_
 sizeOf_list_dec
 refine jX (aaJ _) fun l2 W4 h4 v4 f4=>?_;have e1:ps≠pc:=fun z=>by rw[<- z,v1]at h2;cases h2
 have Sz:=f2.at e1 v1;have e2:ps≠l1:=fun z=>by rw[<- z,Sz]at h3;cases h3
 have e3:pc≠l1:=fun z=>by rw[<- z,v2]at h3;cases h3
 have KH:=f3.at e2 Sz;have SD:=f3.at e3 v2;have e4:ps≠l2:=fun z=>by rw[<- z,KH]at h4;cases h4
 have e5:pc≠l2:=fun z=>by rw[<- z,SD]at h4;cases h4
 have e6:l1≠l2:=fun z=>by rw[<- z,v3]at h4;cases h4
 replace v1:=f4.at e4 KH;replace v2:=f4.at e5 SD;replace v3:=f4.at e6 v3;clear Sz KH SD h1 h2 h3 h4 f1 f2 f3 f4
 sizeOf_list_dec
 refine ao ?_
 sizeOf_list_dec
 rw[aab];have p1:=ok.p1
 sizeOf_list_dec
 refine xj (fun i ρ W=>∃ u1 u2 u3,ρ=[some (.im (.list (rs.map cC))),some (.im (dQ st)),some (.im (.int width)),some (.im (.int bt)),some (.pt ps),some (.pt pc),some (.pt l1),some (.pt l2),u1,u2,u3]/\W ps=some (sY ((stN rs st i).aY.map .int))/\W pc=some (sY ((stN rs st i).cells.map .int))/\W l1=some (.lst (((gW rs st width bt i).map eC).map .im))/\W l2=some (.lst (((ud rs st width bt i).map PyData.int).map .im))/\(ud rs st width bt i).length=i) ⟨_,_,_,rfl,v1,v2,v3,v4,rfl⟩ ?_ ?_
 ·clear v1 v2 v3 v4;rintro i ρ W hi ⟨u1,u2,u3,rfl,v1,v2,v3,v4,zv⟩;have yB:st.place+(i:Nat) < rs.length:=by omega
  obtain⟨vL,FC,X2⟩:=ke gM hs ok hk i (by omega);obtain⟨PK,ro⟩:=vV gM (p:=st.place+(i:Nat)) (by omega) yB;have IM:=vW (rs:=rs) (st:=st) (width:=width) (base:=bt) i;have ew:gQ rs st i=(rowOf rs (st.place+(i:Nat))).wrote (stN rs st i).aY (stN rs st i).cells:=by unfold gQ;rw[FC]
  rw[Int.zero_add]
  sizeOf_list_dec
  refine cV PK ?_
  sizeOf_list_dec
  have hA:At W (two ps pc (stN rs st i).aY (stN rs st i).cells):=⟨by simp[two,e1],fun x hx=>by
   rcases aaf.mp hx with rfl | hx
   ·exact v1
   ·rw[aaN.mp hx];exact v2⟩
  refine bE hA rfl fun W1 R' g1 g=>⟨_,_,ps,pc,_,_,rfl,g1,ro,vL.s8,vL.Ki,vL.sw,fun W' h'=>g _ _ fun W2 t fr=>?_⟩;have jC:=t _ h' rfl;have z3:=fr l1 _ (by simp[two,e2.symm,e3.symm]) v3;have z4:=fr l2 _ (by simp[two,e4.symm,e5.symm]) v4;have z1:W2 ps=some (sY ((stN rs st (i+1)).aY.map .int)):=by
   have:=jC.get 0 rfl;rw[<- ew]at this;exact this
  have z2:W2 pc=some (sY ((stN rs st (i+1)).cells.map .int)):=by
   have:=jC.get 1 rfl;rw[<- ew]at this;exact this
  rw[<- ew];clear jC fr t h' g1 g hA v1 v2 v3 v4 ew PK ro
  sizeOf_list_dec
  refine dn z4 (by rw[aab,aab,zv];exact bR (by omega)) fun W5 y4 f5=>?_;replace z1:=f5.at e4 z1;replace z2:=f5.at e5 z2;replace z3:=f5.at e6 z3
  sizeOf_list_dec
  rw[mP];refine aw (ds:=[.str "end",.int (bt+(i:Nat) / width),.int (st.place+(i:Nat)),dS (gQ rs st i).told]) (by show 4<=sizeLine;decide) ?_
  sizeOf_list_dec
  refine dn z3 (by rw[aab,aab];exact bR (by omega)) fun W6 y3 f6=>?_;replace z1:=f6.at e2 z1;replace z2:=f6.at e3 z2;replace y4:=f6.at e6.symm y4
  sizeOf_list_dec
  have Li:∀ W':Wd,W' l2=W6 l2->W' l2=some (.lst (((ud rs st width bt (i+1)).map PyData.int).map .im))/\(ud rs st width bt (i+1)).length=i+1:=fun W' e=>⟨by rw[e,y4];simp[ud],by simp[ud,zv]⟩;have Lc:gW rs st width bt (i+1)=gW rs st width bt i++FA rs st width bt i:=rfl;have X3:FA rs st width bt i=.fin (bt+(i:Int) / width) (st.place+(i:Nat)) (gQ rs st i).told::uc (bt+(i:Int) / width) i (gQ rs st i):=rfl;rw[Lc,X3];generalize gQ rs st i=wr at *;rcases wr with _ | ⟨k,x,v⟩
  ·sizeOf_list_dec
   exact⟨_,_,_,rfl,z1,z2,by rw[y3];simp[uc,eC],(Li _ rfl).1,(Li _ rfl).2⟩
  ·dsimp only[Option.map_some,dS]at y3 ⊢
   sizeOf_list_dec
   by_cases ek:k = "cell"
   ·refine nN ek ?_
    sizeOf_list_dec
    refine aw (ds:=[.str "down",.int (bt+(i:Nat) / width),.int (i:Nat),.int x,.int v]) (by show 5<=sizeLine;decide) ?_
    sizeOf_list_dec
    refine dn y3 (by rw[aaB,aab,aab];exact bR (by simp;omega)) fun W7 y7 f7=>?_;exact⟨_,_,_,rfl,f7.at e2 z1,f7.at e3 z2,by rw[y7];simp[uc,ek,eC,dS,ua],(Li _ (f7 l2 e6.symm)).1,(Li _ (f7 l2 e6.symm)).2⟩
   ·refine kP ek ?_
    sizeOf_list_dec
    exact⟨_,_,_,rfl,z1,z2,by rw[y3];simp[uc,ek,eC,dS],(Li _ rfl).1,(Li _ rfl).2⟩
 ·clear v1 v2 v3 v4;rintro ρ W ⟨u1,u2,u3,rfl,v1,v2,v3,v4,zv⟩
  sizeOf_list_dec
  refine J4 (ts:=[.inr l1,.inr l2]) (by show 2<=sizeLine;decide) ?_;rw[show((rs.length:Int) - st.place).toNat=N by omega]at v3 v4;exact qq l1 l2 W ⟨by simp[e6],fun x hx=>by
   rcases aaf.mp hx with rfl | hx
   ·exact v3
   ·rw[aaN.mp hx];exact v4⟩
end
def fJ:HM->List Ev->Option HM
 | h,[]=>some h
 | h,e::r=>match h.bA e with
  | none=>fJ (h.bU e) r
  | some _=>none
theorem oT{e:Ev}(b:h.bA e=none):h.tell e=h.bU e:=by unfold HM.tell;rw[b]
theorem zj{e:Ev}{x:Str}(b:h.bA e=some x):h.tell e={ h with cause:=some x }:=by unfold HM.tell;rw[b]
theorem tG(h:HM)(e:Ev):(h.bU e).cause=h.cause:=by
 cases e with
 | fin b pl t=>show(HM.kE _ b t).cause=_;unfold HM.kE HM.dh;dsimp only;split<;>(try split)<;>rfl
 | kS b n v=>rfl
 | down b n c v=>rfl
 | kT b k=>rfl
theorem iT:∀{es:List Ev} {h h1:HM} {r:List Ev},h.cause=none->fJ h es=some h1->fg h (es++r)=fg h1 r/\h1.cause=none
 | [],h,h1,r,c,f=>by cases f;exact⟨rfl,c⟩
 | a::es,h,h1,r,c,f=>by
  have f':(match h.bA a with | none=>fJ (h.bU a) es | some _=>none)=some h1:=f;cases q:h.bA a with
  | some x=>rw[q]at f';cases f'
  | none =>
   rw[q]at f';have c1:(h.tell a).cause=none:=by rw[oT q,tG];exact c
   show(match (h.tell a).cause with | some x=>some ((h.tell a).events,x) | none=>fg (h.tell a) (es++r))=_/\_;rw[c1,oT q];exact iT (by rw[tG];exact c) f'
theorem kG{e:Ev}{x:Str}{r:List Ev}(b:h.bA e=some x):fg h (e::r)=some (h.events,x):=by
 show(match (h.tell e).cause with | some x=>some ((h.tell e).events,x) | none=>fg (h.tell e) r)=_;rw[zj b]
structure HS(rs:List Rw)(st:nF)(wd width base:Int)(n:Nat)(h:HM):Prop where
 rows:h.rows=rs
 dE:h.dE=[]
 rings:h.rings=[]
 wi:h.width=wd
 qu:1<=h.queue
 FD:h.st=stN rs st n
 be:h.aK=if n=0 then 0 else base+((n:Int) - 1) / width
 eo:h.iG=if n=0 then 0 else((n:Int) - 1) % width+1
 pr:h.bw=0
 ow:h.bW=[]
 la:h.laid=[]
 ca:h.cause=none
 en:h.ends=n
 ev:h.events=(gW rs st width base n).length
theorem tH(n w:Int)(hw:0 < w):(n / w=(n - 1) / w/\n % w=(n - 1) % w+1)\/(n / w=(n - 1) / w+1/\n % w=0):=by
 have h1:=acy (n - 1) w;have h2:=aa5 (n - 1) (show w≠0 by omega);have h3:=aaU (n - 1) hw
 by_cases h:(n - 1) % w+1 < w
 ·exact .inl ((Int.ediv_emod_unique hw).mpr ⟨by omega,by omega,h⟩)
 ·refine .inr ((Int.ediv_emod_unique hw).mpr ⟨?_,ab6 _,hw⟩);rw[Int.mul_add,Int.mul_one];omega
theorem tI:∀{es fs:List Ev} {h h1 h2:HM},fJ h es=some h1->fJ h1 fs=some h2->fJ h (es++fs)=some h2
 | [],_,h,h1,_,f,g=>by cases f;exact g
 | a::es,fs,h,h1,h2,f,g=>by
  have f':(match h.bA a with | none=>fJ (h.bU a) es | some _=>none)=some h1:=f;show(match h.bA a with | none=>fJ (h.bU a) (es++fs) | some _=>none)=some h2;cases q:h.bA a with
  | some x=>rw[q]at f';cases f'
  | none=>rw[q]at f';exact tI f' g
section
variable {st:nF}{wd width base:Int}
theorem Hg(r:HS rs st wd width base n h)(hw:0 < width)(hb:0<=base):h.aK<=base+(n:Int) / width/\h.endsAt (base+(n:Int) / width)=(n:Int) % width:=by
 unfold HM.endsAt;rw[r.be,r.eo]
 by_cases e:n=0
 ·subst e;rw[aau rfl,aau rfl];exact⟨by simp;exact hb,by split<;>simp⟩
 ·rw[aao e,aao e];rcases tH n width hw with⟨a,b⟩ | ⟨a,b⟩
  ·rw[a,b,aau rfl];exact⟨ab6 _,rfl⟩
  ·rw[a,b,aao (by omega)];exact⟨by omega,rfl⟩
theorem tJ(r:HS rs st wd width base n h)(b:Int):h.bu b=false:=by
 unfold HM.bu HM.iH mS ff;rw[r.rings];simp
theorem dY(r:HS rs st wd width base n h)(e:Ev):h.aK<=e.aK->h.bA e=(match e with
  | .fin b pl t=>h.dF b pl t
  | .kS _ n v=>h.mU n v
  | .down _ n c v=>h.ja n c v
  | .kT b k=>h.jb b k):=by
 intro he;unfold HM.bA;rw[aao (by omega),r.ow,aao (by simp)]
 all_goals (cases e<;>rfl)
theorem qQ(r:HS rs st wd width base n h){t:mO}(hp:(stN rs st n).place < rs.length)(he:h.endsAt b < wd)(lL:pl=(stN rs st n).place):h.dF b pl t=h.gO (rowOf rs (stN rs st n).place) t:=by
 have er:h.row=rowOf rs (stN rs st n).place:=by unfold HM.row;rw[r.rows,r.FD]
 unfold HM.dF;rw[tJ r,er,r.FD,r.rows,r.wi,r.ow,aao (by omega),aao (fun z=>z lL),aao (by omega),aao (by simp),aao (by simp)]
theorem jH(r:HS rs st wd width base n h)(t:mO):h.gO (rowOf rs (stN rs st n).place) t=(if t.kD≠mO.kD (gQ rs st n).told then some ("thing":Str) else
 match t with
 | none=>none
 | some (_,_,none)=>if mQ (rowOf rs (stN rs st n).place)=false then some ("owed":Str)else if h.room<=0 then some ("room":Str)else none
 | some (_,_,some v)=>if(gQ rs st n).map (·.2.2)≠some v then some ("worth":Str)else none):=by
 have q:=r.qu;unfold HM.gO gQ;rw[r.FD,r.ow,r.la]
 by_cases z:t.kD≠mO.kD ((rowOf rs (stN rs st n).place).wrote (stN rs st n).aY (stN rs st n).cells).told
 ·rw[aau z,aau z]
 ·rw[aao z,aao z];rcases t with _ | ⟨k,x,_ | v⟩
  ·rfl
  ·dsimp only[abP];rw[aao (c:=k = "cell"/\_) (by simp;omega)]
   all_goals rfl
  ·dsimp only[abP];rw[aao (c:=k = "cell"/\_) (by simp;omega)]
   all_goals rfl
theorem FE(gM:∀ r∈rs,eO rs.length r)(hs:vU rs)(ok:fZ rs.length st)(hk:st.kept=none)(hw:0 < width)(FF:width<=wd)(hb:0<=base)(r:HS rs st wd width base n h)(hn:st.place+(n:Nat) < rs.length):∃ h',fJ h (FA rs st width base n)=some h'/\HS rs st wd width base (n+1) h':=by
 obtain⟨vL,FC,X2⟩:=ke gM hs ok hk n (by omega);obtain⟨b1,b2⟩:=Hg r hw hb;have m1:=aaU (n:Int) hw;have er:h.row=rowOf rs (stN rs st n).place:=by unfold HM.row;rw[r.rows,r.FD]
 have bn:h.bA (.fin (base+(n:Int) / width) (st.place+n) (gQ rs st n).told)=none:=by
  rw[dY r (.fin (base+(n:Int) / width) (st.place+n) (gQ rs st n).told) b1];show h.dF _ _ _=none;rw[qQ r (by omega) (by omega) (by omega),jH r,aao (fun z=>z rfl)];rcases gQ rs st n with _ | ⟨k,x,v⟩
  ·rfl
  ·show(if _ then _ else _)=none;rw[aao (fun z=>z rfl)]
 have up:h.bU (.fin (base+(n:Int) / width) (st.place+n) (gQ rs st n).told)={ h with st:=stN rs st (n+1),laid:=(match gQ rs st n with | some (k,x,v)=>if k = "cell" then [((n:Int),x,v)]else [] | none=>[]),ends:=n+1,iG:=(n:Int) % width+1,aK:=base+(n:Int) / width,events:=h.events+1 }:=by
  show({ HM.kE _ (base+(n:Int) / width) _ with aK:=_,events:=_ }:HM)=_;unfold HM.kE;dsimp only[Ev.aK];rw[b2];simp only[show HM.bu { h with iG:=(n:Int) % width } (base+(n:Int) / width)=false from tJ r _];have e1:(HM.row { h with iG:=(n:Int) % width }).wrote h.st.aY h.st.cells=gQ rs st n:=by show h.row.wrote _ _=_;rw[er,r.FD];rfl
  have e2:gb (HM.row { h with iG:=(n:Int) % width }) h.st=stN rs st (n+1):=by show gb h.row h.st=_;rw[er,r.FD];rfl
  rw[e1,e2];have la:=r.la;have en:=r.en;have pr:=r.pr;rcases gQ rs st n with _ | ⟨k,x,v⟩
  ·unfold HM.dh;dsimp only;cases h
   simp_all
  ·unfold HM.dh;dsimp only[Option.map_some];split<;>(cases h;simp_all)
 have Lc:gW rs st width base (n+1)=gW rs st width base n++(.fin (base+(n:Int) / width) (st.place+n) (gQ rs st n).told::uc (base+(n:Int) / width) n (gQ rs st n)):=rfl;have Hh:(((n+1:Nat):Int) - 1)=n:=by omega
 have fe:∀ h1:HM,∀ r,fJ h1 []=some h1/\(h.bU (.fin (base+(n:Int) / width) (st.place+n) (gQ rs st n).told)=h1->fJ h (.fin (base+(n:Int) / width) (st.place+n) (gQ rs st n).told::r)=fJ h1 r):=fun h1 r=>⟨rfl,fun e=>by
  show(match h.bA _ with | none=>fJ (h.bU _) r | some _=>none)=_;rw[bn,e]⟩
 unfold FA;rw[(fe _ _).2 up];have tL:∀ la SF,la=[]->SF=((gW rs st width base (n+1)).length:Int)->HS rs st wd width base (n+1) { h with st:=stN rs st (n+1),laid:=la,ends:=n+1,iG:=(n:Int) % width+1,aK:=base+(n:Int) / width,events:=SF }:=fun la SF e1 e2=>⟨r.rows,r.dE,r.rings,r.wi,r.qu,rfl,by rw[aao (ac8 n),Hh],by rw[aao (ac8 n),Hh],r.pr,r.ow,e1,r.ca,by show(n:Int)+1=_;omega,e2⟩;have rev:=r.ev;rw[Lc]at tL;clear bn up fe Lc;generalize gQ rs st n=wr at tL ⊢;rcases wr with _ | ⟨k,x,v⟩
 ·exact⟨_,rfl,tL _ _ rfl (by rw[rev];simp[uc])⟩
 ·by_cases ek:k = "cell"
  ·dsimp only[uc];rw[aau ek,aau ek];refine⟨{ h with st:=stN rs st (n+1),laid:=[],ends:=n+1,iG:=(n:Int) % width+1,aK:=base+(n:Int) / width,events:=h.events+1+1 },?_,tL _ _ rfl (by rw[rev];simp[uc,ek];omega)⟩;show(match HM.bA _ _ with | none=>fJ (HM.bU _ _) [] | some _=>none)=_;have b3:HM.bA { h with st:=stN rs st (n+1),laid:=[((n:Int),x,v)],ends:=n+1,iG:=(n:Int) % width+1,aK:=base+(n:Int) / width,events:=h.events+1 } (.down (base+(n:Int) / width) n x v)=none:=by
    unfold HM.bA;rw[aao (by show ¬ (base+(n:Int) / width < base+(n:Int) / width);omega),r.ow,aao (by simp)];show HM.ja _ _ _ _=none;unfold HM.ja;simp
   rw[b3];show some (HM.bU _ _)=_;unfold HM.bU HM.endsAt;simp[Ev.aK]
  ·dsimp only[uc];rw[aao ek,aao ek];exact⟨_,rfl,tL _ _ rfl (by rw[rev];simp[uc,ek])⟩
theorem CL(gM:∀ r∈rs,eO rs.length r)(hs:vU rs)(ok:fZ rs.length st)(hk:st.kept=none)(hw:0 < width)(FF:width<=wd)(hb:0<=base)(h0:HS rs st wd width base 0 h):∀ n:Nat,st.place+(n:Nat)<=rs.length->∃ h',fJ h (gW rs st width base n)=some h'/\HS rs st wd width base n h'
 | 0,_=>⟨h,rfl,h0⟩
 | n+1,hn=>by
  obtain⟨h1,s1,s2⟩:=CL gM hs ok hk hw FF hb h0 n (by omega);obtain⟨h2,s3,s4⟩:=FE gM hs ok hk hw FF hb s2 (by omega);exact⟨h2,tI s1 s3,s4⟩
end
section
variable {st:nF}{wd width base:Int}
theorem zk{aO:Str}{e:Ev}{ahead:Int}(r:HS rs st wd width base n h)(hw:0 < width)(FF:width<=wd)(hb:0<=base)(FC:(stN rs st n).place=st.place+(n:Nat))(hn:st.place+(n:Nat) < rs.length)(ha:ahead=h.aK)(sp:nv aO (base+(n:Int) / width) (st.place+(n:Nat)) ahead (gQ rs st n) e)(hc:aO = "crowd"->wd=width/\n≠0/\(n:Int) % width=0)(ho:aO = "owed"->mQ (rowOf rs (stN rs st n).place)=false/\∃ d v,gQ rs st n=some (("spot":Str),d,v)):h.bA e=some aO:=by
 obtain⟨b1,b2⟩:=Hg r hw hb;have m1:=aaU (n:Int) hw;subst ha;rcases sp with⟨rfl,b',Ol,rfl⟩ | ⟨rfl,La,qZ,rfl⟩ | ⟨rfl,rfl⟩ | ⟨rfl,w',h1,h2,rfl⟩ | ⟨rfl,k,x,v,e,rfl⟩ | ⟨rfl,k,x,v,v',e,hv,rfl⟩
 ·unfold HM.bA;rw[aau (show(Ev.fin b' (st.place+(n:Nat)) (gQ rs st n).told).aK < h.aK from Ol)]
 ·rw[dY r (.fin (base+(n:Int) / width) La (gQ rs st n).told) b1];show h.dF _ _ _=_;unfold HM.dF;rw[r.FD,r.rows,aao (by omega),aau (by omega)]
 ·obtain⟨c1,c2,c3⟩:=hc rfl;rw[dY r (.fin h.aK (st.place+(n:Nat)) (gQ rs st n).told) (ab6 _)];show h.dF _ _ _=_;unfold HM.dF;rw[r.FD,r.rows,aao (by omega),aao (by simp;omega),aau];unfold HM.endsAt;rw[aau rfl,r.wi,r.eo,aao c2,c1];rcases tH n width hw with⟨a,b⟩ | ⟨a,b⟩
  ·have:=aa5 ((n:Int) - 1) (show width≠0 by omega);omega
  ·have u:=acy ((n:Int) - 1) width;have v:=acy (n:Int) width;rw[a,c3,Int.mul_add,Int.mul_one]at v;omega
 ·rw[dY r (.fin (base+(n:Int) / width) (st.place+(n:Nat)) w'.told) b1];show h.dF _ _ _=_;rw[qQ r (by omega) (by omega) (by omega),jH r,aau h2]
 ·obtain⟨o1,d,v2,o2⟩:=ho rfl;rw[o2]at e;cases e;rw[dY r (.fin (base+(n:Int) / width) (st.place+(n:Nat)) (some ("spot",x,none))) b1];show h.dF _ _ _=_;rw[qQ r (by omega) (by omega) (by omega),jH r,o2,aao (fun z=>z rfl)];show(if _ then _ else _)=_;rw[aau o1]
 ·rw[dY r (.fin (base+(n:Int) / width) (st.place+(n:Nat)) (some (k,x,some v'))) b1];show h.dF _ _ _=_;rw[qQ r (by omega) (by omega) (by omega),jH r,e,aao (fun z=>z rfl)];show(if _ then _ else _)=_;rw[aau (show Option.map (fun x:Str×Int×Int=>x.2.2) (some (k,x,v))≠some v' from fun z=>hv (aaF z).symm)]
theorem FG{t:mO}(r:HS rs st wd width base n h)(hp:(stN rs st n).place=rs.length)(hb:h.aK<=b):h.bA (.fin b pl t)=some ("rest":Str):=by
 rw[dY r (.fin b pl t) hb];show h.dF _ _ _=_;unfold HM.dF;rw[r.FD,r.rows,aau hp]
theorem qR(hw:0 < width):∀{n:Nat},n≠0->∃ l e,gW rs st width base n=l++[e]/\e.aK=base+((n:Int) - 1) / width
 | n+1,_=>by
  have ec:(((n+1:Nat):Int) - 1)=n:=by omega
  rw[ec];show ∃ l e,gW rs st width base n++FA rs st width base n=l++[e]/\_;unfold FA;rcases gQ rs st n with _ | ⟨k,x,v⟩
  ·exact⟨_,_,rfl,rfl⟩
  ·dsimp only[uc];split
   ·exact⟨gW rs st width base n++[_],_,by rw[abO];rfl,rfl⟩
   ·exact⟨_,_,rfl,rfl⟩
theorem Hi(gM:∀ r∈rs,eO rs.length r)(hs:vU rs)(ok:fZ rs.length st)(hk:st.kept=none):∀ n:Nat,st.place+(n:Nat)<=rs.length->(∀ e∈gW rs st width base n,qE e)
 | 0,_,e,he=>by cases he
 | n+1,hn,e,he=>by
  rcases aaZ.mp he with m | m
  ·exact Hi gM hs ok hk n (by omega) e m
  ·obtain⟨vL,FC,_⟩:=ke gM hs ok hk n (by omega);have hw:=iF (vV gM (p:=(stN rs st n).place) vL.p0 (by omega)).2 vL.sw vL.cw;have tg:=vE hw;rcases aaf.mp m with rfl | m
   ·exact tg
   ·revert m
    show e∈uc _ _ (gQ rs st n)->_;rcases gQ rs st n with _ | ⟨k,x,v⟩
    ·intro m;cases m
    ·dsimp only[uc];split
     ·intro m;rw[aaN.mp m];trivial
     ·intro m;cases m
theorem OI:∀{N n:Nat},n < N->(ud rs st width base N)[n]?=some ((gW rs st width base n).length:Int)/\(ud rs st width base N).length=N/\∃ r,gW rs st width base N=gW rs st width base n++(.fin (base+(n:Int) / width) (st.place+n) (gQ rs st n).told::r):=by
 have len:∀ N,(ud rs st width base N).length=N:=fun N=>by
  induction N with
  | zero=>rfl
  | succ N ih=>show(ud rs st width base N++[_]).length=_;rw[aaB,ih];rfl
 intro N;induction N with
 | zero=>intro n h;omega
 | succ N ih =>
  intro n h;refine⟨?_,len _,?_⟩
  ·show(ud rs st width base N++[_])[n]?=_
   by_cases e:n < N
   ·rw[acb (by rw[len];exact e)];exact(ih e).1
   ·obtain rfl:n=N:=by omega
    rw[abh (by rw[len];omega),len,acw];rfl
  ·by_cases e:n < N
   ·obtain⟨r,hr⟩:=(ih e).2.2;exact⟨r++FA rs st width base N,by show gW rs st width base N++_=_;rw[hr,abO];rfl⟩
   ·obtain rfl:n=N:=by omega
    exact⟨_,rfl⟩
end
section
variable {a b c d e g h i j:ju}{ρ:bD}{nx bk ct:bD->Wd->Prop}{rt:DV->Wd->Prop}
theorem OJ(N:bD->Wd->Prop)(h1:∀ k:bD->Wd->Prop,(∀ ρ W,N ρ W->k ρ W)->cm a (cm b (cm c d)) ⟨k,rt,bk,ct⟩ ρ W)(h2:∀ ρ W,N ρ W->e ⟨nx,rt,bk,ct⟩ ρ W):cm a (cm b (cm c (cm d e))) ⟨nx,rt,bk,ct⟩ ρ W:=h1 _ h2
theorem OK(N:bD->Wd->Prop)(h1:∀ k:bD->Wd->Prop,(∀ ρ W,N ρ W->k ρ W)->cm a (cm b (cm c (cm d (cm e g)))) ⟨k,rt,bk,ct⟩ ρ W)(h2:∀ ρ W,N ρ W->h ⟨nx,rt,bk,ct⟩ ρ W):cm a (cm b (cm c (cm d (cm e (cm g h))))) ⟨nx,rt,bk,ct⟩ ρ W:=h1 _ h2
theorem OL(N:bD->Wd->Prop)(h1:∀ k:bD->Wd->Prop,(∀ ρ W,N ρ W->k ρ W)->cm a (cm b (cm c (cm d (cm e (cm g (cm h i)))))) ⟨k,rt,bk,ct⟩ ρ W)(h2:∀ ρ W,N ρ W->j ⟨nx,rt,bk,ct⟩ ρ W):cm a (cm b (cm c (cm d (cm e (cm g (cm h (cm i j))))))) ⟨nx,rt,bk,ct⟩ ρ W:=h1 _ h2
end
abbrev kY:Stmt:=top 50
theorem cR:ay ["script", "bag", "spoil", "many", "first", "ends", "at", "width", "kinds", "rows", "state", "base", "diary", "seats", "numbers", "terms", "mill", "index", "ahead"] ["script"] (defScope kY):=by ac_rfl
theorem FH{r:Rw}(h:r.d?.isSome=true)(sp ce:wn):∃ d v,r.wrote sp ce=some (("spot":Str),d,v):=by
 cases r with
 | put d v=>exact⟨_,_,rfl⟩
 | op x d a b=>exact⟨_,_,rfl⟩
 | mv x d a n =>
  unfold Rw.d? at h;dsimp only at h;split at h
  ·cases h
  ·rename_i c;exact⟨d,_,by unfold Rw.wrote;exact aao c⟩
 | go a p=>cases h
 | one x=>cases h
theorem zl{aO:Str}{ahead:Int}{w:jK}{e:Ev}(hw:kB w)(h:nv aO b pl ahead w e):qE e:=by
 have tg:=vE hw;rcases h with⟨_,_,_,rfl⟩ | ⟨_,_,_,rfl⟩ | ⟨_,rfl⟩ | ⟨_,w',h1,_,rfl⟩ | ⟨_,k,x,v,rfl,rfl⟩ | ⟨_,k,x,v,v',rfl,_,rfl⟩
 ·exact tg
 ·exact tg
 ·exact tg
 ·exact h1
 ·exact fun _ _ e=>by cases e;exact .inl rfl
 ·exact fun k' x' e=>by cases e;exact tg k x rfl
section
variable {K:zn}
theorem KI{f5 f6 f7 f8 f9 g1:Addr}{d5 d6 d7 d8 d9 e1:v6}(F:cA K "law" "law" kY f fd)(zm:Dn P w K mg base 1 "_law_bag" f1 d1 ["script"] (EF K (cJ Bg)))(aq:Dn P w K mg base 1 "_law_draw" f2 d2 ["bag", "many"] (spT (cJ Bg) iA))(dX:Dn P w K mg base 2 "_law_far" f3 d3 ["bag"] (spT (cJ Bg) EZ))(zo:Dn P w K mg base 3 "_law_row" f4 d4 ["bag", "place", "many"] (spT (cJ Bg) OG))(tM:Dn P w K mg base 3 "_law_state" f5 d5 ["bag", "first"] (spT (cJ Bg) CC))(tN:Dn P w K mg base 2 "_law_diary" f6 d6 ["rows", "state", "width", "base"] (dq K CJ))(kI:Dn P w K mg base 10 "_law_asked" f7 d7 ["mill", "state", "terms", "diary", "due"] (dm CG))(ny:Dn P w K mg base 3 "_law_end_more" f8 d8 ["bag", "beat", "many", "first"] (spT (cJ Bg) Hf))(qT:Dn P w K mg base 4 "_law_spoilt" f9 d9 ["bag", "spoil", "event", "ahead"] (spT (cJ Bg) xM))(cH:mg "range"=none)(eB:mg "tuple"=none)(bL:mg "len"=none)(CM:mg "min"=none)(gz:mg "int"=none):aW P w K mg base cI 11 f fd ["script"] (uY K):=by
 exact_mod_cast F.Ni cR (ei (Iv:=Bg));refine⟨_,(ae (aC 1 cR.nd (au zm hr (aa (ah 0) ag)))
  (ae (aC 2 cR.nd (aj (bM (cM rfl)) (au aq hr (aa (ah 1) (aa af ag)))))
  (ae (aC 3 cR.nd (aQ a8 af (au aq hr (aa (ah 1) (aa af ag)))))
  (ae (aC 4 cR.nd (au aq hr (aa (ah 1) (aa (aQ cu (ah 3) af) ag))))
  (ae (aC 5 cR.nd (aQ cu (ah 3) (ah 4)))
  (ae (aC 6 cR.nd (au aq hr (aa (ah 1) (aa (ah 5) ag))))
  (ae (aC 7 cR.nd (aQ a8 af (au aq hr (aa (ah 1) (aa (aj (bM (aa (cE (yt rfl) CM PyProof.Rows.boot_min (aa af (aa (aQ cu (ah 5) af) ag))) (aa (aQ cu (ah 5) af) ag))) (au aq hr (aa (ah 1) (aa af ag)))) ag)))))
  (ae (aU (aF (aB hu) (ah 2) aE) (ai (aC 6 cR.nd (aQ gf (ah 7) (aQ a8 af (aQ cW (ah 6) (aQ jk (aQ cu (ah 5) af) (ah 7))))))) az)
  (ae (aC 8 cR.nd (aQ IG (bM (aa af ag)) (ah 3)))
  (ae (aU (qW (w_or (aF (aB hu) (ah 2) aE) (rX (aF (aB hu) (ah 2) aE)))) (ai (jo (aj (bM (cM rfl)) (cO iN gz abF (aa (gw (aB hu) (ah 2) aE) ag))) (om (ah 8) (aQ a8 (ah 4) (ah 6)) set_list))) az)
  (ae (uM 9 (N':=["place", "bag", "kinds"]) (ix:=[none,some 1,some 8]) ⟨rfl,rfl,rfl,rfl,rfl,rfl⟩ cR.nd (gu cH (aa (ah 3) ag)) (fun _ _ _ _=>(a9 0 (show List.Nodup (["place", "bag", "kinds"]:ww) by decide +kernel))) (fun _ _ _ _=>jS) (fun _ _ _ _=>(au zo hr (aa (ah 1) (aa (ah 0) (aa (aj (ah 2) (ah 0)) ag))))))
  (ae (aC 10 cR.nd (au tM hr (aa (ah 1) (aa (ah 4) ag))))
  (ae (aC 11 cR.nd (aj (bM (aa af (aa (au aq hr (aa (ah 1) (aa af ag))) (aa (au dX hr (aa (ah 1) ag)) ag)))) (au aq hr (aa (ah 1) (aa af ag)))))
  (ae (jo (au tN hr (aa (ah 9) (aa (ah 10) (aa (ah 7) (aa (ah 11) ag))))) (gK (n:=2) (bh (a9 12 cR.nd) (bh (a9 13 cR.nd) gD))))
  (ae (aU (qW (w_and (aF (eT hu) (ah 2) aE) (dP (aF (aB hu) (au aq hr (aa (ah 1) (aa af ag))) af)))) (ai (aC 7 cR.nd (aQ a8 (ah 7) (au dX hr (aa (ah 1) ag))))) az)
  (ae (uM 14 (N':=["k", "bag"]) (ix:=[none,some 1]) ⟨rfl,rfl,rfl,rfl,rfl,rfl⟩ cR.nd (gu cH (aa af ag)) (fun _ _ _ _=>(a9 0 (show List.Nodup (["k", "bag"]:ww) by decide +kernel))) (fun _ _ _ _=>jS) (fun _ _ _ _=>(aj (bM (aa af (aa (au aq hr (aa (ah 1) (aa af ag))) (aa (au dX hr (aa (ah 1) ag)) ag)))) (au aq hr (aa (ah 1) (aa af ag))))))
  (ae (aC 15 cR.nd (bg (aa (ah 7) (aa (aj (ah 14) af) (aa (aQ a8 af (aj (ah 14) af)) (aa (aj (ah 14) af) (aa (aj (ah 14) af) ag)))))))
  (ae (aC 16 cR.nd (bg (aa (cO jT eB abS (aa (ah 9) ag)) (aa (bg ag) ag))))
  (ae (aU (ku (pv (au kI hr (aa (ah 16) (aa (ah 10) (aa (ah 15) (aa (ah 12) (aa dJ ag)))))))) (ai (ax rW)) az)
  (ae (aU (aF (aB hu) (ah 2) aE) (ai (ax rW)) az)
  (ae (aC 17 cR.nd (aj (ah 13) (ah 6)))
  (ae (aU (aF (aB hu) (ah 2) aE) (ae (aC 17 cR.nd (cE bZ bL aba (aa (ah 12) ag)))
   (ai (dO (kO aaC aaR aaS cS (ah 12) (aa (au ny hr (aa (ah 1) (aa (aj (aj (ah 12) (Mv zZ af)) af) (aa (ah 3) (aa (ah 4) ag))))) ag))))) (ae (aC 18 cR.nd af)
   (ae (aU (aF Ab (ah 17) af) (ai (aC 18 cR.nd (aj (aj (ah 12) (aQ cu (ah 17) af)) af))) az)
   (ai (jo (au qT hr (aa (ah 1) (aa (ah 2) (aa (aj (ah 12) (ah 17)) (aa (ah 18) ag))))) (om (ah 12) (ah 17) set_list))))))
  (ai (ax (au kI hr (aa (ah 16) (aa (ah 10) (aa (ah 15) (aa (ah 12) (aa (bg (aa (ah 17) (aa (ah 2) ag))) ag)))))))))))))))))))))))))))))),?_⟩
 clear hu;symm;refine⟨_,inferInstance,fun ns EC=>?_⟩;refine cG [_,none,none,none,none,none,none,none,none,none,none,none,none,none,none,none,none,none,none] rfl ?_;refine OL (fun ρ W=>∃(t g:Addr) (k:Nat) (aO:Str) (m fi jc c9:Int),(aO = "none"\/aO = "rest"\/(aO = "beat"\/aO = "place"\/aO = "crowd"\/aO = "thing"\/aO = "owed"\/aO = "worth"))/\2<=m/\m<=12/\0<=fi/\fi<=m - 2/\(1<=c9/\c9<=m - fi - 1)/\0<=jc/\jc < m - fi/\(aO = "crowd"->jc≠0/\jc % c9=0)/\W t=some (.aM g k)/\k<=10/\ρ=[some (.iO ns),some (.pt t),some (.im (.str aO)),some (.im (.int m)),some (.im (.int fi)),some (.im (.int (m - fi))),some (.im (.int jc)),some (.im (.int c9)),none,none,none,none,none,none,none,none,none,none,none]) (fun kk jn=>?_) ?_
 ·sizeOf_list_dec
  refine⟨ns,rfl,EC,fun a z=>z,fun t g ht hg gt=>?_⟩;have wt:aG (aG W0 g .part) t (.aM g 0) t=some (.aM g 0):=ar;generalize aG (aG W0 g .part) t (.aM g 0)=W1 at wt
  sizeOf_list_dec
  refine cg (ds:=[.str "none",.str "beat",.str "rest",.str "place",.str "crowd",.str "thing",.str "owed",.str "worth"]) (by show 8<=sizeLine;decide) ?_
  sizeOf_list_dec
  refine aX wt (by omega) (by decide) (by decide) fun FI W2 s0 s1 oS _=>?_;clear wt;obtain⟨aO,hs,PR⟩:∃ x:Str,gX [PyData.str "none",.str "beat",.str "rest",.str "place",.str "crowd",.str "thing",.str "owed",.str "worth"] FI=some (.str x)/\(x = "none"\/x = "rest"\/(x = "beat"\/x = "place"\/x = "crowd"\/x = "thing"\/x = "owed"\/x = "worth")):=by
   obtain rfl | rfl | rfl | rfl | rfl | rfl | rfl | rfl:FI=0\/FI=1\/FI=2\/FI=3\/FI=4\/FI=5\/FI=6\/FI=7:=by omega
   all_goals exact⟨_,rfl,by simp⟩
  refine cV hs ?_
  sizeOf_list_dec
  refine aX oS (by omega) (by decide) (by decide) fun m0 W3 m1 m2 Di _=>?_;clear oS;obtain⟨m,rfl⟩:∃ m,m0=m - 2:=⟨m0+2,by omega⟩
  sizeOf_list_dec
  rw[show(2:Int)+(m - 2)=m by omega];refine aX Di (by omega) (by omega) (by omega) fun fi W4 PU X4 PM _=>?_;clear Di
  sizeOf_list_dec
  refine aX PM (by omega) (by omega) (by omega) fun jc W5 at1 at2 PN _=>?_;clear PM
  sizeOf_list_dec
  obtain⟨mi,SH⟩:∃ mi,mi=(if m - fi - 1 < 4 then m - fi - 1 else 4):=⟨_,rfl⟩;have SJ:1<=mi/\mi<=m - fi - 1:=by rw[SH];split<;>omega
  rw[<- SH];clear SH;refine cg (ds:=[mi,m - fi - 1].map PyData.int) (by show 2<=sizeLine;decide) ?_
  sizeOf_list_dec
  refine aX PN (by omega) (by omega) (by omega) fun c W6 c0 c1 PQ _=>?_;clear PN;refine fY c0 (by simpa using c1) fun y hy=>?_;have hy:1<=y/\y<=m - fi - 1:=by simp at hy;omega
  sizeOf_list_dec
  refine aX PQ (by omega) (by omega) (by omega) fun Vm W7 X5 X6 KJ _=>?_;clear PQ;obtain⟨c9,rfl⟩:∃ w,Vm=w - 1:=⟨Vm+1,by omega⟩
  sizeOf_list_dec
  rw[show(1:Int)+(c9 - 1)=c9 by omega];have FF:1<=c9/\c9<=m - fi - 1:=by omega
  clear hy SJ X5 X6;have hq:0 < (m - fi - 1) / c9:=by
   have:=Int.le_ediv_of_mul_le (a:=1) (b:=m - fi - 1) (c:=c9) (by omega) (by omega);omega
  sizeOf_list_dec
  refine gR (fun z=>?_) (fun z=>?_)
  ·sizeOf_list_dec
   have e1:=aa5 jc (show(m - fi - 1) / c9≠0 by omega);have e2:=aaU jc hq;have e3:c9 * (1+jc % ((m - fi - 1) / c9))<=c9 * ((m - fi - 1) / c9):=acB (by omega) (by omega);have e4:=Int.mul_ediv_self_le (x:=m - fi - 1) (k:=c9) (by omega);have e5:c9 * 1<=c9 * (1+jc % ((m - fi - 1) / c9)):=acB (by omega) (by omega);exact jn _ _ ⟨t,g,_,aO,m,fi,c9 * (1+jc % ((m - fi - 1) / c9)),c9,PR,by omega,by omega,PU,by omega,FF,by omega,by omega,fun _=>⟨by omega,Int.mul_emod_right ..⟩,KJ,by omega,rfl⟩
  ·sizeOf_list_dec
   exact jn _ _ ⟨t,g,_,aO,m,fi,jc,c9,PR,by omega,by omega,PU,by omega,FF,by omega,by omega,fun c=>absurd c z,KJ,by omega,rfl⟩
 clear EC;rintro ρ W7 ⟨t,g,k7,aO,m,fi,jc,c9,PR,m1,m2,PU,X4,FF,a0,a1,Vn,KJ,hk7,rfl⟩;refine OK (fun ρ W=>∃(rs:List Rw) (ks sp ce:wn) (sb:Bool) (bt:Int) (l1 l2 q:Addr) (k N:Nat),m=rs.length/\(∀(j:Nat) r,rs[j]?=some r->eO rs.length r/\Fu j r/\∀ c,ks[j]?=some c->vS c r)/\(aO = "owed"->ks[(fi+jc).toNat]?=some 3)/\(aO = "worth"->ks[(fi+jc).toNat]?=some 6)/\fZ rs.length ⟨fi,sp,ce,sb,none⟩/\0<=bt/\fi+(N:Int)=rs.length/\W t=some (.aM g k)/\k<=600/\W l1=some (.lst (((gW rs ⟨fi,sp,ce,sb,none⟩ c9 bt N).map eC).map .im))/\W l2=some (.lst (((ud rs ⟨fi,sp,ce,sb,none⟩ c9 bt N).map PyData.int).map .im))/\l1≠l2/\l1≠t/\l2≠t/\ρ=[some (.iO ns),some (.pt t),some (.im (.str aO)),some (.im (.int (rs.length:Nat))),some (.im (.int fi)),some (.im (.int ((rs.length:Nat) - fi))),some (.im (.int jc)),some (.im (.int c9)),some (.pt q),some (.im (.list (rs.map cC))),some (.im (dQ ⟨fi,sp,ce,sb,none⟩)),some (.im (.int bt)),some (.pt l1),some (.pt l2),none,none,none,none,none]) (fun kk jn=>?_) ?_
 ·sizeOf_list_dec
  refine cg (ds:=[.int 10]) (by show 1<=sizeLine;decide) ?_
  sizeOf_list_dec
  refine NS (vs:=[.im (.int 10)]) (by rfl) (by omega) (by omega) (by show 1 * m.toNat<=sizeLine;exact aaL (bR (by omega))) ?_;rw[show(List.replicate m.toNat [DV.im (.int 10)]).flatten=((List.replicate m.toNat (10:Int)).map PyData.int).map .im by simp];refine ky fun q W8 SM SN Vo=>?_;have qt:q≠t:=fun z=>by rw[z,KJ]at SM;cases SM
  have Vp:=Vo.at (acj qt) KJ;clear Vo SM KJ;have SQ:0<=fi+jc/\fi+jc < m:=by omega
  refine iy (fun ρ W=>∃(ks:wn),ks.length=m.toNat/\(∀ z∈ks,1<=z/\z<=10)/\(aO = "owed"->ks[(fi+jc).toNat]?=some 3)/\(aO = "worth"->ks[(fi+jc).toNat]?=some 6)/\W t=W8 t/\W q=some (.lst ((ks.map PyData.int).map .im))/\ρ=[some (.iO ns),some (.pt t),some (.im (.str aO)),some (.im (.int m)),some (.im (.int fi)),some (.im (.int (m - fi))),some (.im (.int jc)),some (.im (.int c9)),some (.pt q),none,none,none,none,none,none,none,none,none,none]) (fun kk jn=>?_) ?_
  ·have Pj:∀ z∈List.replicate m.toNat (10:Int),1<=z/\z<=10:=fun z hz=>by rw[(List.mem_replicate.mp hz).2];decide
   have KL:∀ v:Int,(1<=v/\v<=10)->(∀ z∈(List.replicate m.toNat (10:Int)).set (fi+jc).toNat v,1<=z/\z<=10)/\((List.replicate m.toNat (10:Int)).set (fi+jc).toNat v)[(fi+jc).toNat]?=some v:=fun v hv=>⟨fun z hz=>by
     rcases acd hz with c | c
     ·exact Pj z c
     ·rw[c];exact hv,abU (by simp;omega)⟩
   have n1:¬ ("owed":Str) = "worth":=by decide
   have n2:¬ ("worth":Str) = "owed":=by decide
   have put:∀ v,(1<=v/\v<=10)->(aO = "owed"->v=3)->(aO = "worth"->v=6)->se (.pt q) (.im (.int (fi+jc))) (.im (.int v)) W8 (fun W'=>kk [some (.iO ns),some (.pt t),some (.im (.str aO)),some (.im (.int m)),some (.im (.int fi)),some (.im (.int (m - fi))),some (.im (.int jc)),some (.im (.int c9)),some (.pt q),none,none,none,none,none,none,none,none,none,none] W'):=fun v hv h3 h6 =>
    u4 SN (j:=(fi+jc).toNat) (mn SQ.1 (by simp;omega)) fun W9 w9 f9=>jn _ _ ⟨(List.replicate m.toNat (10:Int)).set (fi+jc).toNat v,by simp,(KL v hv).1,fun z=>by rw[(KL v hv).2,h3 z],fun z=>by rw[(KL v hv).2,h6 z],f9 t (acj qt),by rw[w9,ab3,ab3],rfl⟩
   sizeOf_list_dec
   refine gR (fun z=>?_) (fun z=>?_)
   ·sizeOf_list_dec
    refine cg (ds:=[3,6].map PyData.int) (by show 2<=sizeLine;decide) ?_
    sizeOf_list_dec
    rw[aao (by rw[z];simpa using n1)];refine cV (D:=.int 3) rfl ?_
    sizeOf_list_dec
    exact put 3 (by decide) (fun _=>rfl) (fun c=>absurd (z.symm.trans c) n1)
   ·sizeOf_list_dec
    refine gR (fun z2=>?_) (fun z2=>?_)
    ·sizeOf_list_dec
     refine cg (ds:=[3,6].map PyData.int) (by show 2<=sizeLine;decide) ?_
     sizeOf_list_dec
     rw[aau (by rw[z2];simp)];refine cV (D:=.int 6) rfl ?_
     sizeOf_list_dec
     exact put 6 (by decide) (fun c=>absurd c z) (fun _=>rfl)
    ·sizeOf_list_dec
     exact jn _ _ ⟨_,by simp,Pj,fun c=>absurd c z,fun c=>absurd c z2,rfl,SN,rfl⟩
  clear SN;rintro ρ W9 ⟨ks,hkl,X7,SR,SU,SV,Vq,rfl⟩;rw[Vp]at SV
  sizeOf_list_dec
  refine lr (fun i ys W=>∃(rs:List Rw) (k:Nat),ys=(rs.map cC).map .im/\rs.length=i/\(∀(j:Nat) r,rs[j]?=some r->eO m r/\Fu j r/\∀ c,ks[j]?=some c->vS c r)/\W t=some (.aM g k)/\k<=20+8 * i/\W q=some (.lst ((ks.map PyData.int).map .im))) (aaL (bR (by omega))) ⟨[],_,rfl,rfl,(fun j r hj=>by cases hj),SV,by omega,Vq⟩ ?_ ?_
  ·rintro i ys W hi _ ⟨rs,k,rfl,hl,hb,wt,hk,wq⟩;have Vr:i < ks.length:=by omega
   have ec:ks[i]?=some ks[i]:=aak Vr;have hc:=X7 _ (aa8 Vr);generalize ks[i]=c at ec hc;rw[Int.zero_add]
   sizeOf_list_dec
   refine dM (v:=.im (.int c)) wq (bB (by rw[aag,aag,ec];rfl)) ?_
   sizeOf_list_dec
   refine cv (ds:=[.int (i:Nat),.int c]) wt ⟨_,c,m,rfl,by omega,by omega,hc.1,hc.2,by omega,fun r n' gM str X8 C1=>bV ?_⟩;refine⟨rs++[r],_,by simp,by simp[hl],fun j r' hj=>?_,ar,by omega,(aA qt).trans wq⟩
   by_cases ej:j < rs.length
   ·rw[acb ej]at hj;exact hb j r' hj
   ·rw[abh (by omega)]at hj;have X9:j - rs.length=0:=by
     cases h0:j - rs.length with
     | zero=>rfl
     | succ x=>rw[h0]at hj;cases hj
    rw[X9]at hj;cases hj;obtain rfl:j=i:=by omega
    exact⟨gM,str,fun c' e'=>by rw[ec]at e';cases e';exact X8⟩
  clear SV Vq Vp;rintro ys Ss ⟨rs,Sw,rfl,Vh,Hj,CN,Yb,_⟩;refine iz ?_;obtain rfl:m=rs.length:=by omega
  have gM:∀ r∈rs,eO rs.length r:=fun r hr=>by
   obtain⟨j,hj⟩:=acD hr;exact(Hj j r hj).1
  have rowAt:∀ i:Nat,i < rs.length->rs[i]?=some (rowOf rs i):=fun i hi=>by
   unfold rowOf;rw[aaE,aay,aak hi];rfl
  have nH:vU rs:=fun i hi=>(Hj i _ (rowAt i hi)).2.1
  sizeOf_list_dec
  refine cv (ds:=[.int fi]) CN ⟨fi,rfl,by omega,fun sp ce sb SX h8 OH C6 Sy Yc=>bV ?_⟩;replace CN:aG Ss t (.aM g SX) t=some (.aM g SX):=ar;generalize aG Ss t (.aM g SX)=XW at CN;have mJ:fZ rs.length ⟨fi,sp,ce,sb,none⟩:=⟨PU,by show fi<=(rs.length:Int);omega,h8,C6,OH,Sy,fun _ e=>by cases e⟩
  sizeOf_list_dec
  refine aX CN (by omega) (by omega) (by omega) fun ba Su ba0 _ CO _=>?_;clear CN
  sizeOf_list_dec
  refine cv (ds:=[]) CO ⟨rfl,by omega,fun fa SY fa0 Yd=>bV ?_⟩;replace CO:aG Su t (.aM g SY) t=some (.aM g SY):=ar;generalize aG Su t (.aM g SY)=XX at CO
  sizeOf_list_dec
  refine cg (ds:=[0,ba,fa].map PyData.int) (by show 3<=sizeLine;decide) ?_
  sizeOf_list_dec
  refine aX CO (by omega) (by decide) (by decide) fun bi XY Ye Yg OM _=>?_;clear CO;refine fY Ye (by simpa using Yg) fun bt Lj=>?_;have Lj:0<=bt:=by simp at Lj;omega
  sizeOf_list_dec
  obtain⟨N,hN⟩:=abq (show 0<=(rs.length:Int) - fi by omega);refine bE (L:=[]) ⟨by simp,fun _ h=>by cases h⟩ rfl fun W1 R' g1 g=>⟨rs,⟨fi,sp,ce,sb,none⟩,c9,bt,N,rfl,gM,nH,mJ,rfl,FF.1,by omega,by omega,by show fi+(N:Int)=_;omega,fun l1 l2 W' h'=>g _ _ fun Lf tt fr=>?_⟩;have hA:=tt _ h' rfl;have tO:=fr t _ (by simp) OM;have v1:Lf l1=some (.lst (((gW rs ⟨fi,sp,ce,sb,none⟩ c9 bt N).map eC).map .im)):=hA.get 0 rfl;have v2:Lf l2=some (.lst (((ud rs ⟨fi,sp,ce,sb,none⟩ c9 bt N).map PyData.int).map .im)):=hA.get 1 rfl;have Vs:l1≠l2:=by have:=hA.nd;simpa using this
  have Dj:l1≠t:=fun z=>by rw[z,tO]at v1;cases v1
  have Hk:l2≠t:=fun z=>by rw[z,tO]at v2;cases v2
  clear fr tt h' g g1 hA OM
  sizeOf_list_dec
  refine⟨[.pt l1,.pt l2],rfl,rfl,?_⟩
  sizeOf_list_dec
  exact jn _ _ ⟨rs,ks,sp,ce,sb,bt,l1,l2,q,_,N,rfl,Hj,SR,SU,mJ,Lj,by omega,tO,by omega,v1,v2,Vs,Dj,Hk,rfl⟩
 clear KJ;rintro ρ Lf ⟨rs,ks,sp,ce,sb,bt,l1,l2,q,Vt,N,rfl,Hj,SR,SU,mJ,Lj,hfi,tO,Yh,v1,v2,Vs,Dj,Hk,rfl⟩;have gM:∀ r∈rs,eO rs.length r:=fun r hr=>by
  obtain⟨j,hj⟩:=acD hr;exact(Hj j r hj).1
 have rowAt:∀ i:Nat,i < rs.length->rs[i]?=some (rowOf rs i):=fun i hi=>by
  unfold rowOf;rw[aaE,aay,aak hi];rfl
 have nH:vU rs:=fun i hi=>(Hj i _ (rowAt i hi)).2.1;refine OJ (fun ρ W=>∃(wd n0 n1 n2 n3:Int) (k:Nat),c9<=wd/\(aO = "crowd"->wd=c9)/\0<=n1/\W t=some (.aM g k)/\k<=1000/\W l1=some (.lst (((gW rs ⟨fi,sp,ce,sb,none⟩ c9 bt N).map eC).map .im))/\W l2=some (.lst (((ud rs ⟨fi,sp,ce,sb,none⟩ c9 bt N).map PyData.int).map .im))/\ρ=[some (.iO ns),some (.pt t),some (.im (.str aO)),some (.im (.int (rs.length:Nat))),some (.im (.int fi)),some (.im (.int ((rs.length:Nat) - fi))),some (.im (.int jc)),some (.im (.int wd)),some (.pt q),some (.im (.list (rs.map cC))),some (.im (dQ ⟨fi,sp,ce,sb,none⟩)),some (.im (.int bt)),some (.pt l1),some (.pt l2),some (.im (.list ([n0,n1,n2,n3].map .int))),some (.im (nr ⟨wd,n0,1+n1,n2,n3⟩)),some (.im (c7 rs [])),none,none]) (fun kk jn=>?_) ?_
 ·refine iy (fun ρ W=>∃(wd:Int) (k:Nat),c9<=wd/\(aO = "crowd"->wd=c9)/\W t=some (.aM g k)/\k<=900/\W l1=Lf l1/\W l2=Lf l2/\ρ=[some (.iO ns),some (.pt t),some (.im (.str aO)),some (.im (.int (rs.length:Nat))),some (.im (.int fi)),some (.im (.int ((rs.length:Nat) - fi))),some (.im (.int jc)),some (.im (.int wd)),some (.pt q),some (.im (.list (rs.map cC))),some (.im (dQ ⟨fi,sp,ce,sb,none⟩)),some (.im (.int bt)),some (.pt l1),some (.pt l2),none,none,none,none,none]) (fun kk jn=>?_) ?_
  ·sizeOf_list_dec
   refine En (fun z=>?_) (fun z=>?_)
   ·sizeOf_list_dec
    refine aX tO (by omega) (by omega) (by omega) fun x3 Lg _ _ CP Lk=>?_
    sizeOf_list_dec
    refine gR (fun z2=>?_) (fun z2=>?_)
    ·sizeOf_list_dec
     refine cv (ds:=[]) CP ⟨rfl,by omega,fun fb n17 fb0 Yi=>bV ?_⟩
     sizeOf_list_dec
     exact jn _ _ ⟨c9+fb,_,by omega,fun c=>absurd c z,ar,by omega,(aA Dj).trans (Lk _ Dj),(aA Hk).trans (Lk _ Hk),rfl⟩
    ·sizeOf_list_dec
     exact jn _ _ ⟨c9,_,ab6 _,fun _=>rfl,CP,by omega,Lk _ Dj,Lk _ Hk,rfl⟩
   ·exact jn _ _ ⟨c9,_,ab6 _,fun _=>rfl,tO,by omega,rfl,rfl,rfl⟩
  rintro ρ Lg ⟨wd,Vu,FJ,KN,CP,Yj,u1,u2,rfl⟩;rw[v1]at u1;rw[v2]at u2;clear v1 v2 tO
  sizeOf_list_dec
  refine lr (fun i ys W=>∃(us:wn) (k:Nat),ys=(us.map PyData.int).map .im/\us.length=i/\(∀ z∈us,0<=z)/\W t=some (.aM g k)/\k<=900+9 * i/\W l1=Lg l1/\W l2=Lg l2) (aaL (bR (by omega))) ⟨[],_,rfl,rfl,(fun b hb=>by cases hb),CP,by omega,rfl,rfl⟩ ?_ ?_
  ·rintro i ys W hi _ ⟨us,k,rfl,hl,hb,wt,hk,x1,x2⟩
   sizeOf_list_dec
   refine aX wt (by omega) (by omega) (by omega) fun y1 W1 y10 _ Yk f1=>?_
   sizeOf_list_dec
   refine cv (ds:=[]) Yk ⟨rfl,by omega,fun y2 n2 y20 Gb=>bV ?_⟩;have oS:aG W1 t (.aM g n2) t=some (.aM g n2):=ar;have g1:aG W1 t (.aM g n2) l1=Lg l1:=(aA Dj).trans ((f1 _ Dj).trans x1);have g2:aG W1 t (.aM g n2) l2=Lg l2:=(aA Hk).trans ((f1 _ Hk).trans x2);generalize aG W1 t (.aM g n2)=W2 at oS g1 g2 ⊢
   sizeOf_list_dec
   refine cg (ds:=[0,y1,y2].map PyData.int) (by show 3<=sizeLine;decide) ?_
   sizeOf_list_dec
   refine aX oS (by omega) (by omega) (by omega) fun y3 W3 Yl Ym Di f3=>?_;refine fY Yl (by simpa using Ym) fun z hz=>?_;have hz:0<=z:=by simp at hz;omega
   refine⟨us++[z],_,by simp,by simp[hl],fun b m'=>?_,Di,by omega,(f3 _ Dj).trans g1,(f3 _ Hk).trans g2⟩;rcases aaZ.mp m' with c | c
   ·exact hb b c
   ·rw[aaN.mp c];exact hz
  clear CP;rintro ys OE ⟨us,S0,rfl,Yn,Yo,FK,S1,x1,x2⟩;rw[u1]at x1;rw[u2]at x2;clear u1 u2;obtain⟨n0,n1,n2,n3,rfl⟩:∃ a b c d,us=[a,b,c,d]:=match us,Yn with | [a,b,c,d],_=>⟨a,b,c,d,rfl⟩
  have Vv:0<=n1:=Yo n1 (by simp);refine iz ?_
  sizeOf_list_dec
  refine cV (D:=.int n0) rfl ?_
  sizeOf_list_dec
  refine cV (D:=.int n1) rfl ?_
  sizeOf_list_dec
  refine cV (D:=.int n2) rfl ?_
  sizeOf_list_dec
  refine cV (D:=.int n3) rfl ?_
  sizeOf_list_dec
  refine aw (ds:=[.int wd,.int n0,.int (1+n1),.int n2,.int n3]) (by show 5<=sizeLine;decide) ?_
  sizeOf_list_dec
  refine⟨_,rfl,.inl ⟨_,rs.map cC,_,rfl,fU (fun _ _=>rfl) _,?_⟩⟩
  sizeOf_list_dec
  refine aw (ds:=[]) (aaJ _) ?_
  sizeOf_list_dec
  refine aw (ds:=[.tuple (rs.map cC),.tuple []]) (by show 2<=sizeLine;decide) ?_
  sizeOf_list_dec
  exact jn _ _ ⟨wd,n0,n1,n2,n3,_,FJ,KN,Vv,FK,by omega,x1,x2,rfl⟩
 clear v1 v2 tO;rintro ρ OE ⟨wd,n0,n1,n2,n3,S0,FJ,KN,Vv,FK,S1,x1,x2,rfl⟩;have Vw:N≠0:=by omega
 have Sj:qd rs []:=⟨by omega,by omega,gM,aaJ _,fun _ h=>by cases h⟩;have bN:dZ (zz rs [] ⟨fi,sp,ce,sb,none⟩ [] ⟨wd,n0,1+n1,n2,n3⟩):=⟨Sj,mJ,aaJ _,(fun _ h=>by cases h),aaJ _,aaJ _,aaJ _⟩;have ON:HS rs ⟨fi,sp,ce,sb,none⟩ wd c9 bt 0 (zz rs [] ⟨fi,sp,ce,sb,none⟩ [] ⟨wd,n0,1+n1,n2,n3⟩):=⟨rfl,rfl,rfl,rfl,by show 1<=1+n1;omega,rfl,rfl,rfl,rfl,rfl,rfl,rfl,rfl,rfl⟩;have all:=CL gM nH mJ rfl (show 0 < c9 by omega) FJ Lj ON;have IM:=vW (rs:=rs) (st:=⟨fi,sp,ce,sb,none⟩) (width:=c9) (base:=bt) N;have zA:=Hi (width:=c9) (base:=bt) gM nH mJ rfl N (by show fi+(N:Int)<=_;omega);generalize PV:zz rs [] ⟨fi,sp,ce,sb,none⟩ [] ⟨wd,n0,1+n1,n2,n3⟩=h0 at bN ON all;have pN:fg h0 (gW rs ⟨fi,sp,ce,sb,none⟩ c9 bt N)=none:=by
  obtain⟨h',s1,_⟩:=all N (by show fi+(N:Int)<=_;omega);have:=(iT (r:=[]) ON.ca s1).1;rw[abZ]at this;exact this
 refine ao ?_
 sizeOf_list_dec
 refine pW (ds:=[c7 rs [],dQ ⟨fi,sp,ce,sb,none⟩,nr ⟨wd,n0,1+n1,n2,n3⟩,.list ((gW rs ⟨fi,sp,ce,sb,none⟩ c9 bt N).map eC),nQ none]) (dR cP (dR cP (dR cP (dR (pX x1) (dR cP rfl))))) ⟨rs,_,_,_,none,rfl,by rw[PV];exact bN,zA,by omega,rfl,bV ?_⟩;rw[PV,abm pN]
 sizeOf_list_dec
 refine ao ?_
 sizeOf_list_dec
 refine gR (fun z=>?_) (fun z=>?_)
 ·sizeOf_list_dec
  exact rfl
 obtain⟨n,rfl⟩:=abq a0;have Yp:n < N:=by omega
 obtain⟨Yq,_,r,hr⟩:=OI (rs:=rs) (st:=⟨fi,sp,ce,sb,none⟩) (width:=c9) (base:=bt) Yp;obtain⟨h1,s1,s2⟩:=all n (by show fi+(n:Int)<=_;omega);obtain⟨vL,FC,_⟩:=ke gM nH mJ rfl n (by show fi+(n:Int)<=_;omega);replace FC:(stN rs ⟨fi,sp,ce,sb,none⟩ n).place=fi+(n:Int):=FC
 sizeOf_list_dec
 refine dM (v:=.im (.int ((gW rs ⟨fi,sp,ce,sb,none⟩ c9 bt n).length:Nat))) x2 (bB (by rw[aag,aag,Yq];rfl)) ?_
 sizeOf_list_dec
 refine iy (fun ρ W=>∃(es:List Ev) (idx:Int) (u:Option DV),(∀ e∈es,qE e)/\es.length<=200/\fg h0 es=some (idx,aO)/\W l1=some (.lst ((es.map eC).map .im))/\ρ=[some (.iO ns),some (.pt t),some (.im (.str aO)),some (.im (.int (rs.length:Nat))),some (.im (.int fi)),some (.im (.int ((rs.length:Nat) - fi))),some (.im (.int (n:Nat))),some (.im (.int wd)),some (.pt q),some (.im (.list (rs.map cC))),some (.im (dQ ⟨fi,sp,ce,sb,none⟩)),some (.im (.int bt)),some (.pt l1),some (.pt l2),some (.im (.list ([n0,n1,n2,n3].map .int))),some (.im (nr ⟨wd,n0,1+n1,n2,n3⟩)),some (.im (c7 rs [])),some (.im (.int idx)),u]) (fun kk jn=>?_) ?_
 ·sizeOf_list_dec
  have Vx:∀ e:Ev,∃ y rr,eC e=.tuple (.str y::.int e.aK::rr):=fun e=>by cases e<;>exact⟨_,_,rfl⟩
  refine gR (fun z2=>?_) (fun z2=>?_)
  ·obtain⟨l,e,hl,he⟩:=qR (rs:=rs) (st:=⟨fi,sp,ce,sb,none⟩) (width:=c9) (base:=bt) (by omega) Vw;obtain⟨y,rr,ey⟩:=Vx e;obtain⟨h2,s3,s4⟩:=all N (by show fi+(N:Int)<=_;omega);obtain⟨_,Vy,_⟩:=ke gM nH mJ rfl N (by show fi+(N:Int)<=_;omega);replace Vy:(stN rs ⟨fi,sp,ce,sb,none⟩ N).place=fi+(N:Int):=Vy
   sizeOf_list_dec
   rw[aab,aab];refine dM (v:=.im (eC e)) x1 (by rw[hl,ab5,ab5];exact yE) ?_;rw[ey]
   sizeOf_list_dec
   refine bT (D:=.int e.aK) (bB (j:=1) rfl) ?_
   sizeOf_list_dec
   refine cv (ds:=[.int e.aK,.int (rs.length:Nat),.int fi]) FK ⟨e.aK,_,_,rfl,by omega,fun b' pl w' S2 Ol tg S3=>bV ?_⟩;have y1:=(show aG OE t (.aM g S2) l1=_ from (aA Dj).trans x1)
   sizeOf_list_dec
   refine dn y1 (by rw[aab,aab];exact bR (by omega)) fun Vz S4 S5=>?_;refine jn _ _ ⟨gW rs ⟨fi,sp,ce,sb,none⟩ c9 bt N++[.fin b' pl w'.told],((gW rs ⟨fi,sp,ce,sb,none⟩ c9 bt N).length:Nat),_,fun e' QQ=>?_,by simp;omega,?_,by rw[S4];simp,rfl⟩
   ·rcases aaZ.mp QQ with c | c
    ·exact zA e' c
    ·rw[aaN.mp c];exact tg
   ·have hb2:h2.aK=e.aK:=by rw[s4.be,aao Vw,he]
    rw[(iT ON.ca s3).1,kG (FG s4 (by omega) (by omega)),s4.ev,z2]
  ·have wz:=(PR.resolve_left z).resolve_left z2
   sizeOf_list_dec
   refine iy (fun ρ W=>OE=W/\ρ=[some (.iO ns),some (.pt t),some (.im (.str aO)),some (.im (.int (rs.length:Nat))),some (.im (.int fi)),some (.im (.int ((rs.length:Nat) - fi))),some (.im (.int (n:Nat))),some (.im (.int wd)),some (.pt q),some (.im (.list (rs.map cC))),some (.im (dQ ⟨fi,sp,ce,sb,none⟩)),some (.im (.int bt)),some (.pt l1),some (.pt l2),some (.im (.list ([n0,n1,n2,n3].map .int))),some (.im (nr ⟨wd,n0,1+n1,n2,n3⟩)),some (.im (c7 rs [])),some (.im (.int ((gW rs ⟨fi,sp,ce,sb,none⟩ c9 bt n).length:Nat))),some (.im (.int h1.aK))]) (fun k2 VA=>?_) ?_
   ·sizeOf_list_dec
    refine gR (fun z3=>?_) (fun z3=>?_)
    ·have PX:n≠0:=fun c=>by subst c;simp[gW]at z3
     obtain⟨l,e,hl,he⟩:=qR (rs:=rs) (st:=⟨fi,sp,ce,sb,none⟩) (width:=c9) (base:=bt) (by omega) PX;obtain⟨y,rr,ey⟩:=Vx e
     sizeOf_list_dec
     refine dM (v:=.im (eC e)) x1 (by
      rw[show(((gW rs ⟨fi,sp,ce,sb,none⟩ c9 bt n).length:Nat):Int) - 1=((l.length:Nat):Int) by rw[hl];simp];refine bB ?_;rw[hr,hl,abO,aag,aag,abh (aae _),acw];rfl) ?_
     rw[ey]
     sizeOf_list_dec
     refine bT (D:=.int e.aK) (bB (j:=1) rfl) ?_
     sizeOf_list_dec
     exact VA _ _ ⟨rfl,by rw[s2.be,aao PX,he]<;>rfl⟩
    ·have PX:n=0:=by
      cases n with
      | zero=>rfl
      | succ k =>
       obtain⟨l,e,hl,_⟩:=qR (rs:=rs) (st:=⟨fi,sp,ce,sb,none⟩) (width:=c9) (base:=bt) (by omega) (ac8 k);rw[hl]at z3;simp at z3<;>omega
     sizeOf_list_dec
     exact VA _ _ ⟨rfl,by rw[s2.be,aau PX]<;>rfl⟩
   rintro ρ _ ⟨rfl,rfl⟩;obtain⟨_,ro⟩:=vV gM (p:=(stN rs ⟨fi,sp,ce,sb,none⟩ n).place) vL.p0 (by omega);have Dh:kB (gQ rs ⟨fi,sp,ce,sb,none⟩ n):=iF ro vL.sw vL.cw;have rj:rs[(fi+(n:Int)).toNat]?=some (rowOf rs (stN rs ⟨fi,sp,ce,sb,none⟩ n).place):=by
    rw[FC,rowAt _ (by omega),Int.toNat_of_nonneg (by omega)]
   have ho:aO = "owed"->mQ (rowOf rs (stN rs ⟨fi,sp,ce,sb,none⟩ n).place)=false/\∃ d v,gQ rs ⟨fi,sp,ce,sb,none⟩ n=some (("spot":Str),d,v):=fun c=>by
    obtain⟨k1,k2⟩:=((Hj _ _ rj).2.2 _ (SR c)).1 rfl;exact⟨k1,FH k2 _ _⟩
   have oh:aO = "owed"\/aO = "worth"->gQ rs ⟨fi,sp,ce,sb,none⟩ n≠none:=fun c=>by
    rcases c with c | c
    ·obtain⟨_,d,v,e⟩:=ho c;rw[e];exact fun z=>by cases z
    ·exact((Hj _ _ rj).2.2 _ (SU c)).2 rfl _ _
   have ej:(gW rs ⟨fi,sp,ce,sb,none⟩ c9 bt N)[(gW rs ⟨fi,sp,ce,sb,none⟩ c9 bt n).length]?=some (.fin (bt+(n:Int) / c9) (fi+(n:Int)) (gQ rs ⟨fi,sp,ce,sb,none⟩ n).told):=by rw[hr,abh (aae _),acw];rfl
   sizeOf_list_dec
   refine dM (v:=.im (eC (.fin (bt+(n:Int) / c9) (fi+(n:Int)) (gQ rs ⟨fi,sp,ce,sb,none⟩ n).told))) x1 (bB (by rw[aag,aag,ej];rfl)) ?_
   sizeOf_list_dec
   refine cv (ds:=[.str aO,eC (.fin (bt+(n:Int) / c9) (fi+(n:Int)) (gQ rs ⟨fi,sp,ce,sb,none⟩ n).told),.int h1.aK]) FK ⟨aO,_,_,_,_,rfl,Dh,wz,oh,by omega,fun e' S2 sI S3=>bV ?_⟩;have y1:=(show aG OE t (.aM g S2) l1=_ from (aA Dj).trans x1);have br:=zk s2 (by omega) FJ Lj FC (by show fi+(n:Int) < _;omega) rfl sI (fun c=>⟨KN c,by have:=(Vn c).1;omega,(Vn c).2⟩) ho
   sizeOf_list_dec
   refine u4 y1 (j:=(gW rs ⟨fi,sp,ce,sb,none⟩ c9 bt n).length) (mn (by omega) (by rw[aab,aab,hr];simp;omega)) fun Vz S4 S5=>?_;refine jn _ _ ⟨gW rs ⟨fi,sp,ce,sb,none⟩ c9 bt n++e'::r,((gW rs ⟨fi,sp,ce,sb,none⟩ c9 bt n).length:Nat),_,fun e2 Yr=>?_,by rw[hr]at IM;simp at IM ⊢;omega,?_,?_,rfl⟩
   ·rcases aaZ.mp Yr with c | c
    ·exact zA e2 (by rw[hr];exact aaZ.mpr (.inl c))
    ·rcases aaf.mp c with c | c
     ·rw[c];exact zl Dh sI
     ·exact zA e2 (by rw[hr];exact aaZ.mpr (.inr (aan _ c)))
   ·rw[(iT ON.ca s1).1,kG br,s2.ev]
   ·rw[S4,<- ab3,<- ab3,hr,List.set_append_right _ _ (aae _),acw];rfl
 rintro ρ Vz ⟨es,idx,u,S6,Ys,Pw,y1,rfl⟩
 sizeOf_list_dec
 refine aw (ds:=[.int idx,.str aO]) (by show 2<=sizeLine;decide) ?_
 sizeOf_list_dec
 refine pW (ds:=[c7 rs [],dQ ⟨fi,sp,ce,sb,none⟩,nr ⟨wd,n0,1+n1,n2,n3⟩,.list (es.map eC),nQ (some (idx,aO))]) (dR cP (dR cP (dR cP (dR (pX y1) (dR cP rfl))))) ⟨rs,_,_,_,some (idx,aO),rfl,by rw[PV];exact bN,S6,by omega,rfl,bV ?_⟩;rw[PV,abm Pw]
 all_goals rfl
end
def ue(K:zn)(C:Addr)(x q:Str)(st:Stmt):Prop:=∃ f fd,cA K x q st f fd/\Meth K C x f
theorem fL{K:zn}{x q:Str}{st:Stmt}{oc:Value}{od an:wT}{ux:Array wS}{kV doc pm bq ct:Value}(a:PySem.W.findIn K (.ref C) x=some (some (.ref f)):=by k_is)(l:K.lookup f=some ⟨oc,od,.func (PySem.W.fnOf x q (defArgs st) (defBody st) (defScope st) .none kV doc pm an bq ct),ux⟩:=by k_is)(c:PySem.W.codeIn K bq q=true:=by k_is)(k:PySem.W.keepIn K (.ref f)=true:=by k_is)(n:PySem.W.isFn K (.ref f)=true:=by first | k_is | kernel_rfl):ue K C x q st:=⟨_,_,jN l c k,a,n,k⟩
def VB(K:zn)(C:Addr)(q:Str)(st:Stmt):Prop:=∃ f fd,cA K "__init__" q st f fd/\Mk K C f
theorem KP{K:zn}{q:Str}{st:Stmt}{oc:Value}{od an:wT}{ux:Array wS}{kV doc pm bq ct:Value}(m:PySem.W.makesIn K C=true)(a:PySem.W.findIn K (.ref C) "__init__"=some (some (.ref f)))(l:K.lookup f=some ⟨oc,od,.func (PySem.W.fnOf "__init__" q (defArgs st) (defBody st) (defScope st) .none kV doc pm an bq ct),ux⟩)(c:PySem.W.codeIn K bq q=true)(k:PySem.W.keepIn K (.ref f)=true)(n:PySem.W.isFn K (.ref f)=true)(kc:PySem.W.keepIn K (.ref C)=true):VB K C q st:=⟨_,_,jN l c k,m,a,n,kc⟩
def CQ(K:zn)(C:Addr):ww->Prop
 | []=>True
 | f::r=>bO K C f/\CQ K C r
theorem CQ.mem{K:zn}{C:Addr}:∀{ns:ww},CQ K C ns->∀ f∈ns,bO K C f
 | _::_,h,f,hf=>by
  rcases aaf.mp hf with z | z
  ·rw[z];exact h.1
  ·exact CQ.mem h.2 f z
theorem FL{K:zn}{ns:ww}(pg:PySem.W.plainGet K C Str.empty=true)(hd:PySem.W.hasDictIn K C=true)(po:PySem.W.plainOver K C=true)(sa:PySem.W.findIn K (.ref C) "__setattr__"=some (some (.builtin "object.__setattr__")))(na:CQ K C ns):eU K C ns:=⟨⟨pg,hd,po,sa⟩,fun f hf=>na.mem f hf⟩
structure qU(K:zn)(C:Addr):Prop where
 cls:eU K C bx
 PD:VB K C "Holder.__init__" vN
 m1:ue K C "tell" "Holder.tell" Cv
 m2:ue K C "first_broken" "Holder.first_broken" qH
 m3:ue K C "broken_by_end" "Holder.broken_by_end" vH
 m4:ue K C "broken_by_wrote" "Holder.broken_by_wrote" nc
 m5:ue K C "broken_by_late" "Holder.broken_by_late" qB
 m6:ue K C "broken_by_down" "Holder.broken_by_down" qC
 m7:ue K C "broken_by_bell" "Holder.broken_by_bell" qD
 m8:ue K C "row_now" "Holder.row_now" Cj
 m9:ue K C "waiting_by" "Holder.waiting_by" qv
 S7:ue K C "is_pressed" "Holder.is_pressed" mX
 S8:ue K C "ends_at" "Holder.ends_at" qw
 S9:ue K C "take_up" "Holder.take_up" qK
 Ta:ue K C "take_end" "Holder.take_end" nq
 Tb:ue K C "take_bell" "Holder.take_bell" j6
 Tc:ue K C "parted" "Holder.parted" qx
section
variable {K:zn}
theorem Jz{us:List α}(h:us.length=1):∃ a,us=[a]:=match us,h with | [a],_=>⟨a,rfl⟩
theorem tY{us:List α}(h:us.length=2):∃ a b,us=[a,b]:=match us,h with | [a,b],_=>⟨a,b,rfl⟩
theorem VC{us:List α}(h:us.length=3):∃ a b c,us=[a,b,c]:=match us,h with | [a,b,c],_=>⟨a,b,c,rfl⟩
theorem Yt{us:List α}(h:us.length=5):∃ a b c d e,us=[a,b,c,d,e]:=match us,h with | [a,b,c,d,e],_=>⟨a,b,c,d,e,rfl⟩
theorem FN{aN g1 g2 g3 g4 g5 g6 g7 g8:Addr}{e1 e2 e3 e4 e5 e6 e7 e8:v6}(F:cA K "parting" "parting" jE f fd)(h:qU K kH)(nA:mg "Holder"=some (.ref kH))(Hl:Dn P w K mg base 4 "step" g1 e1 ["mill", "state"] (i7 (dm (SStep aR))))(OO:Dn P w K mg base 2 "bell" g2 e2 ["mill", "state", "k"] (i7 (dm (BV aN aS))))(KQ:Dn P w K mg base 1 "thing_of" g3 e3 ["wrote"] (dm vv))(OP:Dn P w K mg base 1 "is_slow" g4 e4 ["row"] (dm B5))(OQ:Dn P w K mg base 2 "bells_waiting" g5 e5 ["rings", "taken", "beat"] (dm B4))(KR:Dn P w K mg base 1 "rests" g6 e6 ["mill", "state"] (dm qj))(KS:Dn P w K mg base 1 "spots_read" g7 e7 ["row"] (dm vt))(OR:Dn P w K mg base 1 "spot_written" g8 e8 ["row"] (dm xD))(bL:mg "len"=none)(kF:mg "any"=none)(eV:mg "list"=none):aW P w K mg base cI 9 f fd ["mill", "state", "rings", "terms", "diary"] (dm nu):=by
 obtain⟨f1,d1,F1,M1⟩:=h.m1;obtain⟨f2,d2,F2,M2⟩:=h.m2;obtain⟨f3,d3,F3,M3⟩:=h.m3;obtain⟨f4,d4,F4,M4⟩:=h.m4;obtain⟨f5,d5,F5,M5⟩:=h.m5;obtain⟨f6,d6,F6,M6⟩:=h.m6;obtain⟨f7,d7,F7,M7⟩:=h.m7;obtain⟨f8,d8,F8,M8⟩:=h.m8;obtain⟨f9,d9,F9,M9⟩:=h.m9;obtain⟨Td,Te,PY,Yu⟩:=h.S7;obtain⟨Tf,Tg,PZ,Yv⟩:=h.S8;obtain⟨Th,Ti,P0,Yw⟩:=h.S9;obtain⟨Tj,Tn,P1,Yx⟩:=h.Ta;obtain⟨To,Tq,P2,Yy⟩:=h.Tb;obtain⟨Tr,Ts,P4,Yz⟩:=h.Tc;obtain⟨f0,d0,F0,M0⟩:=h.PD;have c:=h.cls.c;have cN:=h.cls;have N8:iB P w K mg base 1 kH "row_now" f8 d8 ["self"] (dq K (Ci kH)):=⟨c,M8,Fi F8 cN,F8.binds fun _ _ _ _ _ _ us hl=>by obtain⟨_,rfl⟩:=Jz hl;rfl⟩;have N9:iB P w K mg base 3 kH "waiting_by" f9 d9 ["self", "beat"] (dq K (lz kH)):=⟨c,M9,yZ F9 cN OQ,F9.binds fun _ _ _ _ _ _ us hl=>by obtain⟨_,_,rfl⟩:=tY hl;rfl⟩;have VD:iB P w K mg base 4 kH "is_pressed" Td Te ["self", "beat"] (dq K (jB kH)):=⟨c,Yu,vD PY cN N9 bL,PY.binds fun _ _ _ _ _ _ us hl=>by obtain⟨_,_,rfl⟩:=tY hl;rfl⟩;have VE:iB P w K mg base 1 kH "ends_at" Tf Tg ["self", "beat"] (dq K (lB kH)):=⟨c,Yv,y0 PZ cN,PZ.binds fun _ _ _ _ _ _ us hl=>by obtain⟨_,_,rfl⟩:=tY hl;rfl⟩;have YA:iB P w K mg base 1 kH "parted" Tr Ts ["self"] (dq K (qr kH)):=⟨c,Yz,y6 P4 cN,P4.binds fun _ _ _ _ _ _ us hl=>by obtain⟨_,rfl⟩:=Jz hl;rfl⟩;have N4:iB P w K mg base 5 kH "broken_by_wrote" f4 d4 ["self", "row", "wrote"] (dq K (mZ kH)):=⟨c,M4,vF F4 cN Hl KQ OP bL,F4.binds fun _ _ _ _ _ _ us hl=>by obtain⟨_,_,_,rfl⟩:=VC hl;rfl⟩;have N5:iB P w K mg base 1 kH "broken_by_late" f5 d5 ["self", "event"] (dq K (qy kH)):=⟨c,M5,y8 F5 cN bL,F5.binds fun _ _ _ _ _ _ us hl=>by obtain⟨_,_,rfl⟩:=tY hl;rfl⟩;have N6:iB P w K mg base 1 kH "broken_by_down" f6 d6 ["self", "event"] (dq K (qz kH)):=⟨c,M6,y9 F6 cN bL,F6.binds fun _ _ _ _ _ _ us hl=>by obtain⟨_,_,rfl⟩:=tY hl;rfl⟩;have N7:iB P w K mg base 4 kH "broken_by_bell" f7 d7 ["self", "event"] (dq K (qA kH)):=⟨c,M7,za F7 cN N9,F7.binds fun _ _ _ _ _ _ us hl=>by obtain⟨_,_,rfl⟩:=tY hl;rfl⟩;have N3:iB P w K mg base 6 kH "broken_by_end" f3 d3 ["self", "event"] (dq K (vG kH)):=⟨c,M3,Cr F3 cN KR VE VD N8 KS OR N4 kF,F3.binds fun _ _ _ _ _ _ us hl=>by obtain⟨_,_,rfl⟩:=tY hl;rfl⟩;have N2:iB P w K mg base 7 kH "first_broken" f2 d2 ["self", "event"] (dq K (qG kH)):=⟨c,M2,zb F2 cN N3 N5 N6 N7 kF,F2.binds fun _ _ _ _ _ _ us hl=>by obtain⟨_,_,rfl⟩:=tY hl;rfl⟩;have YB:iB P w K mg base 5 kH "take_end" Tj Tn ["self", "beat", "wrote"] (dq K (nk kH)):=⟨c,Yx,vJ P1 cN VD Hl,P1.binds fun _ _ _ _ _ _ us hl=>by obtain⟨_,_,_,rfl⟩:=VC hl;rfl⟩;have YC:iB P w K mg base 3 kH "take_bell" To Tq ["self", "k"] (dq K (j5 kH)):=⟨c,Yy,tw P2 cN OO,P2.binds fun _ _ _ _ _ _ us hl=>by obtain⟨_,_,rfl⟩:=tY hl;rfl⟩;have YD:iB P w K mg base 6 kH "take_up" Th Ti ["self", "event"] (dq K (qJ kH)):=⟨c,Yw,zd P0 cN VE YB YC,P0.binds fun _ _ _ _ _ _ us hl=>by obtain⟨_,_,rfl⟩:=tY hl;rfl⟩;have N1:iB P w K mg base 8 kH "tell" f1 d1 ["self", "event"] (dq K (Ct kH)):=⟨c,M1,Fp F1 cN N2 YD,F1.binds fun _ _ _ _ _ _ us hl=>by obtain⟨_,_,rfl⟩:=tY hl;rfl⟩;have C0:RM P w K mg base 1 kH "Holder" f0 d0 ["self", "mill", "state", "rings", "terms"] (dq K (vM kH)):=⟨M0,Cy F0 cN eV,F0.binds fun _ _ _ _ _ _ us hl=>by obtain⟨_,_,_,_,_,rfl⟩:=Yt hl;rfl,nA⟩;exact vO F cN C0 N1 YA
end
end T1
open PySem PySem.W
namespace HD
open L2 T1 PySem.W.Fast
abbrev O:=Params->Obj
def evn:List O->List O
 | a::_::r=>a::evn r
 | x=>x
def bt(P:Params):Nat->List O->BT
 | k+1,f::r=>.node (f P) (bt P k (evn r)) (bt P k (evn (r.drop 1)))
 | _,_=>.nil
def i(n:Int):Value:=.int n 0
def r(n:Nat):Value:=.ref n
def e(P:Params)(x:Str)(t:Nat)(v:Value):DictEntry:=⟨PyData.keyHash P x,.str x t,v⟩
def fn(n q:Str)(s:Stmt)(g:Nat)(d m c:Value):FuncData:=⟨n,q,defArgs s,.stmts (defBody s),defScope s,g,[],d,.none,.none,m,none,c,.none,0⟩
def fo(n q:Str)(s:Stmt)(g:Nat)(d m c:Value):Obj:=⟨.type "function",none,.func (fn n q s g d m c),#[]⟩
def fz(n q:Str)(s:Stmt):Obj:=⟨.none,none,.func (fn n q s 0 .none .none .none),#[]⟩
def tu(l:Array Value):Obj:=⟨.type "tuple",none,.seq l 0,#[]⟩
def co(n q:Str)(t u:Nat)(l:List Value):Obj:=⟨.type "code",none,.fields (.str n t::.str q (t+1)::.str "/claim/cut.py" (t+2)::(l++[.str "/claim/cut.py" u])).toArray,#[]⟩
def mo0:Value:=.str "__main__" 164
def mo1:Value:=.str "twomakes.mills" 262
def mo2:Value:=.str "twomakes.rules" 352
def mo3:Value:=.str "twomakes.plain" 422
def mo4:Value:=.str "twomakes.things" 466
def mo5:Value:=.str "twomakes.holder" 475
def mo6:Value:=.str "law_twomakes_k22_ends_that_break_a_rule" 713
section
local macro_rules
 | `(#synth $n:num [$xs,*])=>do
  let w (k:Nat):Lean.Term:=Lean.quote k
  let mut ys:Array Lean.Term:=#[]
  for x in xs.getElems do
   match x with
   | `(($q:str,$s,[$as,*],$t:num,$l,$a,$f,$b:num,$m)) =>
    let n:Lean.Term:=Lean.quote ((q.getString.splitOn ".").getLast!)
    let T:=t.getNat
    let B:=b.getNat
    let z:=as.getElems
    let k:=z.size
    if k > 0 then
     let g <- z.mapIdxM fun j y=>`(.str $y $(w (T+3+j)))
     ys:=ys.push (<- `(tu #[$g,*]))
    ys:=ys.push (<- `(fz $n $q ($s)))
    let g <- if k > 0 then `([r $(w (B+2)),r $(w (B+3)),r $(w (B+4))])else `([.none,.none,r $(w (B+2))])
    ys:=ys.push (<- `(co $n $q $t $(w (T+4+k)) ([i $l,i $a,i 0,i 0,i $f,r $b,.bool true,i 181,r $(w (B+1)),.none]++$g++[i $(w (T+3+k)),i $l])))
    ys:=ys.push (<- `(fo $n $q ($s) 3 .none $m (r $(w (if k > 0 then B+5 else B+3)))))
   | _=>ys:=ys.push x
  let c <- ys.mapIdxM fun j x=>`(noncomputable def $(Lean.mkIdent (.mkSimple s!"a{n.getNat + j}")):ident:=((fun $(Lean.mkIdent `P)=>$x):O))
  return Lean.mkNullNode c
#synth 11 [tu #[],
⟨.none,none,.fields #[],#[]⟩,
co "<module>" "<module>" 182 186 [i 1,i 0,i 0,i 0,i 0,r 11,.bool false,i 181,r 12,.none,.none,.none,.none,i 185,i 1],
⟨.type "frame",none,.plain,#[some (r 13),some (r 3),some (r 3),none,some mo0,none,some (r 0)]⟩,
⟨.type "dict",none,.dict #[e P "__name__" 165 (.str "twomakes.errors" 194),e P "__doc__" 166 .none,e P "__package__" 167 .none,e P "__loader__" 168 (.builtin "__main__.__loader__#opaque"),e P "__spec__" 169 .none,e P "__annotations__" 170 (r 6),e P "__builtins__" 171 (r 4),e P "__file__" 173 (.str "/claim/cut.py" 172),e P "__cached__" 174 .none,e P "_wall" 193 (r 21),e P "MakeError" 213 (r 31),e P "Resting" 229 (r 44)] 12,#[]⟩,
⟨.none,none,.fields #[i 1,i 0,r 20,i 5,i 0,r 27,i 7,i 0,r 40],#[]⟩,
("_wall",top 0,["k"],187,1,1,3,15,mo0),
tu #[.type "ValueError"],
⟨.type "builtin_function_or_method",none,.fields #[.builtin "type.__prepare__",.type "type"],#[]⟩,
⟨.type "dict",none,.dict #[e P "__module__" 203 (.str "twomakes.errors" 194),e P "__qualname__" 205 (.str "MakeError" 204),e P "__firstlineno__" 207 (.int 5 206),e P "__static_attributes__" 208 (r 29)] 4,#[]⟩,
co "MakeError" "MakeError" 198 202 [i 5,i 0,i 0,i 0,i 0,r 25,.bool false,i 181,r 26,.none,.none,.none,.none,i 201,i 5],
⟨.type "frame",none,.plain,#[some (r 27),some (r 3),some (r 24),none,some (.str "twomakes.errors" 194),none,some (r 0)]⟩,
⟨.type "dict",none,.dict #[e P "__module__" 203 (.str "twomakes.errors" 194),e P "__firstlineno__" 207 (.int 5 206),e P "__static_attributes__" 208 (r 29),e P "__weakref__" 210 (r 32),e P "__doc__" 211 .none] 3,#[]⟩,
⟨.type "type",none,.cls ⟨"MakeError",[.type "ValueError"],[r 31,.type "ValueError",.type "Exception",.type "BaseException",.type "object"],30, "MakeError",true,[],[r 44],false,none,false⟩,#[some (r 22),none,some (.str "MakeError" 196),some (.str "MakeError" 204),some (.builtin "ValueError.__new__"),some (.bool true)]⟩,
⟨.type "getset_descriptor",none,.fields #[.str "__weakref__" 209,r 31,.builtin "ExceptionGroup.__weakref__",.none],#[]⟩,
⟨.type "super",none,.fields #[r 31,r 31,r 31],#[]⟩,
⟨.type "builtin_function_or_method",none,.fields #[.builtin "object.__init_subclass__",r 31],#[]⟩,
tu #[r 31],
⟨.type "dict",none,.dict #[e P "__module__" 221 (.str "twomakes.errors" 194),e P "__qualname__" 223 (.str "Resting" 222),e P "__firstlineno__" 225 (.int 7 224),e P "__static_attributes__" 226 (r 42)] 4,#[]⟩,
co "Resting" "Resting" 216 220 [i 7,i 0,i 0,i 0,i 0,r 38,.bool false,i 181,r 39,.none,.none,.none,.none,i 219,i 7],
⟨.type "frame",none,.plain,#[some (r 40),some (r 3),some (r 37),none,some (.str "twomakes.errors" 194),none,some (r 0)]⟩,
⟨.type "dict",none,.dict #[e P "__module__" 221 (.str "twomakes.errors" 194),e P "__firstlineno__" 225 (.int 7 224),e P "__static_attributes__" 226 (r 42),e P "__doc__" 227 .none] 2,#[]⟩,
⟨.type "type",none,.cls ⟨"Resting",[r 31],[r 44,r 31,.type "ValueError",.type "Exception",.type "BaseException",.type "object"],43, "Resting",true,[],[],false,none,false⟩,#[some (r 35),none,some (.str "Resting" 214),some (.str "Resting" 222),some (.builtin "ValueError.__new__"),some (.bool true)]⟩,
⟨.type "super",none,.fields #[r 44,r 44,r 44],#[]⟩,
⟨.type "builtin_function_or_method",none,.fields #[.builtin "object.__init_subclass__",r 44],#[]⟩,
⟨.type "dict",none,.dict #[e P "__name__" 165 mo1,e P "__doc__" 166 .none,e P "__package__" 167 .none,e P "__loader__" 168 (.builtin "__main__.__loader__#opaque"),e P "__spec__" 169 .none,e P "__annotations__" 170 (r 6),e P "__builtins__" 171 (r 4),e P "__file__" 173 (.str "/claim/cut.py" 172),e P "__cached__" 174 .none,e P "_wall" 193 (r 21),e P "MakeError" 213 (r 31),e P "Resting" 229 (r 44),e P "NoBell" 245 (r 56),e P "Shut" 261 (r 68),e P "CELLS" 265 (.int 16 264),e P "WORTHS" 267 (.int 4294967296 266)] 16,#[]⟩,
⟨.none,none,.fields #[i 1,i 0,r 20,i 5,i 0,r 27,i 7,i 0,r 40,i 9,i 0,r 52,i 11,i 0,r 64],#[]⟩,
⟨.type "type",none,.cls ⟨"MakeError",[.type "ValueError"],[r 31,.type "ValueError",.type "Exception",.type "BaseException",.type "object"],30, "MakeError",true,[],[r 44,r 56,r 68],false,none,false⟩,#[some (r 22),none,some (.str "MakeError" 196),some (.str "MakeError" 204),some (.builtin "ValueError.__new__"),some (.bool true)]⟩,
⟨.type "dict",none,.dict #[e P "__module__" 237 (.str "twomakes.errors" 194),e P "__qualname__" 239 (.str "NoBell" 238),e P "__firstlineno__" 241 (.int 9 240),e P "__static_attributes__" 242 (r 54)] 4,#[]⟩,
co "NoBell" "NoBell" 232 236 [i 9,i 0,i 0,i 0,i 0,r 50,.bool false,i 181,r 51,.none,.none,.none,.none,i 235,i 9],
⟨.type "frame",none,.plain,#[some (r 52),some (r 3),some (r 49),none,some (.str "twomakes.errors" 194),none,some (r 0)]⟩,
⟨.type "dict",none,.dict #[e P "__module__" 237 (.str "twomakes.errors" 194),e P "__firstlineno__" 241 (.int 9 240),e P "__static_attributes__" 242 (r 54),e P "__doc__" 243 .none] 2,#[]⟩,
⟨.type "type",none,.cls ⟨"NoBell",[r 31],[r 56,r 31,.type "ValueError",.type "Exception",.type "BaseException",.type "object"],55, "NoBell",true,[],[],false,none,false⟩,#[some (r 47),none,some (.str "NoBell" 230),some (.str "NoBell" 238),some (.builtin "ValueError.__new__"),some (.bool true)]⟩,
⟨.type "super",none,.fields #[r 56,r 56,r 56],#[]⟩,
⟨.type "builtin_function_or_method",none,.fields #[.builtin "object.__init_subclass__",r 56],#[]⟩,
⟨.type "dict",none,.dict #[e P "__module__" 253 (.str "twomakes.errors" 194),e P "__qualname__" 255 (.str "Shut" 254),e P "__firstlineno__" 257 (.int 11 256),e P "__static_attributes__" 258 (r 66)] 4,#[]⟩,
co "Shut" "Shut" 248 252 [i 11,i 0,i 0,i 0,i 0,r 62,.bool false,i 181,r 63,.none,.none,.none,.none,i 251,i 11],
⟨.type "frame",none,.plain,#[some (r 64),some (r 3),some (r 61),none,some (.str "twomakes.errors" 194),none,some (r 0)]⟩,
⟨.type "dict",none,.dict #[e P "__module__" 253 (.str "twomakes.errors" 194),e P "__firstlineno__" 257 (.int 11 256),e P "__static_attributes__" 258 (r 66),e P "__doc__" 259 .none] 2,#[]⟩,
⟨.type "type",none,.cls ⟨"Shut",[r 31],[r 68,r 31,.type "ValueError",.type "Exception",.type "BaseException",.type "object"],67, "Shut",true,[],[],false,none,false⟩,#[some (r 59),none,some (.str "Shut" 246),some (.str "Shut" 254),some (.builtin "ValueError.__new__"),some (.bool true)]⟩,
⟨.type "super",none,.fields #[r 68,r 68,r 68],#[]⟩,
⟨.type "builtin_function_or_method",none,.fields #[.builtin "object.__init_subclass__",r 68],#[]⟩,
⟨.type "dict",none,.dict #[e P "__name__" 165 mo2,e P "__doc__" 166 .none,e P "__package__" 167 .none,e P "__loader__" 168 (.builtin "__main__.__loader__#opaque"),e P "__spec__" 169 .none,e P "__annotations__" 170 (r 6),e P "__builtins__" 171 (r 4),e P "__file__" 173 (.str "/claim/cut.py" 172),e P "__cached__" 174 .none,e P "_wall" 193 (r 21),e P "MakeError" 213 (r 31),e P "Resting" 229 (r 44),e P "NoBell" 245 (r 56),e P "Shut" 261 (r 68),e P "CELLS" 265 (.int 16 264),e P "WORTHS" 267 (.int 4294967296 266),e P "PARTS" 307 (r 71),e P "SLOW_WORDS" 310 (r 82),e P "wrapped" 317 (r 89),e P "cell_at" 325 (r 96),e P "spots_read" 335 (r 103),e P "spot_written" 344 (r 110),e P "is_slow" 351 (r 117),e P "worth_got" 365 (r 124),e P "what_it_writes" 375 (r 131),e P "place_behind" 385 (r 138),e P "is_shut_behind" 393 (r 145)] 27,#[]⟩,
⟨.none,none,.fields #[i 1,i 0,r 20,i 5,i 0,r 27,i 7,i 0,r 40,i 9,i 0,r 52,i 11,i 0,r 64,i 18,i 0,r 88,i 20,i 0,r 95,i 22,i 0,r 102,i 28,i 0,r 109,i 33,i 0,r 116,i 36,i 0,r 123,i 49,i 0,r 130,i 56,i 0,r 137,i 62,i 0,r 144],#[]⟩,
⟨.type "dict",none,.dict #[e P "put" 268 (r 72),e P "sum" 271 (r 73),e P "mul" 275 (r 74),e P "less" 279 (r 75),e P "take" 283 (r 76),e P "lay" 287 (r 77),e P "go" 291 (r 78),e P "shut" 294 (r 79),e P "open" 295 (r 80),e P "home" 296 (r 81)] 10,#[]⟩,
tu #[.str "d" 269,.str "worth" 270],
tu #[.str "d" 272,.str "a" 273,.str "b" 274],
tu #[.str "d" 276,.str "a" 277,.str "b" 278],
tu #[.str "d" 280,.str "a" 281,.str "b" 282],
tu #[.str "d" 284,.str "a" 285,.str "n" 286],
tu #[.str "b" 288,.str "a" 289,.str "n" 290],
tu #[.str "a" 292,.str "p" 293],
tu #[.str "mul" 308,.str "take" 309],
("wrapped",top 11,["number"],311,18,1,3,83,mo1),
("cell_at",top 12,["worth", "n"],318,20,2,3,90,mo1),
("spots_read",top 13,["row", "spots", "part", "number"],326,22,1,3,97,mo1),
("spot_written",top 14,["row", "part", "number"],336,28,1,3,104,mo1),
("is_slow",top 15,["row"],345,33,1,3,111,mo1),
("worth_got",top 17,["row", "spots", "cells", "word", "one", "other"],354,36,3,3,118,mo2),
("what_it_writes",top 18,["row", "spots", "cells", "spot"],366,49,3,3,125,mo2),
("place_behind",top 19,["row", "place", "spots", "kept"],376,56,4,3,132,mo2),
("is_shut_behind",top 20,["row", "shut"],386,62,2,3,139,mo2),
⟨.type "dict",none,.dict #[e P "__name__" 165 mo5,e P "__doc__" 166 .none,e P "__package__" 167 .none,e P "__loader__" 168 (.builtin "__main__.__loader__#opaque"),e P "__spec__" 169 .none,e P "__annotations__" 170 (r 6),e P "__builtins__" 171 (r 4),e P "__file__" 173 (.str "/claim/cut.py" 172),e P "__cached__" 174 .none,e P "_wall" 193 (r 21),e P "MakeError" 213 (r 31),e P "Resting" 229 (r 44),e P "NoBell" 245 (r 56),e P "Shut" 261 (r 68),e P "CELLS" 265 (.int 16 264),e P "WORTHS" 267 (.int 4294967296 266),e P "PARTS" 307 (r 71),e P "SLOW_WORDS" 310 (r 82),e P "wrapped" 317 (r 89),e P "cell_at" 325 (r 96),e P "spots_read" 335 (r 103),e P "spot_written" 344 (r 110),e P "is_slow" 351 (r 117),e P "worth_got" 365 (r 124),e P "what_it_writes" 375 (r 131),e P "place_behind" 385 (r 138),e P "is_shut_behind" 393 (r 145),e P "kept_behind" 401 (r 152),e P "is_bell" 409 (r 159),e P "bells_rung" 415 (r 164),e P "bells_waiting" 421 (r 169),e P "rests" 431 (r 176),e P "with_written" 441 (r 183),e P "step" 456 (r 190),e P "bell" 465 (r 197),e P "thing_of" 474 (r 204)] 36,#[]⟩,
⟨.none,none,.fields #[i 1,i 0,r 20,i 5,i 0,r 27,i 7,i 0,r 40,i 9,i 0,r 52,i 11,i 0,r 64,i 18,i 0,r 88,i 20,i 0,r 95,i 22,i 0,r 102,i 28,i 0,r 109,i 33,i 0,r 116,i 36,i 0,r 123,i 49,i 0,r 130,i 56,i 0,r 137,i 62,i 0,r 144,i 68,i 0,r 151,i 70,i 0,r 158,i 72,i 0,r 163,i 74,i 0,r 168,i 78,i 0,r 175,i 80,i 0,r 182,i 85,i 0,r 189,i 96,i 0,r 196,i 103,i 0,r 203],#[]⟩,
("kept_behind",top 21,["row", "kept"],394,68,2,3,146,mo2),
("is_bell",top 22,["mill", "k"],402,70,2,3,153,mo2),
("bells_rung",top 23,[],410,72,2,3,160,mo2),
("bells_waiting",top 24,[],416,74,3,3,165,mo2),
("rests",top 26,["mill", "state"],424,78,2,3,170,mo3),
("with_written",top 27,["worths", "kind", "wrote", "at"],432,80,3,3,177,mo3),
("step",top 28,["mill", "state", "place", "spots", "cells", "kept", "row", "wrote", "behind"],442,85,2,3,184,mo3),
("bell",top 29,["mill", "state", "k"],457,96,3,3,191,mo3),
("thing_of",top 31,["wrote"],468,103,1,3,198,mo4),
⟨.type "dict",none,.dict #[e P "__name__" 165 mo5,e P "__doc__" 166 .none,e P "__package__" 167 .none,e P "__loader__" 168 (.builtin "__main__.__loader__#opaque"),e P "__spec__" 169 .none,e P "__annotations__" 170 (r 6),e P "__builtins__" 171 (r 4),e P "__file__" 173 (.str "/claim/cut.py" 172),e P "__cached__" 174 .none,e P "_wall" 193 (r 21),e P "MakeError" 213 (r 31),e P "Resting" 229 (r 44),e P "NoBell" 245 (r 56),e P "Shut" 261 (r 68),e P "CELLS" 265 (.int 16 264),e P "WORTHS" 267 (.int 4294967296 266),e P "PARTS" 307 (r 71),e P "SLOW_WORDS" 310 (r 82),e P "wrapped" 317 (r 89),e P "cell_at" 325 (r 96),e P "spots_read" 335 (r 103),e P "spot_written" 344 (r 110),e P "is_slow" 351 (r 117),e P "worth_got" 365 (r 124),e P "what_it_writes" 375 (r 131),e P "place_behind" 385 (r 138),e P "is_shut_behind" 393 (r 145),e P "kept_behind" 401 (r 152),e P "is_bell" 409 (r 159),e P "bells_rung" 415 (r 164),e P "bells_waiting" 421 (r 169),e P "rests" 431 (r 176),e P "with_written" 441 (r 183),e P "step" 456 (r 190),e P "bell" 465 (r 197),e P "thing_of" 474 (r 204),e P "Holder" 699 (r 374)] 37,#[]⟩,
⟨.none,none,.fields #[i 1,i 0,r 20,i 5,i 0,r 27,i 7,i 0,r 40,i 9,i 0,r 52,i 11,i 0,r 64,i 18,i 0,r 88,i 20,i 0,r 95,i 22,i 0,r 102,i 28,i 0,r 109,i 33,i 0,r 116,i 36,i 0,r 123,i 49,i 0,r 130,i 56,i 0,r 137,i 62,i 0,r 144,i 68,i 0,r 151,i 70,i 0,r 158,i 72,i 0,r 163,i 74,i 0,r 168,i 78,i 0,r 175,i 80,i 0,r 182,i 85,i 0,r 189,i 96,i 0,r 196,i 103,i 0,r 203,i 106,i 0,r 210],#[]⟩,
⟨.type "dict",none,.dict #[e P "__module__" 484 mo5,e P "__qualname__" 486 (.str "Holder" 485),e P "__firstlineno__" 488 (.int 106 487),e P "__init__" 499 (r 218),e P "tell" 507 (r 225),e P "first_broken" 513 (r 230),e P "broken_by_end" 519 (r 235),e P "broken_by_wrote" 530 (r 242),e P "broken_by_late" 536 (r 247),e P "broken_by_down" 544 (r 254),e P "broken_by_bell" 553 (r 261),e P "row_now" 560 (r 268),e P "waiting_by" 568 (r 275),e P "is_pressed" 576 (r 282),e P "ends_at" 584 (r 289),e P "take_up" 590 (r 294),e P "take_end" 601 (r 301),e P "take_bell" 609 (r 308),e P "state_now" 616 (r 315),e P "owes" 623 (r 322),e P "lies" 630 (r 329),e P "rings_now" 637 (r 336),e P "all_over" 644 (r 343),e P "parted" 651 (r 350),e P "way_on" 659 (r 357),e P "twin" 666 (r 364),e P "event_on" 673 (r 371),e P "__static_attributes__" 692 (r 372)] 28,#[]⟩,
⟨.none,none,.fields #[i 108,i 4,r 217,i 128,i 4,r 224,i 135,i 4,r 229,i 149,i 4,r 234,i 164,i 4,r 241,i 181,i 4,r 246,i 187,i 4,r 253,i 194,i 4,r 260,i 202,i 4,r 267,i 205,i 4,r 274,i 208,i 4,r 281,i 211,i 4,r 288,i 214,i 4,r 293,i 228,i 4,r 300,i 240,i 4,r 307,i 245,i 4,r 314,i 248,i 4,r 321,i 251,i 4,r 328,i 254,i 4,r 335,i 257,i 4,r 342,i 260,i 4,r 349,i 263,i 4,r 356,i 266,i 4,r 363,i 269,i 4,r 370],#[]⟩,
co "Holder" "Holder" 479 483 [i 106,i 0,i 0,i 0,i 0,r 208,.bool false,i 181,r 209,.none,.none,.none,.none,i 482,i 106],
⟨.type "frame",none,.plain,#[some (r 210),some (r 3),some (r 207),none,some mo5,none,some (r 0)]⟩,
("Holder.__init__",met 33 0,["self", "mill", "state", "rings", "terms"],489,108,5,3,212,mo5),
("Holder.tell",met 33 1,["self", "event"],500,128,2,3,219,mo5),
("Holder.first_broken",met 33 2,[],508,135,2,3,226,mo5),
("Holder.broken_by_end",met 33 3,[],514,149,2,3,231,mo5),
("Holder.broken_by_wrote",met 33 4,["self", "row", "wrote", "right", "is_owed"],520,164,3,3,236,mo5),
("Holder.broken_by_late",met 33 5,[],531,181,2,3,243,mo5),
("Holder.broken_by_down",met 33 6,["self", "event"],537,187,2,3,248,mo5),
("Holder.broken_by_bell",met 33 7,["self", "event", "waiting"],545,194,2,3,255,mo5),
("Holder.row_now",met 33 8,["self"],554,202,1,3,262,mo5),
("Holder.waiting_by",met 33 9,["self", "beat"],561,205,2,3,269,mo5),
("Holder.is_pressed",met 33 10,["self", "beat"],569,208,2,3,276,mo5),
("Holder.ends_at",met 33 11,["self", "beat"],577,211,2,3,283,mo5),
("Holder.take_up",met 33 12,[],585,214,2,3,290,mo5),
("Holder.take_end",met 33 13,["self", "beat", "wrote", "done", "right"],591,228,3,3,295,mo5),
("Holder.take_bell",met 33 14,["self", "k"],602,240,2,3,302,mo5),
("Holder.state_now",met 33 15,["self"],610,245,1,3,309,mo5),
("Holder.owes",met 33 16,["self"],617,248,1,3,316,mo5),
("Holder.lies",met 33 17,["self"],624,251,1,3,323,mo5),
("Holder.rings_now",met 33 18,["self"],631,254,1,3,330,mo5),
("Holder.all_over",met 33 19,["self"],638,257,1,3,337,mo5),
("Holder.parted",met 33 20,["self"],645,260,1,3,344,mo5),
("Holder.way_on",met 33 21,["self", "m"],652,263,2,3,351,mo5),
("Holder.twin",met 33 22,["self"],660,266,1,3,358,mo5),
("Holder.event_on",met 33 23,["self"],667,269,1,3,365,mo5),
tu #[.str "beat" 674,.str "cause" 675,.str "ends" 676,.str "ends_of_beat" 677,.str "events" 678,.str "laid" 679,.str "longest" 680,.str "mill" 681,.str "owed" 682,.str "patience" 683,.str "pressed" 684,.str "queue" 685,.str "rings" 686,.str "room" 687,.str "state" 688,.str "taken" 689,.str "terms" 690,.str "width" 691],
⟨.type "dict",none,.dict #[e P "__module__" 484 mo5,e P "__firstlineno__" 488 (.int 106 487),e P "__init__" 499 (r 218),e P "tell" 507 (r 225),e P "first_broken" 513 (r 230),e P "broken_by_end" 519 (r 235),e P "broken_by_wrote" 530 (r 242),e P "broken_by_late" 536 (r 247),e P "broken_by_down" 544 (r 254),e P "broken_by_bell" 553 (r 261),e P "row_now" 560 (r 268),e P "waiting_by" 568 (r 275),e P "is_pressed" 576 (r 282),e P "ends_at" 584 (r 289),e P "take_up" 590 (r 294),e P "take_end" 601 (r 301),e P "take_bell" 609 (r 308),e P "state_now" 616 (r 315),e P "owes" 623 (r 322),e P "lies" 630 (r 329),e P "rings_now" 637 (r 336),e P "all_over" 644 (r 343),e P "parted" 651 (r 350),e P "way_on" 659 (r 357),e P "twin" 666 (r 364),e P "event_on" 673 (r 371),e P "__static_attributes__" 692 (r 372),e P "__dict__" 694 (r 375),e P "__weakref__" 696 (r 376),e P "__doc__" 697 .none] 4,#[]⟩,
⟨.type "type",none,.cls ⟨"Holder",[.type "object"],[r 374,.type "object"],373, "Holder",true,[],[],false,none,false⟩,#[none,none,some (.str "Holder" 477),some (.str "Holder" 485),some (.builtin "object.__new__"),some (.bool true)]⟩,
⟨.type "getset_descriptor",none,.fields #[.str "__dict__" 693,r 374,.builtin "function.__dict__",.builtin "function.__dict__#set"],#[]⟩,
⟨.type "getset_descriptor",none,.fields #[.str "__weakref__" 695,r 374,.builtin "ExceptionGroup.__weakref__",.none],#[]⟩,
⟨.type "super",none,.fields #[r 374,r 374,r 374],#[]⟩,
⟨.type "builtin_function_or_method",none,.fields #[.builtin "object.__init_subclass__",r 374],#[]⟩,
⟨.type "dict",none,.dict #[e P "__name__" 165 mo6,e P "__doc__" 166 .none,e P "__package__" 167 .none,e P "__loader__" 168 (.builtin "__main__.__loader__#opaque"),e P "__spec__" 169 .none,e P "__annotations__" 170 (r 6),e P "__builtins__" 171 (r 4),e P "__file__" 173 (.str "/claim/cut.py" 172),e P "__cached__" 174 .none,e P "_wall" 193 (r 21),e P "MakeError" 213 (r 31),e P "Resting" 229 (r 44),e P "NoBell" 245 (r 56),e P "Shut" 261 (r 68),e P "CELLS" 265 (.int 16 264),e P "WORTHS" 267 (.int 4294967296 266),e P "PARTS" 307 (r 71),e P "SLOW_WORDS" 310 (r 82),e P "wrapped" 317 (r 89),e P "cell_at" 325 (r 96),e P "spots_read" 335 (r 103),e P "spot_written" 344 (r 110),e P "is_slow" 351 (r 117),e P "worth_got" 365 (r 124),e P "what_it_writes" 375 (r 131),e P "place_behind" 385 (r 138),e P "is_shut_behind" 393 (r 145),e P "kept_behind" 401 (r 152),e P "is_bell" 409 (r 159),e P "bells_rung" 415 (r 164),e P "bells_waiting" 421 (r 169),e P "rests" 431 (r 176),e P "with_written" 441 (r 183),e P "step" 456 (r 190),e P "bell" 465 (r 197),e P "thing_of" 474 (r 204),e P "Holder" 699 (r 374),e P "parting" 712 (r 385),e P "_law_bag" 724 (r 392),e P "_law_draw" 735 (r 399),e P "_law_far" 744 (r 406),e P "_law_worth" 752 (r 413),e P "_law_row" 766 (r 420),e P "_law_wrote" 777 (r 427),e P "_law_diary" 794 (r 434),e P "_law_other_thing" 807 (r 441),e P "_law_other_worth" 817 (r 448),e P "_law_spoilt" 832 (r 455),e P "_law_right" 840 (r 462),e P "_law_asked" 853 (r 469),e P "_law_state" 859 (r 474)] 51,#[]⟩,
⟨.none,none,.fields #[i 1,i 0,r 20,i 5,i 0,r 27,i 7,i 0,r 40,i 9,i 0,r 52,i 11,i 0,r 64,i 18,i 0,r 88,i 20,i 0,r 95,i 22,i 0,r 102,i 28,i 0,r 109,i 33,i 0,r 116,i 36,i 0,r 123,i 49,i 0,r 130,i 56,i 0,r 137,i 62,i 0,r 144,i 68,i 0,r 151,i 70,i 0,r 158,i 72,i 0,r 163,i 74,i 0,r 168,i 78,i 0,r 175,i 80,i 0,r 182,i 85,i 0,r 189,i 96,i 0,r 196,i 103,i 0,r 203,i 106,i 0,r 210,i 271,i 0,r 384,i 278,i 0,r 391,i 288,i 0,r 398,i 299,i 0,r 405,i 304,i 0,r 412,i 311,i 0,r 419,i 326,i 0,r 426,i 344,i 0,r 433,i 357,i 0,r 440,i 368,i 0,r 447,i 376,i 0,r 454,i 390,i 0,r 461,i 398,i 0,r 468,i 404,i 0,r 473],#[]⟩,
("parting",top 34,["mill", "state", "rings", "terms", "diary", "holder", "event"],700,271,5,3,379,mo5),
("_law_bag",top 36,["script", "great", "fold", "cell"],715,278,1,3,386,mo6),
("_law_draw",top 37,["bag", "many", "great", "one", "mixed"],725,288,2,3,393,mo6),
("_law_far",top 38,["bag", "far", "k"],736,299,1,3,400,mo6),
("_law_worth",top 39,["bag", "kind"],745,304,1,3,407,mo6),
("_law_row",top 40,["bag", "place", "many", "kind", "d", "a", "b", "n"],753,311,3,3,414,mo6),
("_law_wrote",top 41,["row", "spots", "cells", "at", "worth"],767,326,3,3,421,mo6),
("_law_diary",top 42,["rows", "state", "width", "base", "spots", "cells", "diary", "seats", "n", "beat", "wrote"],778,344,4,3,428,mo6),
("_law_other_thing",top 43,["bag", "wrote", "kind", "word", "number", "worth", "size"],795,357,2,3,435,mo6),
("_law_other_worth",top 44,["bag", "wrote", "kind", "worth"],808,368,2,3,442,mo6),
("_law_spoilt",top 45,["bag", "spoil", "event", "ahead", "name", "beat", "place", "wrote", "off"],818,376,4,3,449,mo6),
("_law_right",top 46,["found", "due"],833,390,2,3,456,mo6),
("_law_asked",top 47,["mill", "state", "terms", "diary", "due", "handed", "rings"],841,398,5,3,463,mo6),
("_law_state",top 48,[],854,404,2,3,470,mo6),
⟨.type "dict",none,.dict #[e P "__name__" 165 mo6,e P "__doc__" 166 .none,e P "__package__" 167 .none,e P "__loader__" 168 (.builtin "__main__.__loader__#opaque"),e P "__spec__" 169 .none,e P "__annotations__" 170 (r 6),e P "__builtins__" 171 (r 4),e P "__file__" 173 (.str "/claim/cut.py" 172),e P "__cached__" 174 .none,e P "_wall" 193 (r 21),e P "MakeError" 213 (r 31),e P "Resting" 229 (r 44),e P "NoBell" 245 (r 56),e P "Shut" 261 (r 68),e P "CELLS" 265 (.int 16 264),e P "WORTHS" 267 (.int 4294967296 266),e P "PARTS" 307 (r 71),e P "SLOW_WORDS" 310 (r 82),e P "wrapped" 317 (r 89),e P "cell_at" 325 (r 96),e P "spots_read" 335 (r 103),e P "spot_written" 344 (r 110),e P "is_slow" 351 (r 117),e P "worth_got" 365 (r 124),e P "what_it_writes" 375 (r 131),e P "place_behind" 385 (r 138),e P "is_shut_behind" 393 (r 145),e P "kept_behind" 401 (r 152),e P "is_bell" 409 (r 159),e P "bells_rung" 415 (r 164),e P "bells_waiting" 421 (r 169),e P "rests" 431 (r 176),e P "with_written" 441 (r 183),e P "step" 456 (r 190),e P "bell" 465 (r 197),e P "thing_of" 474 (r 204),e P "Holder" 699 (r 374),e P "parting" 712 (r 385),e P "_law_bag" 724 (r 392),e P "_law_draw" 735 (r 399),e P "_law_far" 744 (r 406),e P "_law_worth" 752 (r 413),e P "_law_row" 766 (r 420),e P "_law_wrote" 777 (r 427),e P "_law_diary" 794 (r 434),e P "_law_other_thing" 807 (r 441),e P "_law_other_worth" 817 (r 448),e P "_law_spoilt" 832 (r 455),e P "_law_right" 840 (r 462),e P "_law_asked" 853 (r 469),e P "_law_state" 859 (r 474),e P "_law_end_more" 871 (r 481),e P "law" 877 (r 486)] 53,#[]⟩,
⟨.none,none,.fields #[i 1,i 0,r 20,i 5,i 0,r 27,i 7,i 0,r 40,i 9,i 0,r 52,i 11,i 0,r 64,i 18,i 0,r 88,i 20,i 0,r 95,i 22,i 0,r 102,i 28,i 0,r 109,i 33,i 0,r 116,i 36,i 0,r 123,i 49,i 0,r 130,i 56,i 0,r 137,i 62,i 0,r 144,i 68,i 0,r 151,i 70,i 0,r 158,i 72,i 0,r 163,i 74,i 0,r 168,i 78,i 0,r 175,i 80,i 0,r 182,i 85,i 0,r 189,i 96,i 0,r 196,i 103,i 0,r 203,i 106,i 0,r 210,i 271,i 0,r 384,i 278,i 0,r 391,i 288,i 0,r 398,i 299,i 0,r 405,i 304,i 0,r 412,i 311,i 0,r 419,i 326,i 0,r 426,i 344,i 0,r 433,i 357,i 0,r 440,i 368,i 0,r 447,i 376,i 0,r 454,i 390,i 0,r 461,i 398,i 0,r 468,i 404,i 0,r 473,i 408,i 0,r 480,i 412,i 0,r 485],#[]⟩,
("_law_end_more",top 49,["bag", "beat", "many", "first", "late", "place"],860,408,4,3,475,mo6),
("law",top 50,[],872,412,1,3,482,mo6)]
end
section
local macro_rules
 | `(#[$k:num])=>do
  let mut x:Array Lean.Term:=#[]
  let mut d:Array Lean.Term:=#[]
  let mut v:Lean.Term <- `([])
  let mut u:Array (Nat×Lean.Term):=#[]
  let mut m:=0
  for c in "b- b- b 301 b- b- b- b- b- b- b- 11- n- 13- 14- 11 12- 17 11 18- 19 20 21 22- 23- 11- 12- 24- 25- 11 26 41 28 29- 30- 31 22- 32- 11- 12- 33- 34- 11 35 36 37- 38- 31 22- 42- 11- 12- 43- 44- 11 45 46 47- 48- 31 22- 49- 11- 12- 50- 51- 11 52 53 54- 55- 58 59 60 61 62 63 64 65 11 11 11 66 11 12- 67 11 68- 69 70 11 12- 71 11 72- 73 74 11 12- 75 11 76- 77 78 11 12- 79 11 80- 81 82 11 12- 83 11 84- 85 86 11 12- 87 11 88- 89 90 11 12- 91 11 92- 93 94 11 12- 95 11 96- 97 98 11 12- 99 11 100- 101 102 11 12- 105 11 106- 107 108 11 12- 109 11 110- 111 112 11 12- 113- 114 115 11 12- 116- 117 118 11 12- 119 11 120- 121 122 11 12- 123 11 124- 125 126 11 12- 127 11 128- 129 130 11 12- 131 11 132- 133 134 11 12- 135 11 136- 137 138 11- 22- 141- 11- 142- 143- 144- 11 12- 145 11 146- 147 148 11 12- 149 11 150- 151 152 11 12- 153- 154 155 11 12- 156- 157 158 11 12- 159 11 160- 161 162 11 12- 163- 164 165 11 12- 166 11 167- 168 169 11 12- 170 11 171- 172 173 11 12- 174 11 175- 176 177 11 12- 178 11 179- 180 181 11 12- 182 11 183- 184 185 11 12- 186 11 187- 188 189 11 12- 190- 191 192 11 12- 193 11 194- 195 196 11 12- 197 11 198- 199 200 11 12- 201 11 202- 203 204 11 12- 205 11 206- 207 208 11 12- 209 11 210- 211 212 11 12- 213 11 214- 215 216 11 12- 217 11 218- 219 220 11 12- 221 11 222- 223 224 11 12- 225 11 226- 227 228 11 12- 229 11 230- 231 232 11 12- 233 11 234- 235 236 237 238 239 240 241 242- 243- 11 12- 246 11 247- 248 249 11 12- 250 11 251- 252 253 11 12- 254 11 255- 256 257 11 12- 258 11 259- 260 261 11 12- 262 11 263- 264 265 11 12- 266 11 267- 268 269 11 12- 270 11 271- 272 273 11 12- 274 11 275- 276 277 11 12- 278 11 279- 280 281 11 12- 282 11 283- 284 285 11 12- 286 11 287- 288 289 11 12- 290 11 291- 292 293 11 12- 294 11 295- 296 297 11 12- 298- 299 300 11 12- n 11 n- n n 11 12- n- n n".splitOn " " do
   let e:=c.takeWhile (· != '-')
   let j:=x.size
   let w:=if e == "n" then m+1 else e.toNat?.getD 0
   m:=max m w
   let o:Lean.Term:=Lean.mkIdent (.mkSimple (if e == "b" then s!"boot_o_{j}" else s!"a{w}"))
   x:=x.push o
   if e == c then
    u:=u.push (j,o)
  for (j,o) in u.reverse do
   v <- `((nat_lit $(Lean.Syntax.mkNumLit s!"{j}"),$o $(Lean.mkIdent `P))::$v)
  d:=u.map fun y=>Lean.quote y.1
  if k.getNat == 0 then `([$x,*])else if k.getNat == 1 then return v else `([$d,*])
noncomputable def hs:List O:=#[0]
noncomputable def K:Params->Frag:=fun P=>#[1]
def ad:List Nat:=#[2]
end
noncomputable def q:Program:=view PySem.Challenge.pw_twomakes_k22_ends_that_break_a_rule [0,2,3,4,5,7,8,9,10,11,12,13,14,15,17,18,19,20,21,22,23,24,26,27,28,29,31,33,34,36,37,38,39,40,41,42,43,44,45,46,47,48,49,50]
def lo:List Str:=["PARTS"]
lay_quick PySem.Challenge.pw_twomakes_k22_ends_that_break_a_rule top met q lo
noncomputable abbrev pF:Program:=PySem.W.Fast.tw15409616181324307463
noncomputable def h0:List O:=[boot_o_0,boot_o_1,boot_o_2,boot_o_3,boot_o_4,boot_o_5,boot_o_6,boot_o_7,boot_o_8,boot_o_9,boot_o_10,a11,a12,a13,a14]
noncomputable def h1:List O:=(((hs.take 47).set 3 a15).set 12 a16).set 31 a27
noncomputable def h2:List O:=((hs.take 71).set 3 a39).set 12 a40
noncomputable def h3:List O:=((hs.take 146).set 3 a56).set 12 a57
noncomputable def h4:List O:=((hs.take 205).set 3 a103).set 12 a104
noncomputable def h5:List O:=((hs.take 379).set 3 a139).set 12 a140
noncomputable def h6:List O:=((hs.take 475).set 3 a244).set 12 a245
def lf:Life:=⟨[],[],[],0,[],[],false,#[],[],0,false,false,false,0,[2000,10,10],false,0,true,[],[],0,false⟩
noncomputable def hA:Params->Heap:=fun P=>⟨(h0.map (· P)).toArray,lf⟩
noncomputable def hF:Params->Heap:=fun P=>⟨(hs.map (· P)).toArray,lf⟩
noncomputable def ev:Env:={ scope:=pF.main.scope,locals:=mainNs,globals:=mainNs,cells:=[],code:=r 13,frame:=some 14 }
noncomputable abbrev bF:List Stmt:=behindTheImports pF
noncomputable abbrev cF:Code:=.body bF ev
abbrev fB:List Frame:=[topFrame ⟨0,0,0,0⟩]
theorem pre(w:World)(os:OsState):topGo treeTable pF w 11 (some (r 6)) 12 ⟨boot_heap w.params,#[],boot_drawn,boot_toks,os⟩ (topStub pF)=some (⟨hA w.params,#[],⟨0,0,0,0⟩,187,os⟩,⟨denote treeTable cF,cF,⟨0,0,0,0⟩,fB⟩):=by
 rw[PySem.W.Fast.te15667345088766844465,aar,PySem.W.Fast.te11892475500146522536];kernel_rfl
theorem blk(w:World)(os:OsState):segRun treeTable pF w 11 (some (r 6)) 1 1 ⟨hA w.params,#[],⟨0,0,0,0⟩,187,os⟩ (blockOf bF ev cF ⟨0,0,0,0⟩ fB)=some (.next,SharedT.abs ⟨bt w.params 10 h0,15,lf,#[],⟨0,0,0,0⟩,187,os⟩,cF,⟨0,0,0,0⟩):=by
 rw[PySem.W.Fast.te14374325043358763698,aar];kernel_rfl
noncomputable def g0:List Stmt:=(bF.drop 0).take 4
theorem p0(w:World)(os:OsState):segRunT treeTable pF w 11 (some (r 6)) 1 438 ⟨bt w.params 10 h0,15,lf,#[],⟨0,0,0,0⟩,187,os⟩ (piecesOf g0 ev cF ⟨0,0,0,0⟩ fB)=some (.next,⟨bt w.params 14 h1,47,lf,#[],⟨0,0,0,0⟩,230,os⟩,cF,⟨7,0,8,8⟩):=by
 rw[aax,aar];kernel_rfl
noncomputable def g1:List Stmt:=(bF.drop 4).take 5
theorem p1(w:World)(os:OsState):segRunT treeTable pF w 11 (some (r 6)) 1 454 ⟨bt w.params 14 h1,47,lf,#[],⟨0,0,0,0⟩,230,os⟩ (piecesOf g1 ev cF ⟨7,0,8,8⟩ fB)=some (.next,⟨bt w.params 14 h2,71,lf,#[],⟨0,0,0,0⟩,268,os⟩,cF,⟨15,0,15,6⟩):=by
 rw[aax,aar];kernel_rfl
noncomputable def g2:List Stmt:=(bF.drop 9).take 12
theorem p2(w:World):∀ os:OsState,segRunT treeTable pF w 11 (some (r 6)) 1 490 ⟨bt w.params 14 h2,71,lf,#[],⟨0,0,0,0⟩,268,os⟩ (piecesOf g2 ev cF ⟨15,0,15,6⟩ fB)=some (.next,⟨bt w.params 14 h3,146,lf,#[],⟨0,0,0,0⟩,394,os⟩,cF,⟨62,0,67,15⟩):=by
 refine byRow2 "special-get-raises" (P:=fun w=>∀ os:OsState,segRunT treeTable pF w 11 (some (r 6)) 1 490 ⟨bt w.params 14 h2,71,lf,#[],⟨0,0,0,0⟩,268,os⟩ (piecesOf g2 ev cF ⟨15,0,15,6⟩ fB)=some (.next,⟨bt w.params 14 h3,146,lf,#[],⟨0,0,0,0⟩,394,os⟩,cF,⟨62,0,67,15⟩)) ?_ ?_ w
 ·intro w os;rw[aax,aar];kernel_rfl
 ·intro w os;rw[aax,aar];kernel_rfl
noncomputable def g3:List Stmt:=(bF.drop 21).take 12
theorem p3(w:World)(os:OsState):segRunT treeTable pF w 11 (some (r 6)) 1 299 ⟨bt w.params 14 h3,146,lf,#[],⟨0,0,0,0⟩,394,os⟩ (piecesOf g3 ev cF ⟨62,0,67,15⟩ fB)=some (.next,⟨bt w.params 14 h4,205,lf,#[],⟨0,0,0,0⟩,477,os⟩,cF,⟨105,0,105,8⟩):=by
 rw[aax,aar];kernel_rfl
noncomputable def g4:List Stmt:=(bF.drop 33).take 1
theorem p4(w:World)(os:OsState):segRunT treeTable pF w 11 (some (r 6)) 1 961 ⟨bt w.params 14 h4,205,lf,#[],⟨0,0,0,0⟩,477,os⟩ (piecesOf g4 ev cF ⟨105,0,105,8⟩ fB)=some (.next,⟨bt w.params 14 h5,379,lf,#[],⟨0,0,0,0⟩,700,os⟩,cF,⟨106,0,270,16⟩):=by
 rw[aax,aar];kernel_rfl
noncomputable def g5:List Stmt:=(bF.drop 34).take 15
theorem p5(w:World)(os:OsState):segRunT treeTable pF w 11 (some (r 6)) 1 474 ⟨bt w.params 14 h5,379,lf,#[],⟨0,0,0,0⟩,700,os⟩ (piecesOf g5 ev cF ⟨106,0,270,16⟩ fB)=some (.next,⟨bt w.params 14 h6,475,lf,#[],⟨0,0,0,0⟩,860,os⟩,cF,⟨404,0,407,62⟩):=by
 rw[aax,aar];kernel_rfl
noncomputable def g6:List Stmt:=(bF.drop 49).take 2
theorem p6(w:World)(os:OsState):segRunT treeTable pF w 11 (some (r 6)) 1 61 ⟨bt w.params 14 h6,475,lf,#[],⟨0,0,0,0⟩,860,os⟩ (piecesOf g6 ev cF ⟨404,0,407,62⟩ fB)=some (.next,⟨bt w.params 14 hs,487,lf,#[],⟨0,0,0,0⟩,878,os⟩,cF,⟨412,0,447,64⟩):=by
 rw[aax,aar];kernel_rfl
theorem fin(w:World)(os:OsState):topRun treeTable pF w 11 (some (r 6)) 2 (SharedT.abs ⟨bt w.params 14 hs,487,lf,#[],⟨0,0,0,0⟩,878,os⟩) ⟨doneF .next,cF,⟨412,0,447,64⟩,fB⟩=some ⟨hF w.params,#[],⟨0,0,0,0⟩,878,os⟩:=by
 rw[PySem.W.Fast.te14082659384304107361,aar];kernel_rfl
theorem run(w:World)(os:OsState):topRun treeTable pF w 11 (some (r 6)) 3192 ⟨boot_heap w.params,#[],boot_drawn,boot_toks,os⟩ (topStub pF)=some ⟨hF w.params,#[],⟨0,0,0,0⟩,878,os⟩ :=
 go_top (n:=12) (N:=3180) (pre w os) (piece_block (n:=1) (N:=3179) (blk w os) (acY (n:=438) (N:=2741) (l:=g0) (acZ (p0 w os)) (acY (n:=454) (N:=2287) (l:=g1) (acZ (p1 w os)) (acY (n:=490) (N:=1797) (l:=g2) (acZ (p2 w os)) (acY (n:=299) (N:=1498) (l:=g3) (acZ (p3 w os)) (acY (n:=961) (N:=537) (l:=g4) (acZ (p4 w os)) (acY (n:=474) (N:=63) (l:=g5) (acZ (p5 w os)) (acY (n:=61) (N:=2) (l:=g6) (acZ (p6 w os)) (fin w os)))))))))
theorem size(w:World):((boot_heap w.params).isNs mainGlobals&&(#[]:Array GenState).size == 0,(boot_heap w.params).objs.size,(boot_heap w.params).nsMap mainGlobals "__annotations__")=(true,11,some (r 6)):=by
 rw[PySem.W.Fast.te8920871248978507458];kernel_rfl
theorem opn:∀ w:World,(fencedOpening treeTable pF w 6466).map (fun s=>(s.heap,s.gens,s.drawn,s.toks))=some (boot_heap w.params,Array.mk [],boot_drawn,boot_toks) :=
 boot_open (by kernel_rfl) (by decide) (fun s=>by kernel_rfl)
noncomputable def KF:Params->Frag:=fun P=>ad.map fun a=>(a,(hF P).objs.getD a default)
theorem kk(P:Params):K P=KF P:=by kernel_rfl
theorem kad(P:Params):ad=(K P).map (·.1):=by kernel_rfl
noncomputable abbrev qF:Program:=PySem.W.Fast.tw10864540243056024213
noncomputable abbrev loF:List Str:=PySem.W.Fast.tw4157161825967734599
theorem lA(w:World)(os:OsState):(staticsOk (importedModules pF.main.body) (boot_heap w.params) (hF w.params)&&namesBound pF (hF w.params)&&gensDone (⟨hF w.params,#[],⟨0,0,0,0⟩,878,os⟩:Shared)&&laidKept (boot_heap w.params) (hF w.params))=true:=by
 rw[aci];kernel_rfl
theorem lS(w:World)(os:OsState):openSeen qF loF (importedModules pF.main.body) (fun s=>xlAt qF [] s&&recOk [] s) true (⟨hF w.params,#[],⟨0,0,0,0⟩,878,os⟩:Shared)=openGood qF loF:=by
 unfold openSeen openGood;refine ab7 ?_ (ab7 ?_ (ab7 ?_ (ab7 ?_ (ab7 ?_ (ab7 ?_ (ab7 ?_ (ab7 ?_ ?_)))))))
 all_goals ((repeat (first | rw[PySem.W.Fast.te2386780881361962483] | rw[PySem.W.Fast.te821141287760084731] | rw[PySem.W.Fast.te11698064438423848299] | rw[PySem.W.Fast.te7317090234206586261] | rw[PySem.W.Fast.te7369524293546568484] | rw[PySem.W.Fast.te5160383126252970620] | rw[PySem.W.Fast.te3399658132070893891] | rw[PySem.W.Fast.te5991557255702980513] | rw[aci] | rw[PySem.W.Fast.te10880121769531294198] | rw[PySem.W.Fast.te7409074990110511671] | rw[PySem.W.Fast.te13664370479719496447] | rw[PySem.W.Fast.te14722251495701143533] | rw[PySem.W.Fast.te10994771534591457954] | rw[PySem.W.Fast.te16090120013241838585] | rw[PySem.W.Fast.te3247288618530077131] | rw[PySem.W.Fast.te479339242167458305]));kernel_rfl)
theorem lY(w:World)(os:OsState):ad.map (Shared.heap (⟨hF w.params,#[],⟨0,0,0,0⟩,878,os⟩:Shared)).get?=(KF w.params).map fun p=>some p.2:=by kernel_rfl
theorem left:LeftO PySem.Challenge.pw_twomakes_k22_ends_that_break_a_rule q lo (fun s=>xlAt q [] s&&recOk [] s) (fun s=>ad.map s.heap.get?) (fun w=>(K w.params).map fun p=>some p.2) 6466:=by
 rw[PySem.W.Fast.te15409616181324307463,PySem.W.Fast.te10864540243056024213,PySem.W.Fast.te4157161825967734599];refine LeftO.of_pieces opn size run (by decide) fun w=>?_;funext os;exact ab7 (lA w os) (ab7 (lS w os) ((lY w os).trans (abz (fun l=>List.map (fun p=>some p.2) l) (kk w.params).symm)))
end HD
namespace T1
open PySem L2
theorem nB{α:Type}(us:List α)(hl:us.length=1):∃ a0,us=[a0]:=by
 cases us with
 | nil=>cases hl
 | cons a r =>
  have e:r=[]:=abp.mp (acR hl);exact⟨a,by rw[e]⟩
theorem tP{α:Type}(us:List α)(hl:us.length=2):∃ a0 a1,us=[a0,a1]:=by
 cases us with
 | nil=>cases hl
 | cons a r =>
  obtain⟨a0,e⟩:=nB r (acR hl);exact⟨a,a0,by rw[e]⟩
theorem tQ{α:Type}(us:List α)(hl:us.length=3):∃ a0 a1 a2,us=[a0,a1,a2]:=by
 cases us with
 | nil=>cases hl
 | cons a r =>
  obtain⟨a0,a1,e⟩:=tP r (acR hl);exact⟨a,a0,a1,by rw[e]⟩
theorem tR{α:Type}(us:List α)(hl:us.length=4):∃ a0 a1 a2 a3,us=[a0,a1,a2,a3]:=by
 cases us with
 | nil=>cases hl
 | cons a r =>
  obtain⟨a0,a1,a2,e⟩:=tQ r (acR hl);exact⟨a,a0,a1,a2,by rw[e]⟩
theorem CS{α:Type}(us:List α)(hl:us.length=5):∃ a0 a1 a2 a3 a4,us=[a0,a1,a2,a3,a4]:=by
 cases us with
 | nil=>cases hl
 | cons a r =>
  obtain⟨a0,a1,a2,a3,e⟩:=tR r (acR hl);exact⟨a,a0,a1,a2,a3,by rw[e]⟩
theorem qV{K:PySem.W.Frag}{C:Addr}(q:PySem.W.excIn K C [.type "ValueError",.type "Exception",.type "BaseException",.type "object"] "ValueError.__new__"=true):pE K C:=by
 intro h X;unfold PySem.W.excIn at q;split at q
 ·rename_i dd cd sl ho;split at q
  ·rename_i C' bm k0 k1 k2 k3 n k5 hm hs;simp only[aas,abT,Bool.not_eq_true']at q;obtain⟨⟨⟨⟨⟨rfl,rfl⟩,OS⟩,ht⟩,bN⟩,Pm⟩:=q;obtain⟨nm,bs,mro,ns,qn,hd,sn,sub,ab,col,del⟩:=cd;dsimp only at hm OS bN Pm;subst hm OS;have zv:sl=#[k0,k1,k2,k3,some (.builtin "ValueError.__new__"),k5]:=by
    obtain⟨l⟩:=sl;simp only at hs;rw[hs]
   subst zv;have T:=PySem.W.tail_of_in X ht;exact⟨nm,qn,ns,bs,bm,hd,sn,sub,ab,col,dd,k0,k1,k2,k3,k5,_,X _ _ ho,.of_isNs (PySem.W.isNs_of_in X bN),PySem.W.nsMap_none_of_in X bN Pm,T,T.hasType rfl⟩
  ·cases q
 ·cases q
theorem FO{K:PySem.W.Frag}{t C:Addr}{cd:ClassData}{b:Bool}(hc:PySem.W.clsIn K C=some cd)(ht:PySem.W.typeIn K (.ref C)=some (.type "type"))(hs:PySem.W.subIn K (.ref t) (.ref C)=some b):PySem.W.kitCls K (.ref t) (.ref C)=some b:=by
 unfold PySem.W.kitCls;simp only[hc,ht];exact hs
theorem Tt{K:PySem.W.Frag}{t C:Addr}{cd:ClassData}{b:Bool}(oh:(Value.ref t == Value.ref C)=false)(hc:PySem.W.clsIn K C=some cd)(ht:PySem.W.typeIn K (.ref C)=some (.type "type"))(hs:PySem.W.subIn K (.ref t) (.ref C)=some b):PySem.W.kitOne K (.ref t) (.ref C)=some b:=by
 unfold PySem.W.kitOne;rw[aao (by rw[oh];decide)];exact FO hc ht hs
theorem P5{K:PySem.W.Frag}{t:Addr}(mV:PySem.W.kitMeta "ValueError"=true)(sV:PySem.W.subIn K (.ref t) (.type "ValueError")=some true):PySem.W.kitOne K (.ref t) (.type "ValueError")=some true:=by
 show(if(Value.ref t == Value.type "ValueError")=true then some true else if PySem.W.kitMeta "ValueError"=true then PySem.W.subIn K (.ref t) (.type "ValueError")else none)=some true;rw[aao (by intro z;cases (abT.mp z)),aau mV];exact sV
theorem Tu{K:PySem.W.Frag}{t:Value}{c:Value}{r:List Value}(h:PySem.W.kitOne K t c=some false)(hr:PySem.W.kitAny K t r=some false):PySem.W.kitAny K t (c::r)=some false:=by
 unfold PySem.W.kitAny;rw[h];exact hr
def Df(K:PySem.W.Frag)(x:Str)(st:Stmt)(ps:List Str)(f:Addr):Prop:=∀{h:Heap} {mg:Str->Option Value},K.In h->h.Ns mainGlobals mg->∃ fd,cA K x x st f fd/\PySem.W.keepIn K (.ref f)=true/\mg x=some (.ref f)/\Binds K fd ps []
theorem bK{K:PySem.W.Frag}{x:Str}{st:Stmt}{ps:List Str}{f:Addr}{oc:Value}{od an:Option Addr}{ux:Array (Option Value)}{kV doc pm bq ct:Value}(a:PySem.W.nsIn K mainGlobals x=some (some (.ref f)):=by k_is)(l:K.lookup f=some ⟨oc,od,.func (PySem.W.fnOf x x (defArgs st) (defBody st) (defScope st) .none kV doc pm an bq ct),ux⟩:=by k_is)
  (c:PySem.W.codeIn K bq x=true:=by k_is) (k:PySem.W.keepIn K (.ref f)=true:=by k_is) (b:∀ fd,cA K x x st f fd->Binds K fd ps []:=by exact fun _ F=>F.binds fun _ _ _ _ _ _ us hl=>by first | rfl | (obtain rfl:=List.eq_nil_of_length_eq_zero hl;rfl) | (obtain⟨_,rfl⟩:=T1.nB us hl;rfl) | (obtain⟨_,_,rfl⟩:=T1.tP us hl;rfl) | (obtain⟨_,_,_,rfl⟩:=T1.tQ us hl;rfl) | (obtain⟨_,_,_,_,rfl⟩:=T1.tR us hl;rfl) | (obtain⟨_,_,_,_,_,rfl⟩:=T1.CS us hl;rfl)):Df K x st ps f:=fun X G=>⟨_,jN l c k,(jN l c k).kp,abn X G a,b _ (jN l c k)⟩
theorem iL{K:PySem.W.Frag}{a:Addr}{od:Option Addr}{aL:Array Value}{m:Nat}{sl:Array (Option Value)}{xs:List V}(h:K.lookup a=some ⟨.type "tuple",od,.seq aL m,sl⟩)(hz:aL.size<=sizeLine)(hv:Vals xs aL.toList)(H:Hp):eY K H a xs:=.inr ⟨_,aL,m,h,rfl,rfl,hz,hv⟩
theorem oU{α β:Type}[BEq α][LawfulBEq α]{a:α}{b:β}:∀{l:List (α×β)},(a,b)∈l->l.lookup a=none->False
 | (x,y)::r,h,n=>by
  rw[aaM]at n;split at n
  ·cases n
  ·rename_i e;rcases aaf.mp h with z | z
   ·injection z with z1 _
    rw[z1,ac5]at e;cases e
   ·exact oU z n
theorem CT{K:PySem.W.Frag}{w:World}{aP:Addr}{ep:Nat}{h1 h2 h3 h4 h5 h6 h7 h8 h9 VF:Int}{t1 t2 t3 t4 t5 t6 t7 t8 t9 YE:Tok}{p1 p2 p3 p4 p5 p6 p7 p8 p9 Tv:Addr}
  (lP:K.lookup aP=some ⟨.type "dict",none,.dict #[⟨h1,.str "put" t1,.ref p1⟩,⟨h2,.str "sum" t2,.ref p2⟩,⟨h3,.str "mul" t3,.ref p3⟩,⟨h4,.str "less" t4,.ref p4⟩,⟨h5,.str "take" t5,.ref p5⟩,⟨h6,.str "lay" t6,.ref p6⟩,⟨h7,.str "go" t7,.ref p7⟩,⟨h8,.str "shut" t8,.ref p8⟩,⟨h9,.str "open" t9,.ref p9⟩,⟨VF,.str "home" YE,.ref Tv⟩] ep,#[]⟩) (ne:(aP == sysModules)=false)
  (e1:h1=hashStr w "put") (q1:∀ H,eY K H p1 [.str "d",.str "worth"])
  (e2:h2=hashStr w "sum") (q2:∀ H,eY K H p2 [.str "d",.str "a",.str "b"])
  (e3:h3=hashStr w "mul") (q3:∀ H,eY K H p3 [.str "d",.str "a",.str "b"])
  (e4:h4=hashStr w "less") (q4:∀ H,eY K H p4 [.str "d",.str "a",.str "b"])
  (e5:h5=hashStr w "take") (q5:∀ H,eY K H p5 [.str "d",.str "a",.str "n"])
  (e6:h6=hashStr w "lay") (q6:∀ H,eY K H p6 [.str "b",.str "a",.str "n"])
  (e7:h7=hashStr w "go") (q7:∀ H,eY K H p7 [.str "a",.str "p"])
  (e8:h8=hashStr w "shut") (q8:∀ H,eY K H p8 [])
  (e9:h9=hashStr w "open") (q9:∀ H,eY K H p9 [])
  (e10:VF=hashStr w "home") (q10:∀ H,eY K H Tv [])
  : Parts K w aP:=by
 refine⟨[(Sum.inr "put",.ref p1),(Sum.inr "sum",.ref p2),(Sum.inr "mul",.ref p3),(Sum.inr "less",.ref p4),(Sum.inr "take",.ref p5),(Sum.inr "lay",.ref p6),(Sum.inr "go",.ref p7),(Sum.inr "shut",.ref p8),(Sum.inr "open",.ref p9),(Sum.inr "home",.ref Tv)],⟨⟨_,_,lP,?_⟩,by show([Sum.inr "put",Sum.inr "sum",Sum.inr "mul",Sum.inr "less",Sum.inr "take",Sum.inr "lay",Sum.inr "go",Sum.inr "shut",Sum.inr "open",Sum.inr "home"]:List Key).Nodup;decide +kernel,ne⟩,?_,?_⟩
 ·exact .cons ⟨bY _ _,e1,rfl⟩ (.cons ⟨bY _ _,e2,rfl⟩ (.cons ⟨bY _ _,e3,rfl⟩ (.cons ⟨bY _ _,e4,rfl⟩ (.cons ⟨bY _ _,e5,rfl⟩ (.cons ⟨bY _ _,e6,rfl⟩ (.cons ⟨bY _ _,e7,rfl⟩ (.cons ⟨bY _ _,e8,rfl⟩ (.cons ⟨bY _ _,e9,rfl⟩ (.cons ⟨bY _ _,e10,rfl⟩ (.nil))))))))))
 ·intro x ps hx;have m:=lookup_mem hx;simp only[bI,aaf,Prod.mk.injEq,abx,adj]at m;rcases m with⟨rfl,rfl⟩ | ⟨rfl,rfl⟩ | ⟨rfl,rfl⟩ | ⟨rfl,rfl⟩ | ⟨rfl,rfl⟩ | ⟨rfl,rfl⟩ | ⟨rfl,rfl⟩ | ⟨rfl,rfl⟩ | ⟨rfl,rfl⟩ | ⟨rfl,rfl⟩
  all_goals refine⟨_,by(repeat rw[lN (by intro z;exact absurd (Sum.inr.inj z) (by decide +kernel))]);exact rK rfl,?_⟩
  all_goals assumption
 ·intro x hx;have no:∀ y∈bI.map (·.1),x≠y:=fun y hy e=>by
   obtain⟨⟨z,ps⟩,hz,rfl⟩:=abg.mp hy;rw[e]at hx;exact oU hz hx
  repeat rw[lN (by intro z;exact no _ (by decide +kernel) (Sum.inr.inj z).symm)]
  rfl
theorem all_mk{l:PySem.W.OpenLaw}{w:World}{K:PySem.W.Frag}{h:Heap}{mg:Str->Option Value}{fa:Addr}(X:K.In h)(G:h.Ns mainGlobals mg)(SQ:mg "law"=some (.ref fa))
  {f1:Addr} {f2:Addr} {f3:Addr} {f4:Addr} {f5:Addr} {f6:Addr} {f7:Addr} {f8:Addr} {f9:Addr} {Td:Addr} {Tf:Addr} {Th:Addr} {Tj:Addr} {To:Addr} {Tr:Addr} {Lk:Addr} {YF:Addr} {S5:Addr} {YG:Addr} {YH:Addr} {YI:Addr} {YJ:Addr} {YK:Addr} {YL:Addr} {YM:Addr} {YN:Addr} {YO:Addr} {YQ:Addr} {YR:Addr} {YS:Addr} {YT:Addr} {YU:Addr} {YV:Addr} {Tw KU:Option Addr} {Tx:Array (Option Value)} {Tz KW KY KZ FP K0:Value} {TB:Addr} {xQ:Addr} {jI:Addr} {zp:Tok} {CU:Tok} {oV:Addr} {tT:Addr} {CV:Addr} {tU:Addr}
  (d1:Df K "wrapped" mG ["number"] f1)
  (d2:Df K "cell_at" qf ["worth", "n"] f2)
  (d3:Df K "spots_read" vB ["row"] f3)
  (d4:Df K "spot_written" BF ["row"] f4)
  (d5:Df K "is_slow" B8 ["row"] f5)
  (d6:Df K "worth_got" Kl ["row", "spots", "cells"] f6)
  (d7:Df K "what_it_writes" BG ["row", "spots", "cells"] f7)
  (d8:Df K "place_behind" qg ["row", "place", "spots", "kept"] f8)
  (d9:Df K "is_shut_behind" vi ["row", "shut"] f9)
  (Te:Df K "kept_behind" vj ["row", "kept"] Td)
  (Tg:Df K "is_bell" qh ["mill", "k"] Tf)
  (Ti:Df K "bells_rung" B9 ["rings", "beat"] Th)
  (Tn:Df K "bells_waiting" Ca ["rings", "taken", "beat"] Tj)
  (Tq:Df K "rests" vk ["mill", "state"] To)
  (Ts:Df K "with_written" BH ["worths", "kind", "wrote"] Tr)
  (YW:Df K "step" BI ["mill", "state"] Lk)
  (YX:Df K "bell" BJ ["mill", "state", "k"] YF)
  (YY:Df K "thing_of" vC ["wrote"] S5)
  (YZ:Df K "parting" jE ["mill", "state", "rings", "terms", "diary"] YG)
  (Y0:Df K "_law_bag" Kg ["script"] YH)
  (Y1:Df K "_law_draw" BA ["bag", "many"] YI)
  (Y2:Df K "_law_far" Kj ["bag"] YJ)
  (Y3:Df K "_law_worth" vf ["bag"] YK)
  (Y4:Df K "_law_row" Ky ["bag", "place", "many"] YL)
  (Y5:Df K "_law_wrote" qO ["row", "spots", "cells"] YM)
  (Y6:Df K "_law_diary" vX ["rows", "state", "width", "base"] YN)
  (Y7:Df K "_law_other_thing" Cz ["bag", "wrote"] YO)
  (Y8:Df K "_law_other_worth" CA ["bag", "wrote"] YQ)
  (Y9:Df K "_law_spoilt" qL ["bag", "spoil", "event", "ahead"] YR)
  (Za:Df K "_law_right" vg ["found", "due"] YS)
  (Zb:Df K "_law_asked" vT ["mill", "state", "terms", "diary", "due"] YT)
  (Zc:Df K "_law_state" vP ["bag", "first"] YU)
  (Zd:Df K "_law_end_more" CB ["bag", "beat", "many", "first"] YV)
  (a34:PySem.W.nsIn K mainGlobals "law"=some (some (.ref TB))) (l34:K.lookup TB=some ⟨Tz,Tw,.func (PySem.W.fnOf "law" "law" (defArgs kY) (defBody kY) (defScope kY) .none KW KY KZ KU FP K0),Tx⟩) (c34:PySem.W.codeIn K FP "law"=true) (k34:PySem.W.keepIn K (.ref TB)=true)
  (g_PARTS:PySem.W.nsIn K mainGlobals "PARTS"=some (some (.ref xQ))) (h_PARTS:Parts K w xQ) (g_SLOW_WORDS:PySem.W.nsIn K mainGlobals "SLOW_WORDS"=some (some (.ref jI))) (h_SLOW_WORDS:∀ H,eY K H jI [.str "mul",.str "take"]) (g_WORTHS:PySem.W.nsIn K mainGlobals "WORTHS"=some (some (.int 4294967296 zp))) (g_CELLS:PySem.W.nsIn K mainGlobals "CELLS"=some (some (.int 16 CU))) (g_Resting:PySem.W.nsIn K mainGlobals "Resting"=some (some (.ref oV))) (g_NoBell:PySem.W.nsIn K mainGlobals "NoBell"=some (some (.ref tT))) (g_Shut:PySem.W.nsIn K mainGlobals "Shut"=some (some (.ref CV))) (h_Shut:pE K oV/\pE K tT/\pE K CV) (g_Holder:PySem.W.nsIn K mainGlobals "Holder"=some (some (.ref tU))) (h_Holder:qU K tU)
  (z1:PySem.W.nsIn K mainGlobals "isinstance"=some none) (z2:PySem.W.nsIn K mainGlobals "bool"=some none) (z3:PySem.W.nsIn K mainGlobals "int"=some none) (z4:PySem.W.nsIn K mainGlobals "str"=some none) (z5:PySem.W.nsIn K mainGlobals "list"=some none) (z6:PySem.W.nsIn K mainGlobals "tuple"=some none) (z7:PySem.W.nsIn K mainGlobals "len"=some none) (z8:PySem.W.nsIn K mainGlobals "zip"=some none) (z9:PySem.W.nsIn K mainGlobals "any"=some none) (z10:PySem.W.nsIn K mainGlobals "range"=some none) (z11:PySem.W.nsIn K mainGlobals "sorted"=some none) (z12:PySem.W.nsIn K mainGlobals "set"=some none) (z13:PySem.W.nsIn K mainGlobals "min"=some none) :
  ∃ fd:FuncData,(∀(s:Shared) (v:Value),BindsTo s fd ⟨[v],[]⟩ [("script",v)])/\∀ base:Heap,K.In base->base.Ns mainGlobals mg->aW l.prog w K mg base cI 11 fa fd ["script"] (Bz K):=by
 have e:=SQ.symm.trans (abn X G a34);cases e;obtain⟨_,F1,k1,m1,b1⟩:=d1 X G;obtain⟨_,F2,k2,m2,b2⟩:=d2 X G;obtain⟨_,F3,k3,m3,b3⟩:=d3 X G;obtain⟨_,F4,k4,m4,b4⟩:=d4 X G;obtain⟨_,F5,k5,m5,b5⟩:=d5 X G;obtain⟨_,F6,k6,m6,b6⟩:=d6 X G;obtain⟨_,F7,k7,m7,b7⟩:=d7 X G;obtain⟨_,F8,k8,m8,b8⟩:=d8 X G;obtain⟨_,F9,k9,m9,b9⟩:=d9 X G;obtain⟨_,PY,Sw,S7,Ze⟩:=Te X G;obtain⟨_,PZ,Zf,S8,Zg⟩:=Tg X G;obtain⟨_,P0,Zh,S9,Zi⟩:=Ti X G;obtain⟨_,P1,Zj,Ta,Zk⟩:=Tn X G;obtain⟨_,P2,Zl,Tb,Zm⟩:=Tq X G;obtain⟨_,P4,Vt,Tc,Zn⟩:=Ts X G;obtain⟨_,Zo,Vu,Fy,Zp⟩:=YW X G;obtain⟨_,Zq,S0,Zr,Zs⟩:=YX X G;obtain⟨_,Zt,Zu,Zv,Zw⟩:=YY X G;obtain⟨_,Zx,Zy,Zz,ZA⟩:=YZ X G;obtain⟨_,ZC,ZD,ZE,ZF⟩:=Y0 X G;obtain⟨_,ZG,ZH,ZI,ZJ⟩:=Y1 X G;obtain⟨_,ZK,ZL,ZM,ZN⟩:=Y2 X G;obtain⟨_,ZO,Jb,ZP,ZQ⟩:=Y3 X G;obtain⟨_,ZR,ZS,ZT,ZU⟩:=Y4 X G;obtain⟨_,ZV,ZW,ZX,ZY⟩:=Y5 X G;obtain⟨_,ZZ,Z0,Z1,Z2⟩:=Y6 X G;obtain⟨_,Z3,Z4,Z5,Z6⟩:=Y7 X G;obtain⟨_,Z7,Z8,Z9,b28⟩:=Y8 X G;obtain⟨_,F29,k29,m29,b29⟩:=Y9 X G;obtain⟨_,F30,k30,m30,b30⟩:=Za X G;obtain⟨_,F31,k31,m31,b31⟩:=Zb X G;obtain⟨_,F32,k32,m32,b32⟩:=Zc X G;obtain⟨_,F33,k33,m33,b33⟩:=Zd X G;have VG:=jN (st:=kY) l34 c34 k34;have b34:=VG.binds (ps:=["script"]) fun _ _ _ _ _ _ us hl=>by obtain⟨_,rfl⟩:=nB us hl;rfl
 have m34:=abn X G a34;have cT:=aaO X G z1;have vh:=aaO X G z2;have gz:=aaO X G z3;have BE:=aaO X G z4;have eV:=aaO X G z5;have eB:=aaO X G z6;have bL:=aaO X G z7;have oM:=aaO X G z8;have kF:=aaO X G z9;have cH:=aaO X G z10;have mW:=aaO X G z11;have Ce:=aaO X G z12;have CM:=aaO X G z13;have iS:=abn X G g_PARTS;have gP:=abn X G g_SLOW_WORDS;have mH:=abn X G g_WORTHS;have qk:=abn X G g_CELLS;have j2:=abn X G g_Resting;have mK:=abn X G g_NoBell;have vq:=abn X G g_Shut;have nA:=abn X G g_Holder;refine⟨PySem.W.fnOf "law" "law" (defArgs kY) (defBody kY) (defScope kY) .none KW KY KZ KU FP K0,fun s v=>.of_eq rfl,fun base _ _=>?_⟩;obtain⟨hR,hN,hS⟩:=h_Shut;have N:∀{k:Nat} {x:Str} {f:Addr} {fd:FuncData} {ps:List Str} {sp:Sp},aW l.prog w K mg base cI k f fd ps sp->Binds K fd ps []->PySem.W.keepIn K (.ref f)=true->mg x=some (.ref f)->Dn l.prog w K mg base k x f fd ps sp:=fun a b c d=>⟨a,b,c,d⟩;have NX:∀{k:Nat} {x:Str} {f:Addr} {fd:FuncData} {ps:List Str} {sp:Sp},aW l.prog w K mg base (tX l.prog w) k f fd ps sp->Binds K fd ps []->PySem.W.keepIn K (.ref f)=true->mg x=some (.ref f)->Q0 l.prog w K mg base k x f fd ps sp:=fun a b c d=>⟨a,b,c,d⟩;have D1:=N (vn F1 mH) b1 k1 m1;have D2:=N (yU F2 qk) b2 k2 m2;have D4:=N (E7 F4 iS h_PARTS.mt oM) b4 k4 m4;have D6:=N (Kq F6 D1 D2) b6 k6 m6;have D7:=N (E8 F7 D2 D4 D6) b7 k7 m7;have D8:=N (BY F8) b8 k8 m8;have D9:=N (BZ F9) b9 k9 m9;have D10:=N (B0 PY) Ze Sw S7;have D11:=N (yV PZ bL) Zg Zf S8;have VH:=N (B1 P2 bL) Zm Zl Tb;have D15:=N (E9 P4) Zn Vt Tc;have D16:=NX (Fb hR j2 Zo VH D7 D8 D15 D9 D10) (Zp) Vu Fy;have D17:=NX (Fc hN mK hS vq Zq D11) (Zs) S0 Zr;have D3:=N (Cd F3 iS h_PARTS.mt oM) b3 k3 m3;have D5:=N (Ff F5 gP h_SLOW_WORDS) b5 k5 m5;have D12:=N (Fg P0) Zi Zh S9;have D13:=N (Fh P1 D12 mW Ce) Zk Zj Ta;have D18:=N (Cf Zt) Zw Zu Zv;have D19:=N (FN Zx h_Holder nA D16.calm D17.calm D18 D5 D13 VH D3 D4 bL kF eV) ZA Zy Zz;have FQ:=N (EX ZG) ZJ ZH ZI;have TC:=N (Kk ZK FQ cH) ZN ZL ZM;have TF:=N (BC ZO FQ) ZQ Jb ZP;have D30:=N (BD F30 cT eB bL BE vh gz) b30 k30 m30;have D24:=N (Kz ZR FQ TF) ZU ZS ZT;have D32:=N (CD F32 FQ TF cH eB) b32 k32 m32;have D27:=N (Fv Z3 FQ TF gz) Z6 Z4 Z5;have D28:=N (Fw Z7 FQ) b28 Z8 Z9;have D29:=N (zh F29 FQ TC D27 D28) b29 k29 m29;have D33:=N (Fx F33 FQ TC) b33 k33 m33;have D25:=N (zi ZV gz) ZY ZW ZX;have D26:=N (CK ZZ D25 eV cH bL) Z2 Z0 Z1;have D31:=N (CH F31 D19 D30 eV) b31 k31 m31;exact KI (g1:=fa) (e1:=PySem.W.fnOf "law" "law" (defArgs kY) (defBody kY) (defScope kY) .none KW KY KZ KU FP K0) VG ⟨Kh ZC,ZF,ZD,ZE⟩ FQ TC D24 D32 D26 D31 D33 D29 cH eB bL CM gz
theorem walk{l:PySem.W.OpenLaw}{q:Program}{loose:List Str}{XP:(Str->Option Value)->Heap->Prop}{YP:World->Heap->Prop}{d:DefRec}{K:Params->PySem.W.Frag}(hn:l.most=some 63)(L8:d.params.defaults=[])
  (hY:∀(w:World) (h:Heap),YP w h->(K w.params).In h)
  (F:∀(w:World) (mg:Str->Option Value) (fa:Addr) (h:Heap),(K w.params).In h->h.Ns mainGlobals mg->mg d.name=some (.ref fa) ->
   ∃ fd:FuncData,(∀(s:Shared) (u:Value),BindsTo s fd ⟨[u],[]⟩ [("script",u)])/\∀ base:Heap,(K w.params).In base->base.Ns mainGlobals mg->aW l.prog w (K w.params) mg base cI 11 fa fd ["script"] (Bz (K w.params))) :
  PySem.W.WalkO q loose XP YP l.row.toRowW d [] (fun f vs=>PySem.call f vs) :=
 L2.DU (n:=63) (k:=11) (x := "script") (CX:=fun _=>cI) (sp:=fun w=>Bz (K w.params)) hn (by decide) L8 ⟨rfl,by decide,by decide⟩ hY F (fun _ _ a ns hl _ hS=>⟨a,ns,rfl,hS,hl,fun _=>rfl⟩) fun _ _ _ _ _ z=>z
end T1
open PySem PySem.W PyProof.Rows
set_option maxRecDepth 100000 in
set_option maxHeartbeats 0 in
theorem PySem.Challenge.cw_twomakes_k22_ends_that_break_a_rule_holds : PySem.Challenge.rw_twomakes_k22_ends_that_break_a_rule.Holds := by
 w_on;o_law
 refine PySem.W.holds_open (q:=HD.q) (loose:=HD.lo) (Xt:=fun s=>xlAt HD.q [] s&&recOk [] s) (XP:=XL HD.q []) (Yf:=Hook.obs (kHook HD.K HD.ad HD.kad)) (Ya:=Hook.val (kHook HD.K HD.ad HD.kad)) (YP:=Hook.says (kHook HD.K HD.ad HD.kad)) (N:=6466) HD.left (Hook.of (kHook HD.K HD.ad HD.kad)) (Hook.keeps (kHook HD.K HD.ad HD.kad)) (fun s e=>xl_of s (Bool.and_eq_true_iff.mp e).1) XL.keeps (by rfl) (by rfl) (by rfl) (fun s e=>recFacts_of (Bool.and_eq_true_iff.mp e).2) (by rfl) (by first | assumption | decide +kernel) (by decide +kernel) ⟨rfl,rfl,rfl,rfl,rfl,by decide +kernel⟩ ?hw ?hc
 (case hw=>w_witness2)
 case hc =>
 k_fill
 refine T1.walk (l:=PySem.Challenge.rw_twomakes_k22_ends_that_break_a_rule) rfl rfl (fun w h Y=>PySem.W.kIn_of Y) ?F
 case F =>
  intro w mg fa h KX G L9
  refine' T1.all_mk KX G L9 T1.bK T1.bK T1.bK T1.bK T1.bK T1.bK T1.bK T1.bK T1.bK T1.bK T1.bK T1.bK T1.bK T1.bK T1.bK T1.bK T1.bK T1.bK T1.bK T1.bK T1.bK T1.bK T1.bK T1.bK T1.bK T1.bK T1.bK T1.bK T1.bK T1.bK T1.bK T1.bK T1.bK ?a34 ?l34 ?c34 ?k34 ?g_PARTS ?h_PARTS ?g_SLOW_WORDS ?h_SLOW_WORDS ?g_WORTHS ?g_CELLS ?g_Resting ?g_NoBell ?g_Shut ?h_Shut ?g_Holder ?h_Holder ?z1 ?z2 ?z3 ?z4 ?z5 ?z6 ?z7 ?z8 ?z9 ?z10 ?z11 ?z12 ?z13
  (case a34=>k_is);(case l34=>k_is);(case c34=>k_is);(case k34=>k_is)
  (case z1=>k_is);(case z2=>k_is);(case z3=>k_is);(case z4=>k_is);(case z5=>k_is);(case z6=>k_is);(case z7=>k_is);(case z8=>k_is);(case z9=>k_is);(case z10=>k_is);(case z11=>k_is);(case z12=>k_is);(case z13=>k_is)
  (case g_PARTS=>k_is)
  case h_PARTS =>
   refine' T1.CT ?lP ?ne ?e1 ?q1 ?e2 ?q2 ?e3 ?q3 ?e4 ?q4 ?e5 ?q5 ?e6 ?q6 ?e7 ?q7 ?e8 ?q8 ?e9 ?q9 ?e10 ?q10
   (case lP=>k_is)
   (case ne=>decide)
   (case e1=>rfl)
   (case q1=>(refine' T1.iL ?t ?z ?v;(case t=>k_is);(case z=>decide);(case v=>exact .cons ⟨_,rfl⟩ (.cons ⟨_,rfl⟩ (.nil)))))
   (case e2=>rfl)
   (case q2=>(refine' T1.iL ?t ?z ?v;(case t=>k_is);(case z=>decide);(case v=>exact .cons ⟨_,rfl⟩ (.cons ⟨_,rfl⟩ (.cons ⟨_,rfl⟩ (.nil))))))
   (case e3=>rfl)
   (case q3=>(refine' T1.iL ?t ?z ?v;(case t=>k_is);(case z=>decide);(case v=>exact .cons ⟨_,rfl⟩ (.cons ⟨_,rfl⟩ (.cons ⟨_,rfl⟩ (.nil))))))
   (case e4=>rfl)
   (case q4=>(refine' T1.iL ?t ?z ?v;(case t=>k_is);(case z=>decide);(case v=>exact .cons ⟨_,rfl⟩ (.cons ⟨_,rfl⟩ (.cons ⟨_,rfl⟩ (.nil))))))
   (case e5=>rfl)
   (case q5=>(refine' T1.iL ?t ?z ?v;(case t=>k_is);(case z=>decide);(case v=>exact .cons ⟨_,rfl⟩ (.cons ⟨_,rfl⟩ (.cons ⟨_,rfl⟩ (.nil))))))
   (case e6=>rfl)
   (case q6=>(refine' T1.iL ?t ?z ?v;(case t=>k_is);(case z=>decide);(case v=>exact .cons ⟨_,rfl⟩ (.cons ⟨_,rfl⟩ (.cons ⟨_,rfl⟩ (.nil))))))
   (case e7=>rfl)
   (case q7=>(refine' T1.iL ?t ?z ?v;(case t=>k_is);(case z=>decide);(case v=>exact .cons ⟨_,rfl⟩ (.cons ⟨_,rfl⟩ (.nil)))))
   (case e8=>rfl)
   (case q8=>(refine' T1.iL ?t ?z ?v;(case t=>k_is);(case z=>decide);(case v=>exact .nil)))
   (case e9=>rfl)
   (case q9=>(refine' T1.iL ?t ?z ?v;(case t=>k_is);(case z=>decide);(case v=>exact .nil)))
   (case e10=>rfl)
   (case q10=>(refine' T1.iL ?t ?z ?v;(case t=>k_is);(case z=>decide);(case v=>exact .nil)))
  (case g_SLOW_WORDS=>k_is)
  case h_SLOW_WORDS =>
   (refine' T1.iL ?t ?z ?v;(case t=>k_is);(case z=>decide);(case v=>exact .cons ⟨_,rfl⟩ (.cons ⟨_,rfl⟩ .nil)))
  (case g_WORTHS=>k_is)
  (case g_CELLS=>k_is)
  (case g_Resting=>k_is)
  (case g_NoBell=>k_is)
  (case g_Shut=>k_is)
  case h_Shut =>
   refine' (And.intro (T1.qV ?u_q0) (And.intro (T1.qV ?u_q1) (T1.qV ?u_q2)))
   (case u_q0=>first | kernel_rfl | rfl)
   (case u_q1=>first | kernel_rfl | rfl)
   (case u_q2=>first | kernel_rfl | rfl)
  (case g_Holder=>k_is)
  case h_Holder =>
   refine' T1.qU.mk (T1.FL ?H_pg ?H_hd ?H_po ?H_sa ?H_na) (T1.KP ?H_im ?H_ia ?H_il ?H_ic ?H_ik ?H_in ?H_iv) T1.fL T1.fL T1.fL T1.fL T1.fL T1.fL T1.fL T1.fL T1.fL T1.fL T1.fL T1.fL T1.fL T1.fL T1.fL
   (case H_pg=>first | kernel_rfl | k_is)
   (case H_hd=>first | kernel_rfl | k_is)
   (case H_po=>first | kernel_rfl | k_is)
   (case H_sa=>first | k_is | kernel_rfl)
   (case H_na=>(refine' ⟨?_,?_,?_,?_,?_,?_,?_,?_,?_,?_,?_,?_,?_,?_,?_,?_,?_,?_,trivial⟩<;>(show PySem.W.findIn _ _ _=some none;first | k_is | kernel_rfl)))
   (case H_im=>first | kernel_rfl | k_is)
   (case H_ia=>k_is)
   (case H_il=>k_is)
   (case H_ic=>k_is)
   (case H_ik=>k_is)
   (case H_in=>first | k_is | kernel_rfl)
   (case H_iv=>k_is)
